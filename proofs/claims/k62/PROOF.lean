import PyProof.Rows.All
import Wide.All
import OpenK.AllK
import Wide.FinOn
import Lean
import PyProof.EqAt
import PyProof.EqKinds
import PyProof.TupleCall
import PySem.SetOps
import PyProof.ZipIter
import PyProof.CollectWalk
import PyProof.Rows.SetFrom
import PyProof.Rows.SortShell
import KE.KRevIter
import PyProof.MaxThree
import KE.KDictList
import PyProof.Rows.Chain
import PyProof.Rows.CountFlat
import KE.KSortAsk
import KE.KItemsList
import KE.KSortTup
import PyProof.Rows.SortRev
import PyProof.Rows.SortWalk
import PyProof.Rows.CallKwBuiltin
import PyProof.WalkInts
import KE.KMinBuiltin
import PySem.Challenge.RW_evenquay_k62_whole_no_plan_stays_below
-- CHANGE: your row's module here, as the last of these rows
set_option compiler.extract_closed false
def PySem.W.Fast.tw833025065015382592:=()
def PySem.W.Fast.tw2683310562623966954:=()
def PySem.W.Fast.tw18209546042904525472:=()
def PySem.W.Fast.tw16333166491694964789:=()
def PySem.W.Fast.tw16752521941306095571:=()
def PySem.W.Fast.tw13114205286874467844:=()
def PySem.W.Fast.tw9108461207961243503:=()
def PySem.W.Fast.tw15737575478100564296:=()
def PySem.W.Fast.tw13941857996578911637:=()
def PySem.W.Fast.tw9335560097895888285:=()
def PySem.W.Fast.tw17404039649838770055:=()
def PySem.W.Fast.tw1997892879644619949:=()
def PySem.W.Fast.tw18054838559472755738:=()
def PySem.W.Fast.tw15173127873145159074:=()
def PySem.W.Fast.tw6576002510616323129:=()
namespace QA
theorem a0 (h:True:=by first | exact .inl rfl | exact .inr rfl | assumption):True:=h
theorem a1 (h:True:=by decide):True:=h
theorem a2 (h:True:=by first | exact nobehind _ (by decide) (by decide) | rfl):True:=h
theorem a3 (h:True:=by intro _;rfl):True:=h
theorem a4 (h:True:=by rfl):True:=h
theorem a5 (h:True:=by intros;rfl):True:=h
theorem a6 (h:True:=by with_unfolding_all rfl):True:=h
theorem a7 (h:True:=by first | exact fun _=>Or.inl rfl | exact fun _=>Or.inr (Or.inl rfl) | exact fun _=>Or.inr (Or.inr rfl)):True:=h
theorem a8 (h:True:=by exact fun _ _=>rfl):True:=h
theorem a9 (h:True:=by first | exact nomark _ | rfl):True:=h
theorem a10 (h:True:=by intro _ _;rfl):True:=h
theorem a11 (h:True:=by exact fun _=>PassesOwn.never):True:=h
theorem a12 (h:True:=by first | exact fun _ _=>rfl | intros;rfl):True:=h
end QA
set_option genInjectivity false
local macro_rules | `(tactic| omega)=>`(tactic| first | lia | omega (config:={}))
set_option Elab.async false
set_option linter.all false
set_option maxRecDepth 100000
noncomputable section
section
open PySem PySem.Spec PySem.W PySem.Calls PyProof.Rows PyProof.V
abbrev Ya:=@List.getElem?_eq_getElem
abbrev Yb:=@wpAny_bind
abbrev Yc:=@List.getD_eq_getElem?_getD
abbrev Yd:=@List.length_map
abbrev Ye:=@List.mem_cons_self
abbrev Yf:=@Option.bind_some
abbrev Yg:=@List.mem_cons_of_mem
abbrev Yh:=@Heap.get?_push_of_some
abbrev Yi:=@Bool.false_ne_true
abbrev Yj:=@wpAny_pure
abbrev Yk:=@List.getElem?_cons_zero
abbrev Yl:=@Option.map_some
abbrev Ym:=@List.getElem?_eq_some_iff
abbrev Yn:=@List.mem_cons
abbrev Yo:=@Nat.lt_of_lt_of_le
abbrev Yp:=@List.getElem?_cons_succ
abbrev Yq:=@Nat.le_refl
abbrev Ys:=@PySem.W.mg_of
abbrev Yt:=@Int.toNat_natCast
abbrev Yu:=@List.mem_singleton
abbrev Yv:=@Nat.ne_of_lt
abbrev Yw:=@Heap.lt_size
abbrev Yx:=@List.pairwise_cons
abbrev Yy:=@Heap.get?_push_size
abbrev Yz:=@List.getElem?_eq_none
abbrev YA:=@List.length_cons
abbrev YB:=@List.mem_of_getElem?
abbrev YC:=@List.getElem?_append_right
abbrev YD:=@List.not_mem_nil
abbrev YE:=@List.mem_append_left
abbrev YF:=@List.getElem?_append_left
abbrev YG:=@List.map_map
abbrev YH:=@List.set_cons_succ
abbrev YI:=@List.size_toArray
abbrev YJ:=@List.set_cons_zero
abbrev YK:=@Array.getElem?_eq_getElem
abbrev YL:=@Array.length_toList
abbrev YM:=@List.mem_append_right
abbrev YN:=@PySem.W.mg_none_of
abbrev YO:=@decide_eq_true
abbrev YQ:=@List.getElem?_zip_eq_some
abbrev YR:=@List.length_append
abbrev YS:=@List.getElem?_set_ne
abbrev YT:=@List.lookup_cons
abbrev YU:=@Heap.get?_update_self
abbrev YV:=@decide_eq_false
abbrev YW:=@Nat.le_trans
abbrev YX:=@Int.mul_le_mul_of_nonneg_right
abbrev YY:=@Bool.false_eq_true
abbrev YZ:=@List.mem_append
abbrev Y0:=@List.map_append
abbrev Y1:=@Nat.lt_irrefl
abbrev Y2:=@Nat.lt_or_ge
abbrev Y3:=@List.mem_map
abbrev Y4:=@List.getElem?_eq_none_iff
abbrev Y5:=@PyProof.Rows.callWith_type1
abbrev Y6:=@List.getElem?_set_self
abbrev Y7:=@PySem.boot_len
abbrev Y8:=@wpAny_holding
abbrev Y9:=@Int.le_of_lt
abbrev ya:=@List.length_nil
abbrev yb:=@Array.getElem?_toList
abbrev yc:=@List.nodup_cons
abbrev yd:=@Around.under_plainId
abbrev ye:=@Nat.zero_le
abbrev yf:=@Int.emod_lt_of_pos
abbrev yg:=@wpAny_updateSeq
abbrev yh:=@Heap.size_push
abbrev yi:=@wpAny_setState_of
abbrev yj:=@wpAny_mono
abbrev yk:=@Int.le_refl
abbrev yn:=@Nat.ne_of_gt
abbrev yo:=@Heap.get?_update_other
abbrev yp:=@Array.getElem?_eq_none
abbrev yq:=@if_true
abbrev yr:=@PySem.W.kia_one
abbrev yt:=@plainId_quiet
abbrev yu:=@if_false
abbrev yv:=@List.filter_cons
abbrev yw:=@List.replicate_succ
abbrev yx:=@List.getElem_of_mem
abbrev yy:=@List.getElem?_range
abbrev yz:=@PySem.F.slot_dict_get
abbrev yA:=@wpAny_setField_rec
abbrev yB:=@codeAny_builtin
abbrev yC:=@List.zip_cons_cons
abbrev yD:=@Int.emod_nonneg
abbrev yE:=@Calls.spliced_cons
abbrev yF:=@wpAny_call_entry
abbrev yG:=@Nat.le_add_right
abbrev yH:=@wpAny_truthy_bool
abbrev yI:=@of_decide_eq_true
abbrev yJ:=@Nat.lt_succ_of_lt
abbrev yK:=@Nat.lt_trans
abbrev yL:=@Nat.le_of_lt
abbrev yM:=@List.append_nil
abbrev yN:=@Nat.lt_of_le_of_lt
abbrev yO:=@Nat.lt_succ_self
abbrev yP:=@Int.mul_le_mul_of_nonneg_left
abbrev yQ:=@wpAny_seqItems
abbrev yR:=@PyProof.Rows.F.plain_set_update_loop
abbrev yS:=@List.map_nil
abbrev yT:=@Int.mul_nonneg
abbrev yU:=@List.ext_getElem?
abbrev yV:=@Calls.spliced_nil
abbrev yW:=@wpAny_specialOf
abbrev yX:=@PySem.F.slot_enumerate_iter
abbrev yY:=@List.map_congr_left
abbrev yZ:=@Array.getD_eq_getD_getElem?
abbrev y9:=@PySem.F.entry_dict_get
abbrev Kb:=@F.plain_max_loop
abbrev Kc:=@tupleKind_room_in1
abbrev Kd:=@builtinLookup_eq_fast
abbrev Ke:=@PySem.F.plain_extend_loop
abbrev Kf:=@List.pairwise_iff_getElem
abbrev Kg:=@wpAny_passesOwn
abbrev Kh:=@wpAny_newObj_type
abbrev Ki:=@wpAny_ite_split
abbrev Kj:=@List.of_mem_zip
abbrev Kk:=@List.length_zip
abbrev Kl:=@List.append_assoc
abbrev Km:=@Int.le_trans
abbrev Kn:=@wpAny_callSpecial?_slot
abbrev Ko:=@beq_eq_false_iff_ne
abbrev Kp:=@PySem.mem_of_lookup
abbrev Kq:=@List.filterMap_cons
abbrev Kr:=@List.getElem_mem
abbrev Ks:=@Calls.callWith_builtin
abbrev Kt:=@wpAny_Call_Name_kw
abbrev Ku:=@List.find?_cons
abbrev Kv:=@or_false
abbrev Kw:=@List.getElem?_nil
abbrev Kx:=@List.flatten_cons
abbrev Kz:=@PyProof.Rows.F.entry_set_update_loop
abbrev KA:=@List.mem_range
abbrev KB:=@List.drop_eq_getElem_cons
abbrev KC:=@List.getElem_inj
abbrev KD:=@Bool.and_eq_true
abbrev KF:=@sizeLine_eq
abbrev KG:=@Nat.le_succ
abbrev KH:=@List.replicate_zero
abbrev KI:=@List.mem_map_of_mem
abbrev KJ:=@Array.getElem?_push
abbrev KL:=@Nat.zero_add
abbrev KM:=@typeLookup_type
abbrev KN:=@boot_sum
abbrev KO:=@PySem.F.plainAttrs_dict
abbrev KP:=@PySem.F.args_dict_get_2
abbrev KQ:=@Nat.not_lt_zero
abbrev KR:=@List.mem_filter
abbrev KS:=@wpAny_nextOf_list_item
abbrev KU:=@List.range_succ_eq_map
abbrev KW:=@List.drop_eq_nil_of_le
abbrev KY:=@Nat.not_lt
abbrev KZ:=@List.nodup_append
abbrev K0:=@wpAny_tryCatch
abbrev K1:=@decide_false
abbrev K2:=@call_meetsIn
abbrev K4:=@Nat.sub_self
abbrev K5:=@Int.zero_add
abbrev K6:=@wpAny_isInstance
abbrev K7:=@wpAny_askSetting
abbrev K8:=@beq_self_eq_true
abbrev K9:=@Option.getD_some
abbrev ka:=@List.map_reverse
abbrev kb:=@List.length_take
abbrev kc:=@List.getElem_map
abbrev kd:=@List.cons_append
abbrev ke:=@Calls.evalArgs_plain
abbrev kj:=@wpAny_rule
abbrev kl:=@wpAny_letGo
abbrev km:=@wpAny_field
abbrev kn:=@wpAny_execs_nil
abbrev ko:=@pushCells_keeps
abbrev ku:=@List.nil_append
abbrev kx:=@List.length_reverse
abbrev ky:=@F.slot_zip_next
abbrev kz:=@F.plain_extend_loop
abbrev kA:=@Bool.eq_iff_iff
abbrev kD:=@codeAny_mono
abbrev kE:=@Nat.min_self
abbrev kF:=@Int.zero_mul
abbrev kG:=@Int.sub_zero
abbrev kH:=@Int.lt_trans
abbrev kJ:=@Int.add_zero
abbrev kL:=@beq_iff_eq
abbrev kM:=@decide_true
end
set_option hygiene false
local macro_rules | `(‹"a"›)=>`(fun _=>Or.inl rfl)
local macro_rules | `(‹"b"›)=>`(.lst (rooms.map jh))
local macro_rules | `(‹"c"›)=>`(jI 10 (jk jO (jM (zV (jc (eC (.int 0)) (jc (jk jO (ja 5) (ja 8)) (jc (jk JA (jk zd (jk jO (ja 5) (ja 8)) (jk qC (jk JA (ja 9) (eC (.int 4))) (eC (.int 9)))) (eC (.int 8))) (jc (jk qC (jk JA (ja 9) (eC (.int 4))) (jk qL (jk jO (ja 5) (ja 8)) (eC (.int 1)))) jj)))))) (jk qC (ja 9) (eC (.int 4)))))
local macro_rules | `(‹"d"›)=>`(model X.prog X.w)
local macro_rules | `(‹"e"›)=>`(X.blk (Lc++F) scope C s H fp)
local macro_rules | `(‹"f"›)=>`(.lst (needs.map D.int))
local macro_rules | `(‹"g"›)=>`(fun _=>hr.mono (by decide))
local macro_rules | `(‹"h"›)=>`(.lst (fl.map jm))
local macro_rules | `(‹"i"›)=>`((x == ("__debug__":Str))=false)
local macro_rules | `(‹"j"›)=>`(jw (jw rfl rfl (zc (by decide) (by decide))) rfl (jZ (by decide)))
local macro_rules | `(‹"k"›)=>`(.lst (part.map jh))
local macro_rules | `(‹"l"›)=>`(fun _=>some true)
local macro_rules | `(‹"m"›)=>`(fun i=>needs.getD i 0)
local macro_rules | `(‹"n"›)=>`(.lst (cells.map D.int))
local macro_rules | `(‹"o"›)=>`(.ListComp elt [⟨tg,iter,ifs,0⟩] scope pos)
local macro_rules | `(‹"p"›)=>`(fun _=>Or.inr rfl)
local macro_rules | `(‹"q"›)=>`(fun _=>show List.Nodup (["ship"]:List Str) from by decide +kernel)
local macro_rules | `(‹"r"›)=>`(.lst (P.map jh))
local macro_rules | `(‹"s"›)=>`(fun s=>hours.getD s 0)
local macro_rules | `(‹"t"›)=>`(.int (jN (need-jr (fun j=>if M.getD j false=true then 0 else rs.getD j 0) rs.length)))
local macro_rules | `(‹"u"›)=>`(WE.toT (qX b_len (fun _=>rfl) (fun _=>T.b_len) Y7 (jn (jb 2) jE)))
local macro_rules | `(‹"v"›)=>`(WE.toT (qX b_len (fun _=>rfl) (fun _=>T.b_len) Y7 (jn (jb 0) jE)))
local macro_rules | `(‹"w"›)=>`([.sh (jh A),.sh (jh B),.sh (qo M),.ow (((List.range j).map (jv M A B)).map D.int),.sh (.int j),.sh (.bl (M.getD j false)),z])
local macro_rules | `(‹"x"›)=>`(starEach (e::es) X.env=(false,eval e X.env)::starEach es X.env)
local macro_rules | `(‹"y"›)=>`(k == NameKind.free && env.scope.kind == .function && env.kindOf n == some .cell)
local macro_rules | `(‹"z"›)=>`(.lst (Mo.map D.int))
local macro_rules | `(‹"A"›)=>`(Zx (qV (ja 6)) (Zx (qV (jk dLt (ja 8) (jk jO (jk jO (ja 1) (ja 4)) (ja 7)))) (qV (jk (jaD true) (ja 7) (ja 3)))))
local macro_rules | `(‹"B"›)=>`(.tup [.int (qZ P0 n),.lst (P0.map jh),.lst (M0.map D.bl)])
local macro_rules | `(‹"C"›)=>`(jI 11 (jk qC (jk qL (ja 8) (jk jO (ja 1) (jk qC (ja 4) (ji qS (jc (ja 1) jj))))) (ji qS (jc (ja 2) jj))))
local macro_rules | `(‹"D"›)=>`(s.heap.update a (Obj.mapSeq fun _=>#[]))
local macro_rules | `(‹"E"›)=>`(jI 9 (jk jO (ja 1) (jk qC (jk qL (jk zd (ja 4) (ji qS (jc (ja 2) jj))) (ja 8)) (ji qS (jc (ja 1) jj)))))
local macro_rules | `(‹"F"›)=>`(.lst ((jb0 P (jt fl).length).map D.int))
local macro_rules | `(‹"G"›)=>`(qe I q (by simp))
local macro_rules | `(‹"H"›)=>`(pushCells (G.push { cls:=.type "dict",data:=.dict #[] }) scope.names)
local macro_rules | `(‹"I"›)=>`(Nat×Option Nat×Nat)
local macro_rules | `(‹"J"›)=>`(.lst (tops.map D.int))
local macro_rules | `(‹"K"›)=>`(fun s=>marks.getD s false)
local macro_rules | `(‹"L"›)=>`(.lst (hours.map D.int))
local macro_rules | `(‹"M"›)=>`(.ListComp e [⟨tg,iter,ifs,0⟩] scope pos)
local macro_rules | `(‹"N"›)=>`(X.fn x=true\/X.env.scope.names.lookup x=some .local)
local macro_rules | `(‹"O"›)=>`(.Call (.Name x p) (e::es) [] pos)
local macro_rules | `(‹"P"›)=>`(fun _=>sc__law_plan.nd)
local macro_rules | `(‹"Q"›)=>`(jI 12 (ji jad (jc (ja 6) (jc (jk zD (jk jO (ja 5) (ja 11)) (jk jO (ja 7) (ja 11))) jj))))
local macro_rules | `(‹"R"›)=>`(fun _=>hr.mono (by omega))
local macro_rules | `(‹"S"›)=>`(.dic (kI ks) ds)
local macro_rules | `(‹"T"›)=>`(jI 3 (jk zd (jk zD (jk qC (jk zd (ja 0) (eC (.int 1103515245))) (eC (.int 2147483647))) (jk jba (eC (.int 10)) (eC (.int 9)))) (jk jba (eC (.int 10)) (eC (.int 5)))))
local macro_rules | `(‹"U"›)=>`(.lst ((jt fl).map jD))
local macro_rules | `(‹"V"›)=>`(ji Q7 (jc (jq 0) (jc (jq 1) (jc (jq 6) (jc (jq 7) jj)))))
local macro_rules | `(‹"W"›)=>`([.sh (.int T),.sh (.int l),.sh (.int (T/l)),.sh (.int (T%l)),.ow [jD (T/l,l-T%l)]])
local macro_rules | `(‹"X"›)=>`(s.heap.push { cls:=.type "range",data:=.fields #[.int lo t,.int hi u,.int 1 v] })
local macro_rules | `(‹"Y"›)=>`(∀x,foldedSetIterable iter X.env x=pure x)
local macro_rules | `(‹"Z"›)=>`(s.heap.push { cls:=.type "set",dict:=none,data:=.set #[] 0 (.fresh 0 0 led) })
local macro_rules | `(‹"0"›)=>`(jw rfl rfl (jZ (by decide)))
local macro_rules | `(‹"1"›)=>`(ZO (by rw [M.hN j];exact hN) (hv j) hd hcd)
local macro_rules | `(‹"2"›)=>`(ha pins s σ H _ I h)
local macro_rules | `(‹"3"›)=>`(Qz (jc (ji qS (jc (ja 2) jj)) jj))
local macro_rules | `(‹"4"›)=>`(∀j x,foldedSetIterable iter (M.X j).env x=pure x)
local macro_rules | `(‹"5"›)=>`(envOfC qual scope s.heap.objs.size f cd)
local macro_rules | `(‹"6"›)=>`(∀j,swapsWith e (some (.Name x pos')) pos.line (M.X j).env=pure false)
local macro_rules | `(‹"7"›)=>`(Zx (qV (jk dGt (ji qS (jc (ja 3) jj)) (eC (.int 1)))) (qV (jk dEq (jk qC (jk JA (ja 2) (eC (.int 24))) (eC (.int 4))) (eC (.int 1)))))
local macro_rules | `(‹"8"›)=>`(PySem.W.fnOf x qual (jJ st) (jG st) (jd st) .none kV doc pm an cdv ct)
local macro_rules | `(‹"9"›)=>`(.Call (.Name "sorted" p1) [.Call (.Attribute o "items" apos) [] [] pos2] [⟨some "reverse",.Constant (.bool true) 0 cp,kp⟩] pos1)
local macro_rules | `(‹"aa"›)=>`(∀b o,s.heap.get? b=some o → h'.get? b=some o)
local macro_rules | `(‹"ab"›)=>`(s.heap.push { cls:=.type "list",data:=.seq ([]:List Value).toArray })
local macro_rules | `(‹"ac"›)=>`(JD 7 (ji jbJ (jc (ja 6) (jc (jk jO (ja 5) (ja 8)) (jc (ja 10) jj)))))
local macro_rules | `(‹"ad"›)=>`(fun j=>jaj f (jS P j) (qB fl j))
local macro_rules | `(‹"ae"›)=>`((x1.trans x2).trans x3)
local macro_rules | `(‹"af"›)=>`(intKind prog w)
local macro_rules | `(‹"ag"›)=>`(fun _=>show List.Nodup (["share"]:List Str) from by decide +kernel)
local macro_rules | `(‹"ah"›)=>`(Zy needs rooms M)
local macro_rules | `(‹"ai"›)=>`(∀b o,s.heap.get? b=some o->h'.get? b=some o)
local macro_rules | `(‹"aj"›)=>`(jk jO (ja 0) (eC (.int 0)))
local macro_rules | `(‹"ak"›)=>`(apos.endLine == cpos.line)
local macro_rules | `(‹"al"›)=>`((x == ("__classdict__":Str))=false)
local macro_rules | `(‹"am"›)=>`([.sh (.scr ns),.sh (.int st),.sh (.int c),.ow (fl.map jm),x,y])
local macro_rules | `(‹"an"›)=>`(fun _=>sc__law_ship.nd)
local macro_rules | `(‹"ao"›)=>`(M.blk (Lc++Fn) scope)
local macro_rules | `(‹"ap"›)=>`(.lst (p.map ql))
local macro_rules | `(‹"aq"›)=>`(∃P marks,d=.tup [.int (qZ P n),.lst (P.map jh),.lst (marks.map D.bl)]/\Fill n m needs rooms tops P0 P marks)
local macro_rules | `(‹"ar"›)=>`(wpAny_attempt (Kn (name:=Str.ofString "__next__") hT ky (yF ky hT F.entry_zip_next ?_ (F.args_zip_next_1 _))))
local macro_rules | `(‹"as"›)=>`(by simpa using hi)
local macro_rules | `(‹"at"›)=>`(wpAny_attempt (Kn (name:=Str.ofString "__next__") hT slot_setit_next (yF slot_setit_next hT QX ?_ (Zp _))))
local macro_rules | `(‹"au"›)=>`(qX b_sum (fun _=>rfl) (fun _=>T.b_sum) KN (jn (jb 0) jE))
local macro_rules | `(‹"av"›)=>`(by simp (disch:=omega) only [Jm,zV,jj,Yf,ya,jV,yq,YH,YJ])
local macro_rules | `(‹"aw"›)=>`(jk jO (ja 0) (ja 4))
local macro_rules | `(‹"ax"›)=>`(jP (jb 0) (WE.toT (qy (fun _=>rfl) (fun _=>T.g_BEGIN))))
local macro_rules | `(‹"ay"›)=>`(fun i t=>room i (pl (nt M) m t))
local macro_rules | `(‹"az"›)=>`(SetTable.grown es1.size)
local macro_rules | `(‹"aA"›)=>`(Qh 2 (j2 (jz 0) (j2 (jz 1) Qn)))
local macro_rules | `(‹"aB"›)=>`(((Q.getD i []).map D.int).set s (.int (g (j5 Q i s) v)))
local macro_rules | `(‹"aC"›)=>`(jk jO (ja 0) (eC (.int 1)))
local macro_rules | `(‹"aD"›)=>`(∀a vs G' H',Ext G H G' H'->H a=none->G' a=none->H' a=some (.lst vs)->Reps G' vs ds->Q (.ref a) H')
local macro_rules | `(‹"aE"›)=>`(jP (jb 0) (WE.toT (qy (fun _=>rfl) (fun _=>T.g_END))))
local macro_rules | `(‹"aF"›)=>`(Qu (by simp (disch:=omega) only [jc,ji,ja,Yp,Yk,jj,Yl,Yf,jaz];simp only [Yd]) (by omega) (by omega))
local macro_rules | `(‹"aG"›)=>`(A.deeper (envOfC qual (jd st) s.heap.objs.size f cdv))
local macro_rules | `(‹"aH"›)=>`((y == ("__debug__":Str))=false)
local macro_rules | `(‹"aI"›)=>`(he pins s σ H _ I h)
local macro_rules | `(‹"aJ"›)=>`(qr (h pos pins s σ H _ I hq) fun us s1 ⟨xs,H1,I1,r,z,q⟩=>⟨by rw [<-r.length];exact z,?_⟩)
local macro_rules | `(‹"aK"›)=>`(jeX 7 (jq 11) (jk qL (jk jO (ja 7) (ja 11)) (ja 12)))
local macro_rules | `(‹"aL"›)=>`(by decide +kernel)
local macro_rules | `(‹"aM"›)=>`(assignEach es (M.X j).env)
local macro_rules | `(‹"aN"›)=>`(.dic (kI ks0) ds0)
local macro_rules | `(‹"aO"›)=>`(qr (ha pos pins s σ H _ I h) fun us s1 ⟨vs,H1,I1,r1,q1⟩=>hc pins s1 σ H1 vs us Q I1 r1 q1)
local macro_rules | `(‹"aP"›)=>`(ih ds (by simpa using hl) fun i v d h1 h2=>hh (i+1) v d (by simpa using h1) (by simpa using h2))
local macro_rules | `(‹"aQ"›)=>`(HT.sIx xs.length xs.length hi-HT.sIx xs.length 0 lo)
local macro_rules | `(‹"aR"›)=>`(.lst (S.map jD))
local macro_rules | `(‹"aS"›)=>`((List.range (min i1.toArray.size i2.toArray.size)).all e && i1.toArray.size == i2.toArray.size)
local macro_rules | `(‹"aT"›)=>`(jI 4 (jk qL (jk qL (ja 3) (eC (.int 1))) (jk qC (jk JA (ja 0) (eC (.int 6))) (eC (.int 5)))))
local macro_rules | `(‹"aU"›)=>`(jk (jaD false) (ja 7) (ja 3))
local macro_rules | `(‹"aV"›)=>`(fun r s'=>r=.ok (.ret (.bool true))/\OldK s₁.heap s'.heap/\s'.os=s₁.os/\AllBare s'.gens)
local macro_rules | `(‹"aW"›)=>`(Obj.mapSeq fun _=>(#[]:Array Value))
local macro_rules | `(‹"aX"›)=>`(c ρ=some true/\((∃ρ2 k2,B ρ=.next ρ2/\k2<k/\P k2 ρ2)\/∃d,B ρ=.ret d/\R (.ret d)))
local macro_rules | `(‹"aY"›)=>`(fun _=>sc_law.nd)
local macro_rules | `(‹"aZ"›)=>`((y == ("__classdict__":Str))=false)
local macro_rules | `(‹"a0"›)=>`(fun b hb=>⟨(hf b hb).2.2.2.1,(hf b hb).2.1,(hf b hb).2.2.2.2.1,(hf b hb).2.2.2.2.2⟩)
local macro_rules | `(‹"a1"›)=>`(W.frame _ _ _ hst1 fun b hb o q=>(yo _ _ (fun z:S=b=>hSf (by rw [z];exact hb))).trans q)
local macro_rules | `(‹"a2"›)=>`(KS (h1.extBut s1.extBut D.i1z) (hl1.extBut s1.extBut D.l1z) hx fun g2 p2 s2=>Yj (Yj ?_))
local macro_rules | `(‹"a3"›)=>`(je (WO.toE (Qe (sc:=jd jL) (Lc:=["share"]) (Fn:=["marks"]) (ix:=[3]) (fun _=>rfl) (show LcOk (jd jL) ["needs","rooms","hours","marks","inside","outside","high","low"] _ ["marks"] [3] from by decide +kernel) (j7 (jb 1)) (j8 (i:=0) (fun _=>show List.Nodup (["share","marks"]:List Str) from by decide +kernel) rfl (by decide) ‹"a"› ‹"p"›) jX (WO.toE (j9 (fun _=>jb8 T) ‹"R"› (fun _=>rfl) (fun _=>T.M_kept) (fun _=>T.F_kept.kp) (fun _=>T.B_kept) (je (jo 0) (je (jo 1) (je jhU jx))))))) (je (WO.toE (j9 (fun _=>jb8 T) ‹"R"› (fun _=>rfl) (fun _=>T.M_kept) (fun _=>T.F_kept.kp) (fun _=>T.B_kept) (je (jo 2) (je (jo 3) (je jhU jx))))) jx))
local macro_rules | `(‹"a4"›)=>`(WO.toE (j9 (fun _=>Q8 T) ‹"g"› (fun _=>rfl) (fun _=>T.M_stretches) (fun _=>T.F_stretches.kp) (fun _=>T.B_stretches) (je (jo 0) jx)))
local macro_rules | `(‹"a5"›)=>`(j8 (i:=0) ‹"q"› rfl (by decide) ‹"a"› ‹"p"›)
local macro_rules | `(‹"a6"›)=>`([.sh ‹"b"›,.sh ‹"k"›,a,.od (kI ks) ds,.ow (nI ks),t,.sh (.int off),.sh (.int on),x8])
local macro_rules | `(‹"a7"›)=>`(ji JB (jc (jM (JV (jY (ja 1)) (jz 0) ‹"l"› (jk jO (ja 0) (ja 1)) 1 [0])) jj))
local macro_rules | `(‹"a8"›)=>`([.sh ‹"f"›,.sh ‹"b"›,.sh ‹"L"›,.sh (.int lv),.sh ‹"B"›,.un])
local macro_rules | `(‹"a9"›)=>`([.sh ‹"f"›,.sh ‹"b"›,.sh ‹"L"›,.sh (.int lv),.sh ‹"B"›,.sh (.tup [.int (qZ P1 n),.lst (P1.map jh),.lst (M1.map D.bl)])])
local macro_rules | `(‹"ba"›)=>`([.sh ‹"f"›,.sh ‹"b"›,.sh ‹"J"›,.sh ‹"r"›,x4,x5,x6,x7,x8])
local macro_rules | `(‹"bb"›)=>`(j8 (i:=0) (fun _=>show List.Nodup (["many","level"]:List Str) from by decide +kernel) rfl (by decide) ‹"a"› ‹"p"›)
local macro_rules | `(‹"bc"›)=>`([z0,.sh ‹"n"›,.sh (.lst parts),z3,.sh (.int i),.sh ‹"z"›,.sh (.int left),.ow (R.map D.int),.sh (.int j),f,g,h,w])
local macro_rules | `(‹"bd"›)=>`(fun v s₁=>wpAny ‹"d"› X.A (eval b X.env) (fun u s₂=>wpAny ‹"d"› X.A (f v u) Q X.xe s₂) X.xe s₁)
local macro_rules | `(‹"be"›)=>`([.sh ‹"S"›,.sh (.int s0),.ow (suf.reverse.map ql),.sh d])
local macro_rules | `(‹"bf"›)=>`(j8 (i:=0) ‹"ag"› rfl (by decide) ‹"a"› ‹"p"›)
local macro_rules | `(‹"bg"›)=>`([.sh ‹"f"›,.sh ‹"b"›,.sh ‹"J"›,.sh ‹"r"›,.sh ‹"S"›,.sh (.lst (nI fr)),x6,x7,x8])
local macro_rules | `(‹"bh"›)=>`([.sh ‹"b"›,.sh ‹"k"›,.sh ‹"aN"›,.od (kI ks) ds,.ow (nI ks),.sh (.int (t:Int)),x6,x7,x8])
local macro_rules | `(‹"bi"›)=>`(JU (fun _=>rfl) (fun _=>T.b_range) (jn ‹"u"› jE))
local macro_rules | `(‹"bj"›)=>`(jF (i:=3) (Jh (WE.toT (zr (jb 0) (WE.toT ju))) (WE.toT ju)) ‹"an"› rfl ‹"a"› ‹"a"›)
local macro_rules | `(‹"bk"›)=>`(j4 (jw (jw rfl rfl j1) ‹"j"› j1))
local macro_rules | `(‹"bl"›)=>`([.sh ‹"f"›,.sh ‹"b"›,.sh ‹"k"›,.sh ‹"ap"›,.sh (.int i0),.un,.un,.un,.un])
local macro_rules | `(‹"bm"›)=>`(WE.toT (WO.toE (Qe (sc:=jd j3) (Lc:=["ship"]) (Fn:=[]) (ix:=[]) (fun _=>rfl) (show LcOk (jd j3) ["fleet","hours"] _ [] [] from by decide +kernel) (j7 (jb 0)) ‹"a5"› jX (jP (jb 0) (WE.toT ju)))))
namespace L2
open PySem PySem.Spec PyProof.Rows
abbrev zw:=Sum Int Str
def ZN:zw->Value->Bool
 | .inl k,v=>Value.isInt k v
 | .inr x,v=>Value.isStrOf x v
def jrv (w:World):zw->Int
 | .inl k=>hashInt k
 | .inr x=>hashStr w x
theorem j6:∀{k:zw} {v:Value},ZN k v=true->(∃i t,k=Sum.inl i/\v=Value.int i t)\/(∃x t,k=Sum.inr x/\v=Value.str x t)
 | .inl i,v,h=>by obtain ⟨t,e⟩:=Value.isInt_shape (k:=i) (v:=v) h;exact .inl ⟨i,t,rfl,e⟩
 | .inr x,v,h=>by obtain ⟨t,e⟩:=Value.isStrOf_shape (x:=x) (v:=v) h;exact .inr ⟨x,t,rfl,e⟩
theorem jjh (i:Int) (t:Tok):ZN (.inl i) (.int i t)=true:=by simp [ZN,Value.isInt]
theorem jj5 (x:Str) (t:Tok):ZN (.inr x) (.str x t)=true:=by simp [ZN,Value.isStrOf]
theorem jpK (a b:Int):decide ((Sum.inl a:zw)=Sum.inl b)=(a == b):=by
 by_cases e:a=b
 . subst e;simp
 . have h:¬(Sum.inl a:zw)=Sum.inl b:=fun q=>e (Sum.inl.inj q);rw [YV h];exact (Ko.mpr e).symm
theorem jpa (a b:Str):decide ((Sum.inr a:zw)=Sum.inr b)=decide (a=b):=by
 by_cases e:a=b
 . subst e;simp
 . have h:¬(Sum.inr a:zw)=Sum.inr b:=fun q=>e (Sum.inr.inj q);rw [YV h,YV e]
theorem jqs (a:Int) (b:Str):decide ((Sum.inl a:zw)=Sum.inr b)=false:=YV (fun q=>nomatch q)
theorem jo9 (a:Str) (b:Int):decide ((Sum.inr a:zw)=Sum.inl b)=false:=YV (fun q=>nomatch q)
def jT (prog:Program) (w:World):PySem.KeyKind prog w zw where
 is:=ZN
 hash:=jrv w
 inj:=fun v a b ha hb=>by
   rcases j6 ha with ⟨i,t,rfl,rfl⟩ | ⟨x,t,rfl,rfl⟩
   . rcases j6 hb with ⟨j,u,rfl,e⟩ | ⟨y,u,rfl,e⟩
     . injection e with e1 _;rw [e1]
     . exact nomatch e
   . rcases j6 hb with ⟨j,u,rfl,e⟩ | ⟨y,u,rfl,e⟩
     . exact nomatch e
     . injection e with e1 _;rw [e1]
 byValue:=fun k v h=>by rcases j6 h with ⟨i,t,rfl,rfl⟩ | ⟨x,t,rfl,rfl⟩ <;> rfl
 pyHash:=fun hv h=>by
   rcases j6 hv with ⟨i,t,rfl,rfl⟩ | ⟨x,t,rfl,rfl⟩
   . exact wpAny_pyHash_int h
   . exact wpAny_pyHash_str h
 eqBool:=fun hu hv h=>by
   rcases j6 hu with ⟨i,t,rfl,rfl⟩ | ⟨x,t,rfl,rfl⟩
   . rcases j6 hv with ⟨j,u,rfl,rfl⟩ | ⟨y,u,rfl,rfl⟩
     . rw [jpK] at h;exact wpAny_eqBool_int h
     . rw [jqs] at h;exact SeqAt.EqAt.int_str i t y u _ _ _ _ h
   . rcases j6 hv with ⟨j,u,rfl,rfl⟩ | ⟨y,u,rfl,rfl⟩
     . rw [jo9] at h;exact SeqAt.EqAt.str_int x t j u _ _ _ _ h
     . rw [jpa] at h;exact wpAny_eqBool_str h
 «strs»:=fun k x t v h=>by
   rcases j6 h with ⟨i,u,rfl,e⟩ | ⟨y,u,rfl,e⟩
   . exact nomatch e
   . injection e with e1 _;subst e1;cases v <;> rfl
theorem jgb (prog:Program) (w:World) (i:Int) (t:Tok):(jT prog w).is (.inl i) (.int i t)=true:=jjh i t
theorem jgc (prog:Program) (w:World) (x:Str) (t:Tok):(jT prog w).is (.inr x) (.str x t)=true:=jj5 x t
end L2
namespace L2
open PySem PySem.Spec PyProof.Rows
set_option genInjectivity true in
inductive V where
 | non | bl (b:Bool) | int (i:Int) | str (x:Str) | byt (b:Array UInt8) | flt (b:UInt64) | ref (a:Addr) | ty (n:String)
 deriving DecidableEq
def RelV:V->Value->Prop
 | .non,u=>u=Value.none
 | .bl b,u=>u=Value.bool b
 | .int i,u=>∃t,u=Value.int i t
 | .str x,u=>∃t,u=Value.str x t
 | .byt b,u=>∃t,u=Value.bytes b t
 | .flt b,u=>∃t,u=Value.float b t
 | .ref a,u=>u=Value.ref a
 | .ty n,u=>u=Value.type n
abbrev Vals:List V->List Value->Prop:=Paired RelV
theorem Vals.length {xs:List V} {us:List Value} (r:Vals xs us):xs.length=us.length:=Paired.length r
theorem Vals.get:∀{xs:List V} {us:List Value} {i:Nat} {x:V},Vals xs us->xs[i]?=some x->∃u,us[i]?=some u/\RelV x u
 | _,_,_,_,.nil,e=>by simp at e
 | _,_,0,_,.cons r _,e=>by simp at e;subst e;exact ⟨_,rfl,r⟩
 | _,_,i+1,x,.cons _ t,e=>by obtain ⟨u,h1,h2⟩:=Vals.get (i:=i) (x:=x) t (by simpa using e);exact ⟨u,by simpa using h1,h2⟩
theorem Vals.set {x:V} {u:Value} (r:RelV x u):∀{xs:List V} {us:List Value} (i:Nat),Vals xs us->Vals (xs.set i x) (us.set i u)
 | _,_,_,.nil=>.nil
 | _,_,0,.cons _ t=>.cons r t
 | _,_,i+1,.cons q t=>.cons q (Vals.set r i t)
theorem Vals.append:∀{xs ys:List V} {us ws:List Value},Vals xs us->Vals ys ws->Vals (xs++ys) (us++ws):=fun h s=>by
 induction h with
 | nil=>exact s
 | cons r _ ih=>exact .cons r ih
theorem Vals.take:∀{xs:List V} {us:List Value} (n:Nat),Vals xs us->Vals (xs.take n) (us.take n)
 | _,_,0,_=>.nil
 | _,_,_+1,.nil=>.nil
 | _,_,n+1,.cons r t=>.cons r (Vals.take n t)
theorem Vals.drop:∀{xs:List V} {us:List Value} (n:Nat),Vals xs us->Vals (xs.drop n) (us.drop n)
 | _,_,0,r=>r
 | _,_,_+1,.nil=>.nil
 | _,_,n+1,.cons _ t=>Vals.drop n t
def RelO:Option V->Option Value->Prop
 | some v,some u=>RelV v u
 | none,none=>True
 | _,_=>False
def KV {κ:Type}:List (κ×V)->List (κ×Value)->Prop:=Paired fun (p:κ×V) (q:κ×Value)=>p.1=q.1/\RelV p.2 q.2
def kV:zw->V
 | .inl i=>.int i
 | .inr x=>.str x
set_option genInjectivity true in
inductive HO where
 /-- a list -/
 | lst (xs:List V)
 /-- a tuple (never changes) -/
 | tup (xs:List V)
 /-- a dict whose keys are ints and texts; one whose keys are tuples of ints and texts (the empty one is both) -/
 | dK (kvs:List (zw×V)) | dT (kvs:List (List zw×V))
 /-- a set of ints: its members, its size -/
 | set (S:Int->Bool) (n:Nat)
 /-- an instance of the class at C, its dict at dx, its attributes -/
 | ins (C dx:Addr) (fs:List (Str×V))
 /-- the dict of the instance at x -/
 | own (x:Addr)
 /-- the dict of an exception -/
 | xd (fs:List (Str×V))
 /-- a bound method, f of x -/
 | met (f x:Addr)
 /-- a range object lo, lo + 1, .. below hi -/
 | rng (lo hi:Int)
 /-- a thing that is known to the object (the script; a dict while a loop walks it): read, never written while it is so -/
 | frz (o:Obj) (u:HO)
 /-- a code object's table -/
 | tbl (ps:Array Value)
 /-- any other thing, by what is true of its one object (a def of one's own: SetO a S n := HO.ext fun h => ..) -/
 | ext (φ:Heap->Prop)
abbrev Hp:=Addr->Option HO
def upd (H:Hp) (a:Addr) (o:HO):Hp:=fun b=>if b=a then some o else H b
theorem jB {H:Hp} {a:Addr} {o:HO}:upd H a o a=some o:=by unfold upd;rw [if_pos rfl]
theorem jC {H:Hp} {a b:Addr} {o:HO} (h:b≠a):upd H a o b=H b:=by unfold upd;rw [if_neg h]
theorem jsr {H:Hp} {a b:Addr} {o u:HO} (h:H a=some o) (h':H b=some u) (d:o≠u):a≠b:=by intro e;subst e;rw [h] at h';exact d (Option.some.inj h')
theorem jH {H:Hp} {a b:Addr} {o:HO} (h:H a=some o) (h':H b=none):a≠b:=by intro e;subst e;rw [h] at h';cases h'
section
variable (P:Program) (w:World)
def ObjOk (H:Hp) (h:Heap) (a:Addr):HO->Prop
 | .lst xs=>xs.length ≤ sizeLine ∧ ∃(its:List Value) (n:Nat),Vals xs its ∧ h.get? a=some { cls:=.type "list",data:=.seq its.toArray n }
 | .tup xs=>xs.length<=sizeLine/\∃its:List Value,Vals xs its/\IsTup h a its.toArray
 | .dK kvs=>kvs.length<=sizeLine/\(a == sysModules)=false/\∃vs,KV kvs vs/\h.DictOf (jT P w) a vs
 | .dT kvs=>kvs.length<=sizeLine/\(a == sysModules)=false/\∃xs:List (List zw×Addr×Value),
  Paired (fun (p:List zw×V) (q:List zw×Addr×Value)=>p.1=q.1/\H q.2.1=some (.tup (p.1.map kV))/\RelV p.2 q.2.2) kvs xs /\
  ∃o es ep,h.get? a=some o/\o.ExactDict/\o.data=.dict es ep/\es.toList=xs.map (entryOfKey (tupleKind (jT P w)))/\(xs.map (·.1)).Nodup
 | .set S n=>h.SetOf (intKind P w) a S n
 | .ins C dx fs=>H dx=some (.own a)/\fs.length<=1000/\dx≠a/\h.get? a=some (PySem.W.instObj C dx) /\
  ∃mA,h.Ns1 dx mA/\(∀f,RelO (fs.lookup f) (mA f))/\PySem.Within mA (fs.map (·.1))
 | .own _=>∃o,h.get? a=some o
 | .xd fs=>∃mA,h.Ns1 a mA/\∀f,RelO (fs.lookup f) (mA f)
 | .rng lo hi=>∃t u v,h.get? a=some { cls:=.type "range",data:=.fields #[.int lo t,.int hi u,.int 1 v] }
 | .frz o u=>h.get? a=some o/\ObjOk H h a u
 | .tbl ps=>h.get? a=some { cls:=.none,data:=.fields ps }
 | .met f x=>h.get? a=some (PySem.W.methodObj (.ref f) (.ref x))
 | .ext φ=>φ h/\(∃o,h.get? a=some o)/\∀h1 h2:Heap,φ h1->(∀o,h1.get? a=some o->h2.get? a=some o)->φ h2
def HOk (H:Hp) (h:Heap):Prop:=∀a o,H a=some o->ObjOk P w H h a o
end
section
variable {P:Program} {w:World} {H H':Hp} {h h':Heap} {a:Addr} {o:HO}
theorem ObjOk.lt (x:ObjOk P w H h a o):a<h.objs.size:=by
 cases o with
 | lst xs=>obtain ⟨_,_,_,_,e⟩:=x;exact Yw e
 | tup xs=>obtain ⟨_,_,_,p⟩:=x;exact p.lt
 | dK kvs=>obtain ⟨_,_,_,_,o,_,_,e,_⟩:=x;exact Yw e
 | dT kvs=>obtain ⟨_,_,_,_,o,_,_,e,_⟩:=x;exact Yw e
 | set S n=>obtain ⟨o,_,_,_,e,_⟩:=x;exact Yw e
 | ins C dx fs=>obtain ⟨_,_,_,e,_⟩:=x;exact Yw e
 | own y=>obtain ⟨_,e⟩:=x;exact Yw e
 | xd fs=>obtain ⟨_,⟨_,_,_,e,_⟩,_⟩:=x;exact Yw e
 | rng lo hi=>obtain ⟨_,_,_,e⟩:=x;exact Yw e
 | frz ob u=>obtain ⟨e,_⟩:=x;exact Yw e
 | tbl ps=>exact Yw (show h.get? a=some _ from x)
 | met f y=>exact Yw (show h.get? a=some _ from x)
 | ext φ=>obtain ⟨_,⟨_,e⟩,_⟩:=x;exact Yw e
theorem Paired.mapP {α β:Type} {F G:α->β->Prop}:∀{l₁:List α} {l₂:List β},Paired F l₁ l₂->(∀a b,F a b->G a b)->Paired G l₁ l₂:=fun h f=>by
 induction h with
 | nil=>exact .nil
 | cons r _ ih=>exact .cons (f _ _ r) ih
theorem ObjOk.stay (x:ObjOk P w H h a o) (k:∀b u,(b=a\/H b=some (.own a))->h.get? b=some u->h'.get? b=some u)
 (ho:∀b,H b=some (.own a)->H' b=some (.own a)) (ht:∀b xs,H b=some (.tup xs)->H' b=some (.tup xs)):ObjOk P w H' h' a o:=by
 induction o with
 | lst xs=>obtain ⟨z,its,n,r,e⟩:=x;exact ⟨z,its,n,r,k _ _ (.inl rfl) e⟩
 | tup xs=>obtain ⟨z,its,r,ob,e,c⟩:=x;exact ⟨z,its,r,ob,k _ _ (.inl rfl) e,c⟩
 | dK kvs=>obtain ⟨z,y,vs,r,ob,es,ep,e,c⟩:=x;exact ⟨z,y,vs,r,ob,es,ep,k _ _ (.inl rfl) e,c⟩
 | dT kvs=>obtain ⟨z,y,xs,r,ob,es,ep,e,c⟩:=x;exact ⟨z,y,xs,Paired.mapP r fun p q z=>⟨z.1,ht _ _ z.2.1,z.2.2⟩,ob,es,ep,k _ _ (.inl rfl) e,c⟩
 | set S n=>obtain ⟨ob,es,ep,t,e,c⟩:=x;exact ⟨ob,es,ep,t,k _ _ (.inl rfl) e,c⟩
 | ins C dx fs=>obtain ⟨d,z,ne,e,mA,⟨od,es,ep,e2,c⟩,r⟩:=x;exact ⟨ho _ d,z,ne,k _ _ (.inl rfl) e,mA,⟨od,es,ep,k _ _ (.inr d) e2,c⟩,r⟩
 | own y=>obtain ⟨ob,e⟩:=x;exact ⟨ob,k _ _ (.inl rfl) e⟩
 | xd fs=>obtain ⟨mA,⟨od,es,ep,e,c⟩,r⟩:=x;exact ⟨mA,⟨od,es,ep,k _ _ (.inl rfl) e,c⟩,r⟩
 | rng lo hi=>obtain ⟨t,u,v,e⟩:=x;exact ⟨t,u,v,k _ _ (.inl rfl) e⟩
 | frz ob u ih=>obtain ⟨e,q⟩:=x;exact ⟨k _ _ (.inl rfl) e,ih q⟩
 | tbl ps=>have e:h.get? a=some { cls:=.none,data:=.fields ps }:=x;show h'.get? a=some { cls:=.none,data:=.fields ps };exact k a _ (.inl rfl) e
 | met f y=>have e:h.get? a=some (PySem.W.methodObj (.ref f) (.ref y)):=x;show h'.get? a=some (PySem.W.methodObj (.ref f) (.ref y));exact k a _ (.inl rfl) e
 | ext φ=>obtain ⟨p,⟨o,e⟩,st⟩:=x;exact ⟨st _ _ p fun o q=>k _ _ (.inl rfl) q,⟨o,k _ _ (.inl rfl) e⟩,st⟩
theorem HOk.lt (x:HOk P w H h) (e:H a=some o):a<h.objs.size:=(x a o e).lt
theorem HOk.fresh (x:HOk P w H h) (e:h.objs.size<=a):H a=none:=by
 cases q:H a with
 | none=>rfl
 | some u=>exact absurd (Yo (x.lt q) e) (Y1 _)
theorem HOk.kept (x:HOk P w H h) (k:∀b u,h.get? b=some u->h'.get? b=some u):HOk P w H h':=fun a o e=>(x a o e).stay (fun b u _ q=>k b u q) (fun _ q=>q) fun _ _ q=>q
theorem HOk.laid (x:HOk P w H h) (k:∀b u,h.get? b=some u->h'.get? b=some u) (hp:h.objs.size<=a) (new:ObjOk P w (upd H a o) h' a o):HOk P w (upd H a o) h':=fun b u e=>by
 have hn:=x.fresh hp;by_cases hb:b=a
 . subst hb;rw [jB] at e;cases e;exact new
 . rw [jC hb] at e;exact (x b u e).stay (fun c v _ q=>k c v q) (fun c q=>by rw [jC (jH q hn)];exact q) fun c xs q=>by rw [jC (jH q hn)];exact q
end
def Rd (H:Hp) (a:Addr) (u:HO):Prop:=H a=some u\/∃o,H a=some (.frz o u)
theorem Rd.ok {P:Program} {w:World} {H:Hp} {h:Heap} {a:Addr} {u:HO} (r:Rd H a u) (x:HOk P w H h):ObjOk P w H h a u:=by
 rcases r with r | ⟨o,r⟩
 . exact x a u r
 . obtain ⟨_,q⟩:=x a _ r;exact q
def Mut:Option HO->Prop
 | some (.lst _)=>True
 | some (.dK _)=>True
 | some (.dT _)=>True
 | some (.set _ _)=>True
 | some (.ins _ _ _)=>True
 | some (.ext _)=>True
 | _=>False
section
variable {P:Program} {w:World} {H:Hp} {h h':Heap} {x e:Addr} {o':HO}
theorem HOk.write (ok:HOk P w H h) (mu:Mut (H x)) (he:e=x\/H e=some (.own x)) (k:∀b u,b≠e->h.get? b=some u->h'.get? b=some u) (heo:∃u,h'.get? e=some u)
 (new:ObjOk P w (upd H x o') h' x o'):HOk P w (upd H x o') h':=fun b u q=>by
 have nown:∀c y,H c=some (.own y)->c≠x:=fun c y r z=>by subst z;rw [r] at mu;exact mu
 have ntup:∀c xs,H c=some (.tup xs)->c≠x:=fun c xs r z=>by subst z;rw [r] at mu;exact mu
 by_cases hb:b=x
 . subst hb;rw [jB] at q;cases q;exact new
 . rw [jC hb] at q;by_cases hbe:b=e
   . have q':H b=some (.own x):=by
       rcases he with z | z
       . exact absurd (hbe.trans z) hb
       . rw [hbe];exact z
     rw [q] at q';cases q';obtain ⟨v,hv⟩:=heo;exact ⟨v,by rw [hbe];exact hv⟩
   . refine (ok b u q).stay (fun c v hc r=>k c v ?_ r) (fun c r=>by rw [jC (nown c b r)];exact r) fun c xs r=>by rw [jC (ntup c xs r)];exact r
     rcases hc with rfl | hc
     . exact hbe
     . rintro rfl;rcases he with z | z
       . exact nown c b hc z
       . rw [hc] at z;cases z;exact hb rfl
end
structure Un (fs ex:List Addr) (H H':Hp) (h h':Heap):Prop where
 keep:∀b o,h.get? b=some o->H b=none->b∉fs->b∉ex->h'.get? b=some o
 slot:∀b o,h.get? b=some o->H b=none->b∈fs->b∉ex->∃sl,h'.get? b=some { o with slots:=sl }
 free:∀b o,h.get? b=some o->H b=none->b∉ex->H' b=none
 there:∀b o,h.get? b=some o->b∉ex->∃o',h'.get? b=some o'
 tups:∀b xs,H b=some (.tup xs)->H' b=some (.tup xs)
 frzs:∀b o u,H b=some (.frz o u)->H' b=some (.frz o u)
 tbls:∀b ps,H b=some (.tbl ps)->∃more,H' b=some (.tbl (ps++more))
section
variable {fs fs' ex ex':List Addr} {H H1 H2:Hp} {h h1 h2 h':Heap} {a x e:Addr} {o:HO}
theorem Un.any (u:Un fs ex H H1 h h1) {b:Addr} {ob:Obj} (q:h.get? b=some ob) (n:H b=none) (hx:b∉ex):∃sl,h1.get? b=some { ob with slots:=sl }:=by
 by_cases hb:b∈fs
 . exact u.slot b ob q n hb hx
 . exact ⟨ob.slots,u.keep b ob q n hb hx⟩
theorem Un.trans (a:Un fs ex H H1 h h1) (b:Un fs ex H1 H2 h1 h2):Un fs ex H H2 h h2 where
 keep:=fun c ob q n hc hx=>b.keep c ob (a.keep c ob q n hc hx) (a.free c ob q n hx) hc hx
 slot:=fun c ob q n hc hx=>by obtain ⟨sl,e1⟩:=a.slot c ob q n hc hx;obtain ⟨sl',e2⟩:=b.slot c _ e1 (a.free c ob q n hx) hc hx;exact ⟨sl',e2⟩
 free:=fun c ob q n hx=>by obtain ⟨o',e1⟩:=a.there c ob q hx;exact b.free c o' e1 (a.free c ob q n hx) hx
 there:=fun c ob q hx=>by obtain ⟨o',e1⟩:=a.there c ob q hx;exact b.there c o' e1 hx
 tups:=fun c xs q=>b.tups c xs (a.tups c xs q)
 frzs:=fun c ob xs q=>b.frzs c ob xs (a.frzs c ob xs q)
 tbls:=fun c ps q=>by obtain ⟨m1,e1⟩:=a.tbls c ps q;obtain ⟨m2,e2⟩:=b.tbls c _ e1;exact ⟨m1++m2,by rw [e2,Array.append_assoc]⟩
theorem Un.kept (k:∀b u,h.get? b=some u->h'.get? b=some u):Un fs ex H H h h':=⟨fun b ob q _ _ _=>k b ob q,fun b ob q _ _ _=>⟨ob.slots,k b ob q⟩,fun _ _ _ n _=>n,fun b ob q _=>⟨ob,k b ob q⟩,fun _ _ q=>q,fun _ _ _ q=>q,fun _ ps q=>⟨#[],by rw [q];simp⟩⟩
theorem Un.refl:Un fs ex H H h h:=Un.kept fun _ _ q=>q
theorem Un.laid (k:∀b u,h.get? b=some u->h'.get? b=some u) (hp:h.objs.size<=a) (hn:H a=none):Un fs ex H (upd H a o) h h' where
 keep:=fun b u q _ _ _=>k b u q
 slot:=fun b u q _ _ _=>⟨u.slots,k b u q⟩
 free:=fun b u q n _=>by rw [jC (Yv (Yo (Yw q) hp))];exact n
 there:=fun b u q _=>⟨u,k b u q⟩
 tups:=fun b xs q=>by rw [jC (jH q hn)];exact q
 frzs:=fun b u xs q=>by rw [jC (jH q hn)];exact q
 tbls:=fun b ps q=>⟨#[],by rw [jC (jH q hn),q];simp⟩
theorem Un.write (mu:Mut (H x)) (he:e=x\/H e=some (.own x)) (k:∀b u,b≠e->h.get? b=some u->h'.get? b=some u) (heo:∃u,h'.get? e=some u):Un fs ex H (upd H x o) h h':=by
 have hx:∀b,H b=none->b≠x:=fun b n z=>by subst z;rw [n] at mu;exact mu
 have hb:∀b,H b=none->b≠e:=fun b n z=>by
  subst z;rcases he with r | r
  . exact hx b n r
  . rw [n] at r;cases r
 have hm:∀b u,H b=some u->¬Mut (some u)->b≠x:=fun b u q nm z=>by subst z;rw [q] at mu;exact nm mu
 refine ⟨fun b u q n _ _=>k b u (hb b n) q,fun b u q n _ _=>⟨u.slots,k b u (hb b n) q⟩,fun b u q n _=>by rw [jC (hx b n)];exact n,fun b u q _=>?_,
  fun b xs q=>by rw [jC (hm b _ q fun z=>z)];exact q,fun b u xs q=>by rw [jC (hm b _ q fun z=>z)];exact q,fun b ps q=>⟨#[],by rw [jC (hm b _ q fun z=>z),q];simp⟩⟩
 by_cases hbe:b=e
 . subst hbe;exact heo
 . exact ⟨u,k b u hbe q⟩
theorem Un.mono (u:Un fs ex H H1 h h1) (hs:∀b∈fs,b∈fs') (hx:∀b∈ex,b∈ex'):Un fs' ex' H H1 h h1:=⟨fun b ob q n hb he=>u.keep b ob q n (fun z=>hb (hs b z)) fun z=>he (hx b z),fun _ _ q n _ he=>u.any q n fun z=>he (hx _ z),fun b ob q n he=>u.free b ob q n fun z=>he (hx b z),fun b ob q he=>u.there b ob q fun z=>he (hx b z),u.tups,u.frzs,u.tbls⟩
end
def trk (h:Heap) (H:Hp):List Addr:=(List.range h.objs.size).filter fun a=>(H a).isSome
def jff (h:Heap) (H:Hp):Heap:=PySem.W.hideAll h (trk h H)
theorem jkc (h:Heap) (H:Hp):(jff h H).objs.size=h.objs.size:=PySem.W.hideAll_size _ _
theorem jkI {h:Heap} {H:Hp} {b:Addr} {o:Obj} (e:h.get? b=some o) (n:H b=none):(jff h H).get? b=some o:=
 PySem.W.hideAll_get _ e fun hm=>by have q:(H b).isSome=true:=(KR.mp hm).2;rw [n] at q;simp at q
theorem jmT {h:Heap} {H:Hp} {b:Addr} {o:Obj} (e:(jff h H).get? b=some o):h.get? b=some o/\H b=none:=by
 have e':h.get? b=some o:=PySem.W.of_hideAll (trk h H) e;refine ⟨e',?_⟩;cases q:H b with
 | none=>rfl
 | some x=>have hm:b∈trk h H:=KR.mpr ⟨KA.mpr (Yw e'),by simp [q]⟩;have z:(jff h H).get? b=none:=PySem.W.hideAll_none (trk h H) hm;rw [z] at e;cases e
def jmG (g h:Heap) (L:Addr):List (Addr×Obj):=(List.range h.objs.size).filterMap fun a=>if a=L\/(g.get? a).isSome=true then none else (h.get? a).map fun o=>(a,o)
def rest (g h:Heap) (L d:Addr):List (Addr×Obj):=(jmG g h L).filter fun p=>decide (p.1≠d)
end L2
namespace L2
open PySem PySem.Spec PyProof.Rows
structure Mod (K:PySem.W.Frag) (mg:Str->Option Value) (base:Heap):Prop where
 kin:K.In base
 glob:base.Ns mainGlobals mg
 blt:∃mb,base.Ns builtinsNs mb ∧ ∀x:Str,x ≠ "__name__" → mb x=bootBuiltins x
 nolimit:base.NoLimit
/-- the context: a def's body (or a comprehension's block) running. base: fixed through the whole law; s₀, H₀: the entry; outer: the frames whose slots others may change (a def's callers); stack: all frames that run;
 ex: iterators that were made ahead of the entry and are walked here (a comprehension's);fn: the names whose cells were made at the entry (a def: all;a comprehension's block: its own);calm: not within an except suite;pn: pins that every state bears;xe: what is wanted of an exception that leaves the code -/
structure Cx where
 prog:Program
 w:World
 K:PySem.W.Frag
 mg:Str->Option Value
 base:Heap
 A:Around
 N:List Str
 s₀:Shared
 H₀:Hp
 env:Env
 outer:List Env
 stack:List Env
 ex:List Addr
 fn:Str->Bool
 calm:Bool
 pn:List (Addr×Obj)
 xe:Value->Shared->Prop
def frs (l:List Env):List Addr:=l.filterMap (·.frame)
abbrev Cx.fs (X:Cx):List Addr:=frs X.outer
def Vis (sc:Scope) (x:Str):Prop:=sc.names.lookup x=some .local\/sc.names.lookup x=some .cell\/sc.names.lookup x=some .free
def Loc (sc:Scope) (x:Str):Prop:=sc.names.lookup x=some .local\/sc.names.lookup x=some .cell
def jtc (env:Env) (h:Heap) (m:Str->Option Value) (x:Str) (u:Value):Prop:=(env.kindOf x=some .local/\m x=some u)\/((env.kindOf x=some .cell\/env.kindOf x=some .free)/\∃c,env.cells.lookup x=some c/\h.IsCell c (some u))
structure Cx.Ok (X:Cx):Prop where
 mod:Mod X.K X.mg X.base
 kind:X.env.scope.kind=.function
 glob:X.env.globals=mainGlobals
 blt:X.env.builtins=builtinsNs
 above:X.s₀.heap.objs.size<=X.env.locals
 inj:∀x y c,X.env.cells.lookup x=some c->X.env.cells.lookup y=some c->x=y
 has:∀x,(X.env.kindOf x=some .cell\/X.env.kindOf x=some .free)->∃c,X.env.cells.lookup x=some c
 cab:∀x c,X.fn x=true->X.env.cells.lookup x=some c->X.s₀.heap.objs.size<=c
 hd:X.calm=true->X.A.handled=none
 frames:X.A.frames=some X.stack
 stk:X.stack=X.outer\/(X.stack=X.env::X.outer/\X.env.frame=some X.env.locals)
 exf:∀b∈X.ex,b≠X.env.locals/\∀x c,X.env.cells.lookup x=some c->c≠b
 bs:∀b o,X.base.get? b=some o->X.s₀.heap.get? b=some o/\X.H₀ b=none
 bsz:X.base.objs.size<=X.s₀.heap.objs.size
 noex:∀b o,X.base.get? b=some o->b∉X.ex
 exfs:∀b∈X.ex,b∉X.fs
 funs:X.s₀.heap.FunFrames X.base X.outer
 frf:∀b∈X.fs,X.H₀ b=none
structure Inv (X:Cx) (pins:List (Addr×Obj)) (σ:List (Option V)) (H:Hp) (s:Shared):Prop where
 ok:X.Ok
 os:s.os=X.s₀.os
 bare:AllBare s.gens
 base:Un X.fs X.ex X.H₀ H X.s₀.heap s.heap
 loc:∃m,s.heap.Ns X.env.locals m/\∀(i:Nat) (x:Str) (v:V),X.N[i]?=some x->σ[i]?=some (some v)->Vis X.env.scope x->∃u,RelV v u/\jtc X.env s.heap m x u
 cell:∀x c,X.env.cells.lookup x=some c->∃v,s.heap.IsCell c v
 free:H X.env.locals=none
 freeC:∀x c,X.env.cells.lookup x=some c->H c=none
 pin:∀p∈X.pn++pins,s.heap.get? p.1=some p.2/\H p.1=none/\p.1≠X.env.locals/\p.1∉X.fs/\∀v,p.2.data≠.cell v
 hok:HOk X.prog X.w H s.heap
 len:σ.length=X.N.length
section
variable {X:Cx} {pins:List (Addr×Obj)} {σ:List (Option V)} {H H':Hp} {s:Shared} {h':Heap}
theorem Cx.Ok.nofr (ok:X.Ok) {b:Addr} {o:Obj} (e:X.base.get? b=some o):b∉X.fs:=fun hb=>by have:=(ok.funs.mem hb).1;rw [e] at this;cases this
theorem Inv.bs (I:Inv X pins σ H s):∀b o,X.base.get? b=some o->s.heap.get? b=some o/\H b=none:=fun b o e=>⟨I.base.keep b o (I.ok.bs b o e).1 (I.ok.bs b o e).2 (I.ok.nofr e) (I.ok.noex b o e),I.base.free b o (I.ok.bs b o e).1 (I.ok.bs b o e).2 (I.ok.noex b o e)⟩
theorem Inv.bk (I:Inv X pins σ H s):∀b o,X.base.get? b=some o->s.heap.get? b=some o:=fun b o e=>(I.bs b o e).1
theorem Inv.mod (I:Inv X pins σ H s):Mod X.K X.mg X.base:=I.ok.mod
theorem Inv.kIn (I:Inv X pins σ H s):X.K.In s.heap:=I.ok.mod.kin.keeps I.bk
theorem Inv.fr (I:Inv X pins σ H s):∃m,Fr X.base X.env.locals s.heap m:=
 let ⟨m,hn,_⟩:=I.loc
 ⟨m,hn,I.bk,YW I.ok.bsz I.ok.above⟩
theorem Inv.lt (I:Inv X pins σ H s):X.env.locals<s.heap.objs.size:=let ⟨_,hn,_⟩:=I.loc;hn.lt
theorem Inv.sz (I:Inv X pins σ H s):X.s₀.heap.objs.size<=s.heap.objs.size:=YW I.ok.above (yL I.lt)
theorem Inv.nofs (I:Inv X pins σ H s) {a:Addr} (h:s.heap.objs.size<=a):a∉X.fs:=fun hb=>by obtain ⟨_,o,ho,_⟩:=I.ok.funs.mem hb;exact absurd (Yo (Yw ho) (YW I.sz h)) (Y1 _)
theorem Inv.cne (I:Inv X pins σ H s):∀x c,X.env.cells.lookup x=some c->c≠X.env.locals:=fun x c e z=>by obtain ⟨v,o,ho,hd⟩:=I.cell x c e;obtain ⟨m,⟨o',es,ep,ho',hd',_⟩,_⟩:=I.loc;rw [z,ho'] at ho;cases ho;rw [hd'] at hd;cases hd
theorem Inv.funs (I:Inv X pins σ H s):s.heap.FunFrames X.base X.outer:=by
 have all:∀(l:List Env),(∀b∈frs l,b∈X.fs)->X.s₀.heap.FunFrames X.base l->s.heap.FunFrames X.base l:=by
  intro l;induction l with
  | nil=>intro _ _;trivial
  | cons env r ih=>intro hs hl;obtain ⟨hk,⟨L,o,hf,hn,ho,hd⟩,hr⟩:=hl;have hL:L∈X.fs:=hs L (by unfold frs;rw [Kq,hf];exact Ye);obtain ⟨sl,e⟩:=I.base.slot L o ho (I.ok.frf L hL) hL fun z=>I.ok.exfs L z hL;exact ⟨hk,⟨L,_,hf,hn,e,hd⟩,ih (fun b hb=>hs b (by unfold frs;rw [Kq,hf];exact Yg _ hb)) hr⟩
 exact all X.outer (fun _ hb=>hb) I.ok.funs
theorem Inv.stack (I:Inv X pins σ H s):s.heap.FunFrames X.base X.stack:=by
 rcases I.ok.stk with e | ⟨e,hf⟩
 . rw [e];exact I.funs
 . rw [e];obtain ⟨m,hn,_⟩:=I.loc;refine .cons (by rw [I.ok.kind];decide) hf hn ?_ I.funs;exact Heap.get?_none_of_le (YW I.ok.bsz I.ok.above)
theorem Inv.stkSub (I:Inv X pins σ H s):∀b∈frs X.stack,b∈X.env.locals::X.fs:=fun b hb=>by
 rcases I.ok.stk with e | ⟨e,hf⟩
 . rw [e] at hb;exact Yg _ hb
 . rw [e] at hb;unfold frs at hb;rw [Kq,hf] at hb;exact hb
theorem Inv.stkFree (I:Inv X pins σ H s):∀b∈frs X.stack,H b=none:=fun b hb=>by
 rcases Yn.mp (I.stkSub b hb) with e | hb
 . rw [e];exact I.free
 . obtain ⟨_,o,ho,_⟩:=I.ok.funs.mem hb;exact I.base.free b o ho (I.ok.frf b hb) fun z=>I.ok.exfs b z hb
theorem Inv.step {g':Array GenState} {t':Nat} {d':Drawn} {ch:List Addr} (I:Inv X pins σ H s)
 (hch:∀b∈ch,(b∈X.ex\/X.s₀.heap.objs.size<=b)/\b≠X.env.locals/\(∀x c,X.env.cells.lookup x=some c->c≠b)/\∀p∈X.pn++pins,p.1≠b)
 (keep:∀b o,b≠X.env.locals->b∉X.fs->b∉ch->s.heap.get? b=some o->H b=none->h'.get? b=some o)
 (slot:∀b o,b≠X.env.locals->b∈X.fs->b∉ch->s.heap.get? b=some o->H b=none->∃sl,h'.get? b=some { o with slots:=sl }) (free:∀b o,b∉ch->s.heap.get? b=some o->H b=none->H' b=none)
 (there:∀b o,b∉ch->s.heap.get? b=some o->∃o',h'.get? b=some o')
 (tups:∀b xs,H b=some (.tup xs)->H' b=some (.tup xs)) (frzs:∀b o u,H b=some (.frz o u)->H' b=some (.frz o u)) (tbls:∀b ps,H b=some (.tbl ps)->∃more,H' b=some (.tbl (ps++more)))
 (ns:∀m,s.heap.Ns X.env.locals m->h'.Ns X.env.locals m) (hok:HOk X.prog X.w H' h') (hg:AllBare g') :
 Inv X pins σ H' { s with heap:=h',gens:=g',drawn:=d',toks:=t' }:=by
 have neL:∀b o,X.s₀.heap.get? b=some o->b≠X.env.locals:=fun b o e=>Yv (Yo (Yw e) I.ok.above);have neC:∀b o,X.s₀.heap.get? b=some o->b∉X.ex->b∉ch:=fun b o e hx hb=>by
  rcases (hch b hb).1 with z | z
  . exact hx z
  . exact absurd (Yo (Yw e) z) (Y1 _)
 have cellK:∀x c,X.env.cells.lookup x=some c->∀v,s.heap.IsCell c v->h'.IsCell c v:=fun x c e v ⟨o,ho,hd⟩=>by
  have nch:c∉ch:=fun z=>(hch c z).2.2.1 x c e rfl;by_cases hc:c∈X.fs
  . obtain ⟨sl,q⟩:=slot c o (I.cne x c e) hc nch ho (I.freeC x c e);exact ⟨_,q,hd⟩
  . exact ⟨o,keep c o (I.cne x c e) hc nch ho (I.freeC x c e),hd⟩
 refine ⟨I.ok,I.os,hg,⟨fun b o e n hb hx=>?_,fun b o e n hb hx=>?_,fun b o e n hx=>?_,fun b o e hx=>?_,fun b xs e=>tups b xs (I.base.tups b xs e),fun b o xs e=>frzs b o xs (I.base.frzs b o xs e),fun b ps e=>?_⟩,?_,fun x c e=>?_,?_,fun x c e=>?_,fun p hp=>?_,hok,I.len⟩
 . exact keep b o (neL b o e) hb (neC b o e hx) (I.base.keep b o e n hb hx) (I.base.free b o e n hx)
 . obtain ⟨sl,e1⟩:=I.base.slot b o e n hb hx;obtain ⟨sl',e2⟩:=slot b _ (neL b o e) hb (neC b o e hx) e1 (I.base.free b o e n hx);exact ⟨sl',e2⟩
 . obtain ⟨o',e1⟩:=I.base.there b o e hx;exact free b o' (neC b o e hx) e1 (I.base.free b o e n hx)
 . obtain ⟨o',e1⟩:=I.base.there b o e hx;exact there b o' (neC b o e hx) e1
 . obtain ⟨m1,e1⟩:=I.base.tbls b ps e;obtain ⟨m2,e2⟩:=tbls b _ e1;exact ⟨m1++m2,by rw [e2,Array.append_assoc]⟩
 . obtain ⟨m,hn,hl⟩:=I.loc;refine ⟨m,ns m hn,fun i x v e1 e2 e3=>?_⟩;obtain ⟨u,r,l⟩:=hl i x v e1 e2 e3;refine ⟨u,r,?_⟩;rcases l with l | ⟨k,c,e,z⟩
   . exact .inl l
   . exact .inr ⟨k,c,e,cellK x c e _ z⟩
 . obtain ⟨v,z⟩:=I.cell x c e;exact ⟨v,cellK x c e v z⟩
 . obtain ⟨m,⟨o,_,_,ho,_⟩,_⟩:=I.loc;exact free _ o (fun z=>(hch _ z).2.1 rfl) ho I.free
 . obtain ⟨v,o,ho,hd⟩:=I.cell x c e;exact free c o (fun z=>(hch c z).2.2.1 x c e rfl) ho (I.freeC x c e)
 . obtain ⟨e,n,ne,nf,d⟩:=I.pin p hp;have nch:p.1∉ch:=fun z=>(hch p.1 z).2.2.2 p hp rfl;exact ⟨keep p.1 p.2 ne nf nch e n,free p.1 p.2 nch e n,ne,nf,d⟩
theorem Inv.un {t':Nat} (I:Inv X pins σ H s) (u:Un X.fs [] H H' s.heap h') (hok:HOk X.prog X.w H' h'):Inv X pins σ H' { s with heap:=h',toks:=t' }:=by
 obtain ⟨m,⟨o,es,ep,ho,r⟩,_⟩:=id I.loc;obtain ⟨sl,hL⟩:=u.any ho I.free (by simp);exact I.step (g':=s.gens) (d':=s.drawn) (ch:=[]) (fun _ z=>nomatch z) (fun b o _ hb _ e n=>u.keep b o e n hb (by simp)) (fun b o _ hb _ e n=>u.slot b o e n hb (by simp)) (fun b o _ e n=>u.free b o e n (by simp)) (fun b o _ e=>u.there b o e (by simp)) u.tups u.frzs u.tbls (fun m' hm=>by obtain ⟨o',es',ep',ho',r'⟩:=hm;rw [ho] at ho';cases ho';exact ⟨_,es',ep',hL,r'⟩) hok I.bare
theorem Inv.call {g':Array GenState} {t':Nat} {d':Drawn} {ch:List Addr} (I:Inv X pins σ H s) (u:Un (frs X.stack) ch H H' s.heap h') (hok:HOk X.prog X.w H' h') (hg:AllBare g')
 (hch:∀b∈ch,(b∈X.ex\/X.s₀.heap.objs.size<=b)/\b≠X.env.locals/\(∀x c,X.env.cells.lookup x=some c->c≠b)/\∀p∈X.pn++pins,p.1≠b) :
 Inv X pins σ H' { s with heap:=h',gens:=g',drawn:=d',toks:=t' }:=by
 obtain ⟨m,⟨o,es,ep,ho,r⟩,_⟩:=id I.loc;obtain ⟨sl,hL⟩:=u.any ho I.free fun z=>(hch _ z).2.1 rfl;exact I.step (ch:=ch) hch (fun b o hL hb hc e n=>u.keep b o e n (fun z=>(Yn.mp (I.stkSub b z)).elim hL hb) hc) (fun b o _ _ hc e n=>u.any e n hc) (fun b o hc e n=>u.free b o e n hc) (fun b o hc e=>u.there b o e hc) u.tups u.frzs u.tbls (fun m' hm=>by obtain ⟨o',es',ep',ho',r'⟩:=hm;rw [ho] at ho';cases ho';exact ⟨_,es',ep',hL,r'⟩) hok hg
theorem Inv.turned {t':Nat} {it:Addr} (I:Inv X pins σ H s) (k:∀b o,b≠it->s.heap.get? b=some o->h'.get? b=some o) (hn:H it=none) (hL:it≠X.env.locals)
 (h1:it∈X.ex\/X.s₀.heap.objs.size<=it) (h2:∀x c,X.env.cells.lookup x=some c->c≠it) (h3:∀p∈X.pn++pins,p.1≠it):Inv X pins σ H { s with heap:=h',toks:=t' }:=by
 have nit:∀b u,H b=some u->b≠it:=fun b u e z=>by rw [z,hn] at e;cases e
 refine I.step (g':=s.gens) (d':=s.drawn) (ch:=[it]) (fun b hb=>?_) (fun b o _ _ hc e _=>k b o (fun z=>hc (by simp [z])) e) (fun b o _ _ hc e _=>⟨o.slots,k b o (fun z=>hc (by simp [z])) e⟩) (fun _ _ _ _ n=>n)
  (fun b o hc e=>⟨o,k b o (fun z=>hc (by simp [z])) e⟩) (fun _ _ e=>e) (fun _ _ _ e=>e) (fun b ps e=>⟨#[],by rw [e];simp⟩) (fun m hm=>?_) (fun b u e=>?_) I.bare
 . have e:b=it:=by simpa using hb
   subst e;exact ⟨h1,hL,h2,h3⟩
 . obtain ⟨o,es,ep,ho,r⟩:=hm;exact ⟨o,es,ep,k _ o (Ne.symm hL) ho,r⟩
 . refine (I.hok b u e).stay (fun c v hc q=>k c v ?_ q) (fun _ q=>q) fun _ _ q=>q;rcases hc with z | z
   . rw [z];exact nit b u e
   . exact nit c _ z
theorem Inv.tok (I:Inv X pins σ H s) (t:Nat):Inv X pins σ H { s with toks:=t }:=I.un (h':=s.heap) (t':=t) Un.refl I.hok
theorem Inv.kept {t':Nat} (I:Inv X pins σ H s) (k:∀b u,s.heap.get? b=some u->h'.get? b=some u):Inv X pins σ H { s with heap:=h',toks:=t' }:=I.un (Un.kept k) (I.hok.kept k)
theorem Inv.laid {a:Addr} {o:HO} {t':Nat} (I:Inv X pins σ H s) (k:∀b u,s.heap.get? b=some u->h'.get? b=some u) (hp:s.heap.objs.size<=a) (new:ObjOk X.prog X.w (upd H a o) h' a o) :
 Inv X pins σ (upd H a o) { s with heap:=h',toks:=t' }:=I.un (Un.laid k hp (I.hok.fresh hp)) (I.hok.laid k hp new)
theorem Inv.write {x e:Addr} {o:HO} {t':Nat} (I:Inv X pins σ H s) (mu:Mut (H x)) (he:e=x\/H e=some (.own x)) (k:∀b u,b≠e->s.heap.get? b=some u->h'.get? b=some u) (heo:∃u,h'.get? e=some u)
 (new:ObjOk X.prog X.w (upd H x o) h' x o):Inv X pins σ (upd H x o) { s with heap:=h',toks:=t' }:=I.un (Un.write mu he k heo) (I.hok.write mu he k heo new)
theorem Inv.weak {σ':List (Option V)} (I:Inv X pins σ H s) (hl:σ'.length=σ.length) (w:∀(i:Nat) v,σ'[i]?=some (some v)->σ[i]?=some (some v)):Inv X pins σ' H s:=⟨I.ok,I.os,I.bare,I.base,let ⟨m,hn,hl'⟩:=I.loc;⟨m,hn,fun i x v e1 e2 e3=>hl' i x v e1 (w i v e2) e3⟩,I.cell,I.free,I.freeC,I.pin,I.hok,hl.trans I.len⟩
theorem Inv.pins_of {pins':List (Addr×Obj)} (I:Inv X pins σ H s) (h:∀p∈pins',s.heap.get? p.1=some p.2/\H p.1=none/\p.1≠X.env.locals/\p.1∉X.fs/\∀v,p.2.data≠.cell v):Inv X pins' σ H s:=⟨I.ok,I.os,I.bare,I.base,I.loc,I.cell,I.free,I.freeC,fun p hp=>(YZ.mp hp).elim (fun z=>I.pin p (YE _ z)) (h p),I.hok,I.len⟩
theorem QH {N:List Str} (hN:N.Nodup) {i j:Nat} {x:Str} (a:N[i]?=some x) (b:N[j]?=some x):i=j:=by obtain ⟨h1,e1⟩:=Ym.mp a;obtain ⟨h2,e2⟩:=Ym.mp b;exact (KC hN).mp (e1.trans e2.symm)
theorem jd9 {M:Model} {A:Around} {E:Value->Shared->Prop} {i:Nat} {x:Str} {v:V} {u:Value} {Q:Unit->Shared->Prop} (I:Inv X pins σ H s) (hN:X.N.Nodup) (hi:X.N[i]?=some x) (hx:Loc X.env.scope x) (r:RelV v u)
 (h:∀s',Inv X pins (σ.set i (some v)) H s'->(∃a,Heap.SameBut a s.heap s'.heap/\(a=X.env.locals\/X.env.cells.lookup x=some a))->Q () s') (hf:autoParam ‹"N"› QA.a0._auto_1):wpAny M A (storeName X.env x u) Q E s:=by
 obtain ⟨m,hn,hl⟩:=id I.loc;have hcls:(X.env.scope.kind == .class || (X.env.scope.kind == .module && X.env.locals != X.env.globals))=false:=by rw [I.ok.kind];rfl
 have hiσ:i<σ.length:=by rw [I.len];exact (Ym.mp hi).1
 have cne:=I.cne;have tracked:∀{a:Addr} {h':Heap},(∃o,s.heap.get? a=some o/\H a=none)->Heap.SameBut a s.heap h'->HOk X.prog X.w H h':=fun {a h'} ha hs b ob e=>by
  obtain ⟨_,_,hfree⟩:=ha;refine (I.hok b ob e).stay (fun c w' hc q=>(hs.2 c ?_).trans q) (fun _ q=>q) fun _ _ q=>q;rintro rfl;rcases hc with rfl | hc
  . rw [hfree] at e;cases e
  . rw [hfree] at hc;cases hc
 rcases hx with hk | hk
 . refine wpAny_storeName_local hk hn (fun h' hn' hs=>?_) hcls;obtain ⟨oL,_,_,hoL,_⟩:=id hn;refine h _ ⟨I.ok,I.os,I.bare,⟨fun b o e n hb hx=>?_,fun b o e n hb hx=>?_,I.base.free,fun b o e hx=>?_,I.base.tups,I.base.frzs,I.base.tbls⟩,⟨_,hn',fun j y v' e1 e2 e3=>?_⟩,fun y c e=>?_,I.free,I.freeC,fun p hp=>?_,tracked ⟨oL,hoL,I.free⟩ hs,by simpa using I.len⟩ ⟨_,hs,.inl rfl⟩
   . exact (hs.2 b (Yv (Yo (Yw e) I.ok.above))).trans (I.base.keep b o e n hb hx)
   . obtain ⟨sl,e1⟩:=I.base.slot b o e n hb hx;exact ⟨sl,(hs.2 b (Yv (Yo (Yw e) I.ok.above))).trans e1⟩
   . obtain ⟨o',e1⟩:=I.base.there b o e hx;exact ⟨o',(hs.2 b (Yv (Yo (Yw e) I.ok.above))).trans e1⟩
   . by_cases hj:j=i
     . subst hj;rw [hi] at e1;cases e1;rw [Y6 hiσ] at e2;cases e2;exact ⟨u,r,.inl ⟨hk,by simp⟩⟩
     . rw [YS (Ne.symm hj)] at e2;obtain ⟨u',r',q⟩:=hl j y v' e1 e2 e3;refine ⟨u',r',?_⟩;rcases q with ⟨k,e⟩ | ⟨k,c,e,z⟩
       . refine .inl ⟨k,?_⟩;have:y≠x:=fun e=>hj (QH hN e1 (e ▸ hi));simp [this,e]
       . exact .inr ⟨k,c,e,z.sameBut hs (cne y c e)⟩
   . obtain ⟨w',z⟩:=I.cell y c e;exact ⟨w',z.sameBut hs (cne y c e)⟩
   . obtain ⟨e,n,ne,nf,d⟩:=I.pin p hp;exact ⟨(hs.2 p.1 ne).trans e,n,ne,nf,d⟩
 . have hfn:X.fn x=true:=by
    rcases hf with z | z
    . exact z
    . rw [z] at hk;cases hk
   obtain ⟨c,hc⟩:=I.ok.has x (.inl hk);obtain ⟨w',z⟩:=I.cell x c hc;refine wpAny_storeName_cell I.ok.kind hk hc z (fun h' hc' hs=>?_);obtain ⟨oc,hoc,hocd⟩:=id z;refine h { s with heap:=h' } ⟨I.ok,I.os,I.bare,⟨fun b o e n hb hx=>?_,fun b o e n hb hx=>?_,I.base.free,fun b o e hx=>?_,I.base.tups,I.base.frzs,I.base.tbls⟩,⟨m,hn.sameBut hs (Ne.symm (cne x c hc)),fun j y v' e1 e2 e3=>?_⟩,fun y c' e=>?_,I.free,I.freeC,fun p hp=>?_,tracked ⟨oc,hoc,I.freeC x c hc⟩ hs,by simpa using I.len⟩ ⟨c,hs,.inr hc⟩
   . exact (hs.2 b (Yv (Yo (Yw e) (I.ok.cab x c hfn hc)))).trans (I.base.keep b o e n hb hx)
   . obtain ⟨sl,e1⟩:=I.base.slot b o e n hb hx;exact ⟨sl,(hs.2 b (Yv (Yo (Yw e) (I.ok.cab x c hfn hc)))).trans e1⟩
   . obtain ⟨o',e1⟩:=I.base.there b o e hx;exact ⟨o',(hs.2 b (Yv (Yo (Yw e) (I.ok.cab x c hfn hc)))).trans e1⟩
   . by_cases hj:j=i
     . subst hj;rw [hi] at e1;cases e1;rw [Y6 hiσ] at e2;cases e2;exact ⟨u,r,.inr ⟨.inl hk,c,hc,hc'⟩⟩
     . rw [YS (Ne.symm hj)] at e2;obtain ⟨u',r',q⟩:=hl j y v' e1 e2 e3;refine ⟨u',r',?_⟩;rcases q with q | ⟨k,c',e,z'⟩
       . exact .inl q
       . refine .inr ⟨k,c',e,z'.sameBut hs ?_⟩;rintro rfl;exact hj (QH hN e1 (I.ok.inj _ _ _ e hc ▸ hi))
   . by_cases hcc:c'=c
     . subst hcc;exact ⟨_,hc'⟩
     . obtain ⟨w2,z2⟩:=I.cell y c' e;exact ⟨w2,z2.sameBut hs hcc⟩
   . obtain ⟨e,n,ne,nf,d⟩:=I.pin p hp;refine ⟨(hs.2 p.1 ?_).trans e,n,ne,nf,d⟩;intro q;rw [q,hoc] at e;have q':oc=p.2:=Option.some.inj e;exact d w' (by rw [<-q'];exact hocd)
theorem jdh {M:Model} {A:Around} {E:Value->Shared->Prop} {i:Nat} {x:Str} {v:V} {u:Value} {Q:Unit->Shared->Prop} (I:Inv X pins σ H s) (hN:X.N.Nodup) (hi:X.N[i]?=some x) (hx:Loc X.env.scope x) (r:RelV v u)
 (h:∀s',Inv X pins (σ.set i (some v)) H s'->Q () s') (hf:autoParam ‹"N"› QA.a0._auto_1):wpAny M A (storeName X.env x u) Q E s:=
 jd9 I hN hi hx r (fun s' I' _=>h s' I') hf
theorem Inv.call' {s':Shared} {ch:List Addr} (I:Inv X pins σ H s) (ho:s'.os=s.os) (u:Un (frs X.stack) ch H H' s.heap s'.heap) (hok:HOk X.prog X.w H' s'.heap) (hg:AllBare s'.gens)
 (hch:∀b∈ch,(b∈X.ex\/X.s₀.heap.objs.size<=b)/\b≠X.env.locals/\(∀x c,X.env.cells.lookup x=some c->c≠b)/\∀p∈X.pn++pins,p.1≠b):Inv X pins σ H' s':=by
 obtain ⟨h',g',d',t',o'⟩:=s';have e:o'=s.os:=ho;subst e;exact I.call (g':=g') (t':=t') (d':=d') u hok hg hch
end
abbrev XK:=Value->Option Addr->Hp->Prop
abbrev St:=List (Option V)
abbrev VK:=V->Hp->Prop
abbrev TE:=St->Hp->VK->Prop
abbrev TT:=St->Hp->(Bool->Hp->Prop)->Prop
abbrev TA:=St->Hp->(List V->Hp->Prop)->Prop
structure Ends where
 nx:St->Hp->Prop
 rt:VK
 bk:St->Hp->Prop:=fun _ _=>False
 ct:St->Hp->Prop:=fun _ _=>False
abbrev TS:=Ends->St->Hp->Prop
def EP (X:Cx) (pins:List (Addr×Obj)) (σ:St) (Q:VK) (u:Value) (s':Shared):Prop:=∃v H',Inv X pins σ H' s'/\RelV v u/\Q v H'
def TP (X:Cx) (pins:List (Addr×Obj)) (σ:St) (Q:Bool->Hp->Prop) (b:Bool) (s':Shared):Prop:=∃H',Inv X pins σ H' s'/\Q b H'
def AP (X:Cx) (pins:List (Addr×Obj)) (σ:St) (Q:List V->Hp->Prop) (us:List Value) (s':Shared):Prop:=∃vs H',Inv X pins σ H' s'/\Vals vs us/\Q vs H'
def SP (X:Cx) (pins:List (Addr×Obj)) (D:Ends) (f:Flow) (s':Shared):Prop:=
 match f with
 | .next=>∃σ' H',Inv X pins σ' H' s'/\D.nx σ' H'
 | .brk=>∃σ' H',Inv X pins σ' H' s'/\D.bk σ' H'
 | .cont=>∃σ' H',Inv X pins σ' H' s'/\D.ct σ' H'
 | .ret u=>∃v σ' H',Inv X pins σ' H' s'/\RelV v u/\D.rt v H'
def PE (X:Cx) (e:Expr) (t:TE):Prop:=∀(pins:List (Addr×Obj)) (s:Shared) (σ:St) (H:Hp) (Q:VK),Inv X pins σ H s->t σ H Q->wpAny ‹"d"› X.A (eval e X.env) (EP X pins σ Q) X.xe s
def PT (X:Cx) (e:Expr) (t:TT):Prop:=∀(pins:List (Addr×Obj)) (s:Shared) (σ:St) (H:Hp) (Q:Bool->Hp->Prop),Inv X pins σ H s->t σ H Q->wpAny ‹"d"› X.A (isTrue e X.env (eval e X.env)) (TP X pins σ Q) X.xe s
def PW (X:Cx) (e:Expr) (t:TT):Prop:=∀(whole:Sem Value) (pins:List (Addr×Obj)) (s:Shared) (σ:St) (H:Hp) (Q:Bool->Hp->Prop),Inv X pins σ H s->t σ H Q->wpAny ‹"d"› X.A (isTrue e X.env whole) (TP X pins σ Q) X.xe s
theorem PW.pt {X:Cx} {e:Expr} {t:TT} (h:PW X e t):PT X e t:=h _
def PA (X:Cx) (es:List Expr) (t:TA):Prop:=∀(pos:Pos) (pins:List (Addr×Obj)) (s:Shared) (σ:St) (H:Hp) (Q:List V->Hp->Prop),Inv X pins σ H s->t σ H Q->wpAny ‹"d"› X.A (spliced (backTo pos (starEach es X.env))) (AP X pins σ Q) X.xe s
def PS (X:Cx) (st:Stmt) (t:TS):Prop:=∀(pins:List (Addr×Obj)) (s:Shared) (σ:St) (H:Hp) (D:Ends),Inv X pins σ H s->t D σ H->wpAny ‹"d"› X.A (exec st X.env) (SP X pins D) X.xe s
def PSs (X:Cx) (st:List Stmt) (t:TS):Prop:=∀(pins:List (Addr×Obj)) (s:Shared) (σ:St) (H:Hp) (D:Ends),Inv X pins σ H s->t D σ H->wpAny ‹"d"› X.A (execs st X.env) (SP X pins D) X.xe s
theorem qr {α:Type} {t:Sem α} {Q Q':α->Shared->Prop} {M:Model} {A:Around} {E:Value->Shared->Prop} {s:Shared} (h:wpAny M A t Q E s) (hQ:∀a s,Q a s->Q' a s):wpAny M A t Q' E s:=yj h hQ fun _ _ x=>x
end L2
namespace L2
open PySem PySem.Spec PyProof.Rows
section
variable {X:Cx}
theorem bin {a b:Expr} {ta tb:TE} (ha:PE X a ta) (hb:PE X b tb) {pins:List (Addr×Obj)} {s:Shared} {σ:St} {H:Hp} {R:V->V->Hp->Prop} (I:Inv X pins σ H s) (h:ta σ H fun x H1=>tb σ H1 fun y H2=>R x y H2)
 {α:Type} {Q:α->Shared->Prop} {f:Value->Value->Sem α}
 (hf:∀v u s2 x y H2,Inv X pins σ H2 s2->RelV x v->RelV y u->R x y H2->wpAny ‹"d"› X.A (f v u) Q X.xe s2) :
 wpAny ‹"d"› X.A (eval a X.env) ‹"bd"› X.xe s:=by
 refine qr ‹"2"› fun v s1 zz=>?_;obtain ⟨x,H1,I1,r1,q1⟩:=zz;refine qr (hb pins s1 σ H1 _ I1 q1) fun u s2 zz=>?_;obtain ⟨y,H2,I2,r2,q2⟩:=zz;exact hf v u s2 x y H2 I2 r1 r2 q2
def jeC (i:Nat):TE:=fun σ H Q=>∃v,σ[i]?=some (some v)/\Q v H
def tC (v:V):TE:=fun _ H Q=>Q v H
theorem ZO {i:Nat} {x:Str} {pos:Pos} (hN:X.N[i]?=some x) (hv:Vis X.env.scope x) (hd:autoParam ‹"i"› QA.a1._auto_1) (hcd:autoParam ‹"al"› QA.a1._auto_1):PE X (.Name x pos) (jeC i):=by
 intro pins s σ H Q I h;obtain ⟨v,e,h⟩:=h;obtain ⟨m,hn,hl⟩:=I.loc;obtain ⟨u,r,l⟩:=hl i x v hN e hv;have fin:EP X pins σ Q u s:=⟨v,H,I,r,h⟩;rcases l with ⟨hk,hm⟩ | ⟨hk,c,hc,hcell⟩
 . exact wpAny_Name (wpAny_loadName_local I.ok.kind hk hn hm fin) hd
 . rcases hk with hk | hk
   . exact wpAny_Name (wpAny_loadName_cell I.ok.kind hk hc hcell fin) hd
   . exact wpAny_Name (wpAny_loadName_free I.ok.kind hk hc hcell fin hcd) hd
theorem jqL {i j pos}:PE X (.Constant (.int i) j pos) (tC (.int i)):=fun _ _ _ H _ I h=>wpAny_Constant_int ⟨.int i,H,I.tok _,⟨_,rfl⟩,h⟩
theorem jrg {b j pos}:PE X (.Constant (.bool b) j pos) (tC (.bl b)):=fun _ _ _ H _ I h=>Constant_bool ⟨.bl b,H,I,rfl,h⟩
theorem jqx {j pos}:PE X (.Constant .none j pos) (tC .non):=fun _ _ _ H _ I h=>Constant_none ⟨.non,H,I,rfl,h⟩
def Gl (X:Cx) (x:Str):Prop:=X.env.kindOf x=some .globalImplicit
theorem jiC {E:Value->Shared->Prop} {pins:List (Addr×Obj)} {s:Shared} {σ:St} {H:Hp} {x:Str} {u:Value} {pos:Pos} {Q:Value->Shared->Prop} (I:Inv X pins σ H s) (hg:Gl X x) (hm:X.mg x=some u) (h:Q u s)
 (hd:autoParam ‹"i"› QA.a1._auto_1):wpAny ‹"d"› X.A (eval (.Name x pos) X.env) Q E s:=
 Calls.Name_function_global I.ok.kind hg (Calls.loadGlobal_global (by rw [I.ok.glob];exact I.mod.glob.keeps I.bk) hm h) hd
theorem JN {E:Value->Shared->Prop} {pins:List (Addr×Obj)} {s:Shared} {σ:St} {H:Hp} {x:Str} {u:Value} {pos:Pos} {Q:Value->Shared->Prop} (I:Inv X pins σ H s) (hg:Gl X x) (hm:X.mg x=none) (hv:bootBuiltins x=some u) (h:Q u s)
 (hn:autoParam (x ≠ "__name__") QA.a1._auto_1) (hd:autoParam ‹"i"› QA.a1._auto_1):wpAny ‹"d"› X.A (eval (.Name x pos) X.env) Q E s:=by
 obtain ⟨mb,h1,h2⟩:=I.mod.blt;exact Calls.Name_function_global I.ok.kind hg (Calls.loadGlobal_builtin (by rw [I.ok.glob];exact I.mod.glob.keeps I.bk) hm (by rw [I.ok.blt];exact h1.keeps I.bk) ((h2 x hn).trans hv) h) hd
theorem jmu {x:Str} {v:V} {u:Value} {pos:Pos} (hg:Gl X x) (hm:X.mg x=some u) (r:RelV v u) (hd:autoParam ‹"i"› QA.a1._auto_1):PE X (.Name x pos) (tC v):=fun _ _ _ H _ I h=>jiC I hg hm ⟨v,H,I,r,h⟩ hd
theorem jn0 {x:Str} {v:V} {u:Value} {pos:Pos} (hg:Gl X x) (hm:X.mg x=none) (hv:bootBuiltins x=some u) (r:RelV v u) (hn:autoParam (x ≠ "__name__") QA.a1._auto_1) (hd:autoParam ‹"i"› QA.a1._auto_1):PE X (.Name x pos) (tC v):=fun _ _ _ H _ I h=>JN I hg hm hv ⟨v,H,I,r,h⟩ hn hd
variable {a b:Expr} {ta tb:TE} {pos:Pos}
def PC (X:Cx) (op:CmpOp) (a b:Expr) (t:TE):Prop:=
 ∀(pins:List (Addr×Obj)) (s:Shared) (σ:St) (H:Hp) (Q:VK),Inv X pins σ H s->t σ H Q->
   wpAny ‹"d"› X.A (eval a X.env) (fun v s₁=>wpAny ‹"d"› X.A (eval b X.env) (fun u s₂=>wpAny ‹"d"› X.A (compareOp op v u) (EP X pins σ Q) X.xe s₂) X.xe s₁) X.xe s
theorem nobehind (b:Expr) {op:CmpOp} (h:op≠.In) (h2:op≠.NotIn):behindInMarks op b=false:=by
 have e1:(op == CmpOp.In)=false:=by cases op <;> first | rfl | exact absurd rfl h
 have e2:(op == CmpOp.NotIn)=false:=by cases op <;> first | rfl | exact absurd rfl h2
 cases b <;> simp [behindInMarks,e1,e2]
def joE (ta:TE):TE:=fun σ H Q=>ta σ H fun x H1=>Q (.bl (!decide (x=.non))) H1
theorem RelV.none_iff {x:V} {v:Value} (r:RelV x v):(v == Value.none)=decide (x=.non):=by
 cases x with
 | non=>cases r;rfl
 | bl _=>cases r;rfl
 | int _=>obtain ⟨t,rfl⟩:=r;rfl
 | str _=>obtain ⟨t,rfl⟩:=r;rfl
 | byt _=>obtain ⟨t,rfl⟩:=r;rfl
 | flt _=>obtain ⟨t,rfl⟩:=r;rfl
 | ref _=>cases r;rfl
 | ty _=>cases r;rfl
theorem jnw {j pos'} (ha:PE X a ta):PC X .IsNot a (.Constant .none j pos') (joE ta):=by intro pins s σ H Q I h;refine qr ‹"2"› fun v s1 zz=>?_;obtain ⟨x,H1,I1,r1,q1⟩:=zz;exact Constant_none (isnot_none_gen ⟨.bl _,H1,I1,by rw [r1.none_iff];rfl,q1⟩)
def tB (t:TE):TT:=fun σ H Q=>t σ H fun x H1=>∃c,x=.bl c/\Q c H1
theorem jpU {op:CmpOp} {t:TE} (h:PC X op a b t) (h1:autoParam (behindInMarks op b=false) QA.a2._auto_1):PT X (.Compare a [op] [b] pos) (tB t):=by intro pins s σ H Q I hw;refine wpAny_isTrue_Compare1 (qr (h pins s σ H _ I hw) fun v s1 h1=>qr h1 fun u s2 h2=>qr h2 fun c s3 zz=>?_) h1;obtain ⟨x,H1,I1,r1,q1⟩:=zz;obtain ⟨d,rfl,q⟩:=q1;cases r1;exact yH ⟨H1,I1,q⟩
theorem jqB {e:Expr} {t:TE} (h:PE X e t) (he:autoParam (∀whole,isTrue e X.env whole=(do let v <- whole;standAt e.pos;holding [v] (truthy v))) QA.a3._auto_1):PT X e (tB t):=by intro pins s σ H Q I hw;refine isTrue_plain (qr (h pins s σ H _ I hw) fun v s1 zz=>?_) (he _);obtain ⟨x,H1,I1,r1,q1⟩:=zz;obtain ⟨d,rfl,q⟩:=q1;cases r1;exact yH ⟨H1,I1,q⟩
variable {tA tB':TT} {rest:List Expr}
def jrT (t u:TT):TT:=fun σ H Q=>t σ H fun c H1=>if c=true then u σ H1 Q else Q false H1
def tOr (t u:TT):TT:=fun σ H Q=>t σ H fun c H1=>if c=true then Q true H1 else u σ H1 Q
def jq4 (t:TT):TT:=fun σ H Q=>t σ H fun c H1=>Q (!c) H1
theorem jnO (ha:PT X a tA):PW X (.BoolOp .And [a] pos) tA:=by
 intro wh pins s σ H Q I h;refine isTrue_and (qr (ha pins s σ H Q I h) fun c s1 e=>?_);cases c with
 | true=>exact isTrue_and_nil e
 | false=>exact e
theorem jpl (ha:PT X a tA):PW X (.BoolOp .Or [a] pos) tA:=by
 intro wh pins s σ H Q I h;refine isTrue_or (qr (ha pins s σ H Q I h) fun c s1 e=>?_);cases c with
 | false=>exact isTrue_or_nil e
 | true=>exact e
theorem jqQ (ha:PT X a tA) (hb:PW X (.BoolOp .And (b::rest) pos) tB'):PW X (.BoolOp .And (a::b::rest) pos) (jrT tA tB'):=by
 intro wh pins s σ H Q I h;refine isTrue_and (qr ‹"2"› fun c s1 zz=>?_);obtain ⟨H1,I1,q1⟩:=zz;cases c with
 | true=>exact hb wh pins s1 σ H1 Q I1 q1
 | false=>exact ⟨H1,I1,q1⟩
theorem jsb (ha:PT X a tA) (hb:PW X (.BoolOp .Or (b::rest) pos) tB'):PW X (.BoolOp .Or (a::b::rest) pos) (tOr tA tB'):=by
 intro wh pins s σ H Q I h;refine isTrue_or (qr ‹"2"› fun c s1 zz=>?_);obtain ⟨H1,I1,q1⟩:=zz;cases c with
 | true=>exact ⟨H1,I1,q1⟩
 | false=>exact hb wh pins s1 σ H1 Q I1 q1
theorem jpT (ha:PT X a tA):PT X (.UnaryOp .Not a pos) (jq4 tA):=by intro pins s σ H Q I h;exact isTrue_not (ha pins s σ H (fun c H1=>Q (!c) H1) I h)
def joh (ta tb:TE):TE:=fun σ H Q=>ta σ H fun x H1=>∃c,x=.bl c/\if c=true then tb σ H1 Q else Q (.bl false) H1
def joj (ta:TE):TE:=fun σ H Q=>ta σ H fun x H1=>∃c,x=.bl c/\Q (.bl (!c)) H1
theorem jqD {op} {t:TE} (h:PE X a t):PE X (.BoolOp op [a] pos) t:=fun pins s σ H Q I hw=>BoolOp_one (h pins s σ H Q I hw)
theorem jqi (ha:PE X a ta) (hb:PE X (.BoolOp .And (b::rest) pos) tb):PE X (.BoolOp .And (a::b::rest) pos) (joh ta tb):=by
 intro pins s σ H Q I h;refine BoolOp_and (qr ‹"2"› fun v s1 zz=>?_);obtain ⟨x,H1,I1,r1,q1⟩:=zz;obtain ⟨c,rfl,q1⟩:=q1;cases r1;refine yH ?_;cases c with
 | true=>exact hb pins s1 σ H1 Q I1 q1
 | false=>exact ⟨.bl false,H1,I1,rfl,q1⟩
theorem jpd (ha:PE X a ta):PE X (.UnaryOp .Not a pos) (joj ta):=by intro pins s σ H Q I h;refine UnaryOp_ (qr ‹"2"› fun v s1 zz=>?_);obtain ⟨x,H1,I1,r1,q1⟩:=zz;obtain ⟨c,rfl,q1⟩:=q1;cases r1;exact not_of (yH ⟨.bl (!c),H1,I1,rfl,q1⟩)
def tIf (t:TT) (ta tb:TE):TE:=fun σ H Q=>t σ H fun c H1=>if c=true then ta σ H1 Q else tb σ H1 Q
theorem jlj {c:Expr} (hc:PT X c tA) (ha:PE X a ta) (hb:PE X b tb):PE X (.IfExp c a b pos) (tIf tA ta tb):=by
 intro pins s σ H Q I h;refine wpAny_IfExp (qr (hc pins s σ H _ I h) fun d s1 zz=>?_);obtain ⟨H1,I1,q1⟩:=zz;cases d with
 | true=>exact ha pins s1 σ H1 Q I1 q1
 | false=>exact hb pins s1 σ H1 Q I1 q1
end
end L2
namespace L2
open PySem PySem.Spec PyProof.Rows
def Jp (K:PySem.W.Frag) (H:Hp) (a:Addr) (xs:List V):Prop:=
 Rd H a (.lst xs) \/
   ∃(o:Obj) (its:Array Value) (n:Nat),K.lookup a=some o ∧ o.cls=.type "list" ∧ o.dict=none ∧ o.data=.seq its n ∧ its.size ≤ sizeLine ∧ Vals xs its.toList
def SqT (K:PySem.W.Frag) (H:Hp) (a:Addr) (xs:List V):Prop:=
 Rd H a (.tup xs) \/
   ∃(o:Obj) (its:Array Value) (n:Nat),K.lookup a=some o ∧ o.cls=.type "tuple" ∧ o.data=.seq its n ∧ its.size ≤ sizeLine ∧ Vals xs its.toList
def jsS:Value->Option V
 | .none=>some .non
 | .bool b=>some (.bl b)
 | .int i _=>some (.int i)
 | .str x _=>some (.str x)
 | .bytes b _=>some (.byt b)
 | .float b _=>some (.flt b)
 | .ref a=>some (.ref a)
 | .type n=>some (.ty n)
 | _=>none
theorem RelV.abs {x:V} {u:Value} (r:RelV x u):jsS u=some x:=by
 cases x with
 | non=>cases r;rfl
 | bl _=>cases r;rfl
 | int _=>obtain ⟨t,rfl⟩:=r;rfl
 | str _=>obtain ⟨t,rfl⟩:=r;rfl
 | byt _=>obtain ⟨t,rfl⟩:=r;rfl
 | flt _=>obtain ⟨t,rfl⟩:=r;rfl
 | ref _=>cases r;rfl
 | ty _=>cases r;rfl
theorem RelV.inj {x y:V} {u:Value} (r:RelV x u) (q:RelV y u):x=y:=Option.some.inj (r.abs.symm.trans q.abs)
theorem Vals.inj:∀{xs ys:List V} {us:List Value},Vals xs us->Vals ys us->xs=ys:=fun {xs ys us} h=>by
 induction h generalizing ys with
 | nil=>intro h;cases h;rfl
 | cons r _ ih=>intro h;cases h with | cons q t=>rw [r.inj q,ih t]
section
variable {X:Cx} {pins:List (Addr×Obj)} {σ:St} {H:Hp} {s:Shared} {a:Addr} {xs ys:List V}
theorem SqT.of {K:PySem.W.Frag} (h:H a=some (.tup xs)):SqT K H a xs:=.inl (.inl h)
theorem Inv.list (I:Inv X pins σ H s) (h:Jp X.K H a xs):∃its:List Value,Vals xs its/\PlainL s.heap a its.toArray/\xs.length<=sizeLine:=by
 rcases h with h | ⟨o,its,n,hk,hc,hd,hs,hz,r⟩
 . obtain ⟨z,its,n,r,e⟩:=h.ok I.hok;exact ⟨its,r,⟨_,n,e,rfl,rfl,rfl⟩,z⟩
 . refine ⟨its.toList,r,⟨o,n,I.kIn a o hk,hc,hd,by simpa using hs⟩,?_⟩;have e:=r.length;simp only [YL] at e;omega
theorem Inv.tuple (I:Inv X pins σ H s) (h:SqT X.K H a xs):∃its:List Value,Vals xs its/\IsTup s.heap a its.toArray/\xs.length<=sizeLine:=by
 rcases h with h | ⟨o,its,n,hk,hc,hs,hz,r⟩
 . obtain ⟨z,its,r,p⟩:=h.ok I.hok;exact ⟨its,r,p,z⟩
 . refine ⟨its.toList,r,⟨o,I.kIn a o hk,hc,n,by simpa using hs⟩,?_⟩;have e:=r.length;simp only [YL] at e;omega
theorem Inv.list_inj (I:Inv X pins σ H s) (h:Jp X.K H a xs) (h':Jp X.K H a ys):xs=ys:=by
 obtain ⟨its,r,⟨o,n,e,_,_,d⟩,_⟩:=I.list h;obtain ⟨its',r',⟨o',n',e',_,_,d'⟩,_⟩:=I.list h';rw [e] at e';cases e';rw [d] at d';injection d' with d1 _;have:its=its':=by simpa using congrArg Array.toList d1
 subst this;exact r.inj r'
theorem Inv.tuple_inj (I:Inv X pins σ H s) (h:SqT X.K H a xs) (h':SqT X.K H a ys):xs=ys:=by
 obtain ⟨its,r,⟨o,e,_,n,d⟩,_⟩:=I.tuple h;obtain ⟨its',r',⟨o',e',_,n',d'⟩,_⟩:=I.tuple h';rw [e] at e';cases e';rw [d] at d';injection d' with d1 _;have:its=its':=by simpa using congrArg Array.toList d1
 subst this;exact r.inj r'
end
abbrev Cx.wish (X:Cx) (E:Value->Shared->Prop):Cx:={ X with xe:=E }
abbrev Cx.nox (X:Cx):Cx:=X.wish fun _ _=>False
theorem Cx.Ok.wish {X:Cx} (ok:X.Ok) (E:Value->Shared->Prop):(X.wish E).Ok:=⟨ok.mod,ok.kind,ok.glob,ok.blt,ok.above,ok.inj,ok.has,ok.cab,ok.hd,ok.frames,ok.stk,ok.exf,ok.bs,ok.bsz,ok.noex,ok.exfs,ok.funs,ok.frf⟩
theorem Cx.Ok.unwish {X:Cx} {E:Value->Shared->Prop} (ok:(X.wish E).Ok):X.Ok:=⟨ok.mod,ok.kind,ok.glob,ok.blt,ok.above,ok.inj,ok.has,ok.cab,ok.hd,ok.frames,ok.stk,ok.exf,ok.bs,ok.bsz,ok.noex,ok.exfs,ok.funs,ok.frf⟩
section
variable {X:Cx} {pins:List (Addr×Obj)} {σ:St} {H:Hp} {s:Shared} {E:Value->Shared->Prop}
theorem Inv.wish (I:Inv X pins σ H s) (E:Value->Shared->Prop):Inv (X.wish E) pins σ H s:=⟨I.ok.wish E,I.os,I.bare,I.base,I.loc,I.cell,I.free,I.freeC,I.pin,I.hok,I.len⟩
theorem Inv.unwish (I:Inv (X.wish E) pins σ H s):Inv X pins σ H s:=⟨I.ok.unwish,I.os,I.bare,I.base,I.loc,I.cell,I.free,I.freeC,I.pin,I.hok,I.len⟩
theorem SP.unwish {D:Ends} {f:Flow} {s':Shared} (h:SP (X.wish E) pins D f s'):SP X pins D f s':=by
 cases f with
 | next=>obtain ⟨σ',H',I,q⟩:=h;exact ⟨σ',H',I.unwish,q⟩
 | brk=>obtain ⟨σ',H',I,q⟩:=h;exact ⟨σ',H',I.unwish,q⟩
 | cont=>obtain ⟨σ',H',I,q⟩:=h;exact ⟨σ',H',I.unwish,q⟩
 | ret u=>obtain ⟨v,σ',H',I,r,q⟩:=h;exact ⟨v,σ',H',I.unwish,r,q⟩
theorem PSs.nox {st:List Stmt} {t:TS} (h:PSs X.nox st t):PSs X st t:=fun pins s σ H D I hw=>yj (h pins s σ H D (I.wish _) hw) (fun _ _ q=>q.unwish) fun _ _ z=>False.elim z
end
section
variable {X:Cx} {st:Stmt} {rest:List Stmt} {t u:TS} {e:Expr} {te:TE} {pos:Pos}
def joF:TS:=fun D σ H=>D.nx σ H
def jqZ (t u:TS):TS:=fun D σ H=>t { D with nx:=u D } σ H
theorem jnR:PSs X [] joF:=fun _ _ σ H _ I h=>kn ⟨σ,H,I,h⟩
theorem jkS (h1:PS X st t) (h2:PSs X rest u):PSs X (st::rest) (jqZ t u):=by
 intro pins s σ H D I h;refine wpAny_execs_cons (qr (h1 pins s σ H { D with nx:=u D } I h) fun f s1 q=>?_);cases f with
 | next=>obtain ⟨σ',H',I',q⟩:=q;exact h2 pins s1 σ' H' D I' q
 | ret v=>exact q
 | brk=>exact q
 | cont=>exact q
theorem jmW (h1:PS X st t):PSs X [st] t:=by
 intro pins s σ H D I h;refine wpAny_execs_cons (qr (h1 pins s σ H D I h) fun f s1 q=>?_);cases f with
 | next=>exact kn q
 | ret v=>exact q
 | brk=>exact q
 | cont=>exact q
theorem Inv.quiet {pins:List (Addr×Obj)} {σ:St} {H:Hp} {s:Shared} (I:Inv X pins σ H s):interactive X.env=false:=by simp [interactive,I.ok.kind]
def jla (te:TE):TS:=fun D σ H=>te σ H fun _ H1=>D.nx σ H1
theorem ji7 (he:PE X e te) (hs:autoParam (swapsWith e none pos.line X.env=pure false) QA.a4._auto_1):PS X (.Expr e pos) (jla te):=by intro pins s σ H D I h;exact wpAny_Expr_any (qr ‹"aI"› fun v s1 ⟨x,H1,I1,r1,q1⟩=>⟨σ,H1,I1,q1⟩) I.quiet hs
def jmF (te:TE):TS:=fun D σ H=>te σ H D.rt
theorem jhL (he:PE X e te):PS X (.Return (some e) pos) (jmF te):=by intro pins s σ H D I h;exact wpAny_Return_some (qr ‹"aI"› fun v s1 ⟨x,H1,I1,r1,q1⟩=>⟨x,σ,H1,I1,r1,q1⟩)
def jrc (c:TT) (t u:TS):TS:=fun D σ H=>c σ H fun b H1=>if b=true then t D σ H1 else u D σ H1
theorem jq3 {c:Expr} {a b:List Stmt} {tc:TT} (hc:PT X c tc) (ha:PSs X a t) (hb:PSs X b u):PS X (.If c a b pos) (jrc tc t u):=by
 intro pins s σ H D I h;refine wpAny_If (qr (hc pins s σ H _ I h) fun d s1 zz=>?_);obtain ⟨H1,I1,q1⟩:=zz;cases d with
 | true=>exact ha pins s1 σ H1 D I1 q1
 | false=>exact hb pins s1 σ H1 D I1 q1
end
abbrev TG:=V->St->Hp->(St->Hp->Prop)->Prop
abbrev TGs:=List V->St->Hp->(St->Hp->Prop)->Prop
def PG (X:Cx) (target:Expr) (t:TG):Prop:=
 ∀(pins:List (Addr×Obj)) (s:Shared) (σ:St) (H:Hp) (v:V) (u:Value) (Q:St->Hp->Prop),Inv X pins σ H s->RelV v u->t v σ H Q->
   wpAny ‹"d"› X.A (assign target X.env u) (fun _ s'=>∃σ' H',Inv X pins σ' H' s'/\Q σ' H') X.xe s
def PGs (X:Cx) (ts:List Expr) (t:TGs):Prop:=
 ∀(pins:List (Addr×Obj)) (s:Shared) (σ:St) (H:Hp) (vs:List V) (us:List Value) (Q:St->Hp->Prop),Inv X pins σ H s->Vals vs us->t vs σ H Q->
   wpAny ‹"d"› X.A (assignInOrder ((assignEach ts X.env).map (·.2)) us) (fun _ s'=>∃σ' H',Inv X pins σ' H' s'/\Q σ' H') X.xe s
abbrev jln:=V->V->V->Hp->(Hp->Prop)->Prop
def jqb (X:Cx) (t:jln):Prop:=
 ∀(pins:List (Addr×Obj)) (s:Shared) (σ:St) (H:Hp) (o i v:V) (ov iv u:Value) (Q:Hp->Prop),Inv X pins σ H s->RelV o ov->RelV i iv->RelV v u->t o i v H Q->
   wpAny ‹"d"› X.A (setItem ov iv u) (fun _ s'=>∃H',Inv X pins σ H' s'/\Q H') X.xe s
abbrev TIp:=V->V->Hp->VK->Prop
def PIp (X:Cx) (op:Operator) (t:TIp):Prop:=
 ∀(pins:List (Addr×Obj)) (s:Shared) (σ:St) (H:Hp) (x y:V) (v u:Value) (Q:VK),Inv X pins σ H s->RelV x v->RelV y u->t x y H Q->
   wpAny ‹"d"› X.A (inplaceOp op v u) (EP X pins σ Q) X.xe s
section
variable {X:Cx} {pos:Pos}
def jaf (i:Nat):TG:=fun v σ H Q=>Q (σ.set i (some v)) H
theorem jeD {i:Nat} {x:Str} (hN:X.N.Nodup) (hi:X.N[i]?=some x) (hx:Loc X.env.scope x) (hf:autoParam ‹"N"› QA.a0._auto_1):PG X (.Name x pos) (jaf i):=by intro pins s σ H v u Q I r h;exact wpAny_assign_Name (jdh I hN hi hx r (fun s' I'=>⟨_,H,I',h⟩) hf)
def jqg:TGs:=fun vs σ H Q=>vs=[]/\Q σ H
def joD (t:TG) (u:TGs):TGs:=fun vs σ H Q=>∃v r,vs=v::r/\t v σ H fun σ' H'=>u r σ' H' Q
theorem jii:PGs X [] jqg:=by intro pins s σ H vs us Q I r h;obtain ⟨e,h⟩:=h;subst e;cases r;exact assignInOrder_nil ⟨σ,H,I,h⟩
theorem jf9 {e:Expr} {es:List Expr} {t:TG} {u:TGs} (h1:PG X e t) (h2:PGs X es u)
 (hs:autoParam ((assignEach (e::es) X.env).map (·.2)=assign e X.env::(assignEach es X.env).map (·.2)) QA.a4._auto_1):PGs X (e::es) (joD t u):=by
 intro pins s σ H vs us Q I r h;obtain ⟨v,vr,e1,h⟩:=h;subst e1;cases r with
 | cons r rr=>rw [hs];refine assignInOrder_cons (qr (h1 pins s σ H _ _ _ I r h) fun _ s1 zz=>?_);obtain ⟨σ1,H1,I1,q1⟩:=zz;exact h2 pins s1 σ1 H1 _ _ Q I1 rr q1
def jnl (K:PySem.W.Frag) (n:Nat) (t:TGs):TG:=fun v σ H Q=>∃a xs,v=.ref a/\SqT K H a xs/\xs.length=n/\t xs σ H Q
theorem jlM {es:List Expr} {k:Nat} {t:TGs} {n:Nat} (hc:X.calm=true) (h:PGs X es t)
 (hn:autoParam ((assignEach es X.env).length=n) QA.a4._auto_1) (hst:autoParam ((assignEach es X.env).findIdx? (·.1)=none) QA.a4._auto_1):PG X (.Tuple es k pos) (jnl X.K n t):=by
 intro pins s σ H v u Q I r hw;obtain ⟨a,xs,e1,hq,hl,hw⟩:=hw;subst e1;cases r;obtain ⟨its,rv,ht,hz⟩:=I.tuple hq;refine assign_Tuple_tuple (I.ok.hd hc) ht (by simp [hn,<- hl,rv.length]) hst fun h' hx=>?_;have I1:Inv X pins σ H { s with heap:=h' }:=I.kept (t':=s.toks) fun b o e=>hx b o (Yv (Yw e)) e;exact h pins _ σ H xs _ Q I1 (by simpa using rv) hw
def jsv (to ti:TE) (t:jln):TG:=fun v σ H Q=>to σ H fun o H1=>ti σ H1 fun i H2=>t o i v H2 fun H3=>Q σ H3
theorem jqK {o i:Expr} {to ti:TE} {t:jln} (ho:PE X o to) (hi:PE X i ti) (hs:jqb X t)
 (ha:autoParam (∀v,assign (.Subscript o i pos) X.env v=(do
  let ov <- holding [v] (eval o X.env)
  let iv <- holding [v,ov] (eval i X.env)
  standAt pos
  holding [v,ov,iv] (setItem ov iv v)
  release [v,ov,iv] [])) QA.a3._auto_1):PG X (.Subscript o i pos) (jsv to ti t):=by
 intro pins s σ H v u Q I r h;rw [ha];refine Yb (Y8 (qr (ho pins s σ H _ I h) fun ov s1 zz=>?_));obtain ⟨x,H1,I1,r1,q1⟩:=zz;refine Yb (Y8 (qr (hi pins s1 σ H1 _ I1 q1) fun iv s2 zz=>?_));obtain ⟨y,H2,I2,r2,q2⟩:=zz;refine Yb (wpAny_standAt (Yb (Y8 (qr (hs pins s2 σ H2 x y v ov iv u _ I2 r1 r2 r q2) fun _ s3 zz=>?_))));obtain ⟨H3,I3,q3⟩:=zz;exact wpAny_release ⟨σ,H3,I3,q3⟩
def jdK (te:TE) (g:TG):TS:=fun D σ H=>te σ H fun x H1=>g x σ H1 D.nx
theorem jlr {tg e:Expr} {te:TE} {g:TG} (he:PE X e te) (hg:PG X tg g) (hs:autoParam (swapsWithSole [tg] e pos.line X.env=pure false) QA.a4._auto_1) (hw:autoParam (swappedStores [tg] e X.env=pure none) QA.a4._auto_1)
 (h1:autoParam ((assignEach [tg] X.env).map (·.2)=[assign tg X.env]) QA.a4._auto_1):PS X (.Assign [tg] e pos) (jdK te g):=by
 intro pins s σ H D I h;refine wpAny_Assign_stores (qr ‹"aI"› fun v s1 zz=>?_) hs hw;obtain ⟨x,H1,I1,r1,q1⟩:=zz;rw [h1];exact qr (hg pins s1 σ H1 x v _ I1 r1 q1) fun _ s2 q=>q
theorem jhR {i:Nat} {x:Str} {e:Expr} {te:TE} {pos':Pos} (hN:X.N.Nodup) (hi:X.N[i]?=some x) (hx:Loc X.env.scope x) (he:PE X e te) (hs:autoParam (swapsWith e (some (.Name x pos')) pos.line X.env=pure false) QA.a4._auto_1) (hf:autoParam ‹"N"› QA.a0._auto_1) :
 PS X (.Assign [.Name x pos'] e pos) (jdK te (jaf i)):=by
 intro pins s σ H D I h;refine wpAny_Assign_Name (qr ‹"aI"› fun v s1 zz=>?_) hs;obtain ⟨y,H1,I1,r1,q1⟩:=zz;exact jdh I1 hN hi hx r1 (fun s2 I2=>⟨_,H1,I2,q1⟩) hf
def jsd (i:Nat) (te:TE) (ti:TIp):TS:=fun D σ H=>∃x,σ[i]?=some (some x)/\te σ H fun y H1=>ti x y H1 fun z H2=>D.nx (σ.set i (some z)) H2
theorem jqS {i:Nat} {x:Str} {e:Expr} {te:TE} {op:Operator} {ti:TIp} {pos':Pos} (hN:X.N.Nodup) (hi:X.N[i]?=some x) (hx:Loc X.env.scope x) (he:PE X e te) (ho:PIp X op ti) (hf:autoParam ‹"N"› QA.a0._auto_1) :
 PS X (.AugAssign (.Name x pos') op e pos) (jsd i te ti):=by
 intro pins s σ H D I h;obtain ⟨v,e1,h⟩:=h;obtain ⟨m,hn,hl⟩:=I.loc;have vis:Vis X.env.scope x:=by rcases hx with k | k;exact .inl k;exact .inr (.inl k)
 obtain ⟨u,r,l⟩:=hl i x v hi e1 vis;refine wpAny_AugAssign_Name ?_;have go:wpAny ‹"d"› X.A (eval e X.env) (fun w s₂=>wpAny ‹"d"› X.A (inplaceOp op u w) (fun r s₃=>wpAny ‹"d"› X.A (storeName X.env x r) (fun _=>SP X pins D .next) X.xe s₃) X.xe s₂) X.xe s:=by refine qr ‹"aI"› fun w s1 zz=>?_;obtain ⟨y,H1,I1,r1,q1⟩:=zz;refine qr (ho pins s1 σ H1 v y u w _ I1 r r1 q1) fun z s2 zz=>?_;obtain ⟨zv,H2,I2,r2,q2⟩:=zz;exact jdh I2 hN hi hx r2 (fun s3 I3=>⟨_,H2,I3,q2⟩) hf
 rcases l with ⟨hk,hm⟩ | ⟨hk,c,hc,hcell⟩
 . exact wpAny_loadName_local I.ok.kind hk hn hm go
 . rcases hk with hk | hk
   . exact wpAny_loadName_cell I.ok.kind hk hc hcell go
   . rcases hx with k | k
     . have:X.env.scope.names.lookup x=some .free:=hk;rw [k] at this;cases this
     . have:X.env.scope.names.lookup x=some .free:=hk;rw [k] at this;cases this
def jow (to ti te:TE) (tget:V->V->Hp->VK->Prop) (tip:TIp) (tset:jln):TS:=fun D σ H=>to σ H fun o H1=>ti σ H1 fun i H2=>tget o i H2 fun x H3=>te σ H3 fun y H4=>tip x y H4 fun z H5=>tset o i z H5 fun H6=>D.nx σ H6
def jrj (X:Cx) (t:V->V->Hp->VK->Prop):Prop:=
 ∀(pins:List (Addr×Obj)) (s:Shared) (σ:St) (H:Hp) (o i:V) (ov iv:Value) (Q:VK),Inv X pins σ H s->RelV o ov->RelV i iv->t o i H Q->
   wpAny ‹"d"› X.A (getItem ov iv) (EP X pins σ Q) X.xe s
theorem jm1 {o i e:Expr} {to ti te:TE} {tget:V->V->Hp->VK->Prop} {tip:TIp} {tset:jln} {op:Operator} {tpos:Pos} (ho:PE X o to) (hi:PE X i ti) (hg:jrj X tget) (he:PE X e te) (hp:PIp X op tip) (hs:jqb X tset)
 (ha:autoParam (∀ov iv new,augStore i ov iv new=(do holding [new,ov,iv] (setItem ov iv new);release [new,ov,iv] [];pure .next)) QA.a5._auto_1):PS X (.AugAssign (.Subscript o i tpos) op e pos) (jow to ti te tget tip tset):=by
 intro pins s σ H D I h;refine wpAny_AugAssign_SubscriptAny (qr (ho pins s σ H _ I h) fun ov s1 zz=>?_) ha;obtain ⟨x1,H1,I1,r1,q1⟩:=zz;refine qr (hi pins s1 σ H1 _ I1 q1) fun iv s2 zz=>?_;obtain ⟨x2,H2,I2,r2,q2⟩:=zz;refine qr (hg pins s2 σ H2 x1 x2 ov iv _ I2 r1 r2 q2) fun old s3 zz=>?_;obtain ⟨x3,H3,I3,r3,q3⟩:=zz;refine qr (he pins s3 σ H3 _ I3 q3) fun v s4 zz=>?_;obtain ⟨x4,H4,I4,r4,q4⟩:=zz;refine qr (hp pins s4 σ H4 x3 x4 old v _ I4 r3 r4 q4) fun new s5 zz=>?_;obtain ⟨x5,H5,I5,r5,q5⟩:=zz;exact qr (hs pins s5 σ H5 x1 x2 x5 ov iv new _ I5 r1 r2 r5 q5) fun _ s6 ⟨H6,I6,q6⟩=>⟨σ,H6,I6,q6⟩
def ipI (f:Int->Int->Int):TIp:=fun x y H Q=>∃i j,x=.int i/\y=.int j/\Q (.int (f i j)) H
theorem jpN:PIp X .Add (ipI fun i j=>i+j):=by intro pins s σ H x y v u Q I r1 r2 h;obtain ⟨i,j,e1,e2,q⟩:=h;subst e1;subst e2;obtain ⟨t,rfl⟩:=r1;obtain ⟨t',rfl⟩:=r2;exact iadd_int ⟨.int _,H,I.tok _,⟨_,rfl⟩,q⟩
theorem jo1:PIp X .Sub (ipI fun i j=>i-j):=by intro pins s σ H x y v u Q I r1 r2 h;obtain ⟨i,j,e1,e2,q⟩:=h;subst e1;subst e2;obtain ⟨t,rfl⟩:=r1;obtain ⟨t',rfl⟩:=r2;exact isub_int ⟨.int _,H,I.tok _,⟨_,rfl⟩,q⟩
end
section
variable {X:Cx} {pos:Pos}
def jhD (c:TT) (tb:TS):TS:=fun D σ H=>∃W:Nat->St->Hp->Prop,(∃m,W m σ H)/\∀m σ H,W m σ H->
 c σ H fun b H1=>if b=true then ∃N:St->Hp->Prop,(∀σ' H',N σ' H'->∃m',m'<m/\W m' σ' H')/\tb { D with nx:=N,ct:=N,bk:=D.nx } σ H1 else D.nx σ H1
theorem jli {c:Expr} {body:List Stmt} {tc:TT} {tb:TS} (hp:PassesOwn ‹"d"› X.A X.env X.xe) (hc:PT X c tc) (hb:PSs X body tb):PS X (.While c body [] pos) (jhD tc tb):=by
 intro pins s σ H D I h;obtain ⟨W,⟨m0,w0⟩,turn⟩:=h;refine wpAny_While (codeAny_whileLoop (fun n s'=>∃σ' H',Inv X pins σ' H' s'/\W n σ' H') ?_ m0 ⟨σ,H,I,w0⟩);rintro n s1 ⟨σ1,H1,I1,w1⟩;refine Kg hp (qr (hc pins s1 σ1 H1 _ I1 (turn n σ1 H1 w1)) fun b s2 zz=>?_);obtain ⟨H2,I2,q2⟩:=zz;cases b with
 | true=>
   obtain ⟨N,hN,q2⟩:=q2;rw [if_pos rfl];refine Kg hp (qr (hb pins s2 σ1 H2 _ I2 q2) fun f s3 q3=>?_);cases f with
   | next=>obtain ⟨σ3,H3,I3,n3⟩:=q3;obtain ⟨m',hm,w3⟩:=hN σ3 H3 n3;exact ⟨m',hm,σ3,H3,I3,w3⟩
   | cont=>obtain ⟨σ3,H3,I3,n3⟩:=q3;obtain ⟨m',hm,w3⟩:=hN σ3 H3 n3;exact ⟨m',hm,σ3,H3,I3,w3⟩
   | brk=>exact q3
   | ret v=>exact q3
 | false=>rw [if_neg Yi];exact kn ⟨σ1,H2,I2,q2⟩
end
structure It where
 go:Nat->Hp->Prop
 yld:Nat->Hp->V->Hp->Prop
 stop:Nat->Hp->Prop
def jda (X:Cx) (pins:List (Addr×Obj)) (H:Hp) (b:Addr):Prop:=H b=none/\b≠X.env.locals/\b∉X.fs/\(b∈X.ex\/X.s₀.heap.objs.size<=b)/\(∀x c,X.env.cells.lookup x=some c->c≠b)/\∀p∈X.pn++pins,p.1≠b
theorem Inv.fpOk {X:Cx} {pins:List (Addr×Obj)} {σ:St} {H H':Hp} {s:Shared} {b:Addr} (I:Inv X pins σ H s) (hb:s.heap.objs.size<=b) (hn:H' b=none):jda X pins H' b:=by
 refine ⟨hn,yn (Yo I.lt hb),I.nofs hb,.inr (YW I.sz hb),fun x c e z=>?_,fun p hp z=>?_⟩
 . obtain ⟨v,q⟩:=I.cell x c e;exact absurd (Yo q.lt (by rw [z];exact hb)) (Y1 _)
 . exact absurd (Yo (Yw (I.pin p hp).1) (by rw [z];exact hb)) (Y1 _)
structure Turn (P:Program) (w:World) (K:PySem.W.Frag) (tg:Expr) (J:It) (fp:List Addr) (it:Addr) (tn:Nat->Heap->Prop):Prop where
 mem:it∈fp
 obj:∀i h,tn i h->∀b∈fp,∃o,h.get? b=some o/\∀v,o.data≠.cell v
 keep:∀i h h',tn i h->(∀b∈fp,∀o,h.get? b=some o->h'.get? b=some o)->tn i h'
 item:∀(X:Cx),X.prog=P->X.w=w->X.K=K->X.calm=true->∀(i:Nat) (pins:List (Addr×Obj)) (s:Shared) (σ:St) (H:Hp) (E:Value->Shared->Prop),Inv X pins σ H s->(∀b∈fp,jda X pins H b)->tn i s.heap->J.go i H->
  wpAny (model P w) X.A (pyNext (.ref it)) (fun r s1=>∃u,r=some u /\
   wpAny (model P w) X.A (letOwnedTupleGo tg (.ref it) u) (fun _ s2=>∃x H',Inv X pins σ H' s2/\RelV x u/\J.yld i H x H'/\tn (i+1) s2.heap/\∀b∈fp,H' b=none) E s1) E s
 done:∀(X:Cx),X.prog=P->X.w=w->X.K=K->X.calm=true->∀(i:Nat) (pins:List (Addr×Obj)) (s:Shared) (σ:St) (H:Hp) (E:Value->Shared->Prop),Inv X pins σ H s->(∀b∈fp,jda X pins H b)->tn i s.heap->J.stop i H->
  wpAny (model P w) X.A (pyNext (.ref it)) (fun r s1=>r=none/\Inv X pins σ H s1) E s
 self:∀(A:Around) (i:Nat) (s:Shared) (Q:Value->Shared->Prop) (E:Value->Shared->Prop),tn i s.heap->Q (.ref it) s->wpAny (model P w) A (pyIter (.ref it)) Q E s
abbrev TI:=St->Hp->(It->Hp->Prop)->Prop
def PIE (X:Cx) (pins:List (Addr×Obj)) (σ:St) (tg:Expr) (R:It->Hp->Prop) (itv:Value) (s2:Shared):Prop:=∃(it:Addr) (fp:List Addr) (tn:Nat->Heap->Prop) (J:It) (H':Hp),itv=.ref it/\Inv X pins σ H' s2/\Turn X.prog X.w X.K tg J fp it tn/\tn 0 s2.heap/\(∀b∈fp,jda X pins H' b)/\R J H'
def PI (X:Cx) (tg iter:Expr) (wi:TI):Prop:=
 ∀(pins:List (Addr×Obj)) (s:Shared) (σ:St) (H:Hp) (R:It->Hp->Prop),Inv X pins σ H s->wi σ H R->
   wpAny ‹"d"› X.A (eval iter X.env) (fun v s1=>wpAny ‹"d"› X.A (pyIter v) (PIE X pins σ tg R) X.xe s1) X.xe s
theorem jik {M:Model} {A:Around} {E:Value->Shared->Prop} {s:Shared} {tg:Expr} {it:Addr} {u:Value} {o:Obj} {n:String} {vs:Array Value} {Q:Unit->Shared->Prop} (ho:s.heap.get? it=some o) (hc:o.cls=.type n) (hd:o.data=.fields vs)
 (hn:["enumerate","zip","dict_itemiterator","dict_reverseitemiterator","odict_iterator","itertools.zip_longest","itertools.pairwise"].contains n=false) (hQ:Q () s):wpAny M A (letOwnedTupleGo tg (.ref it) u) Q E s:=by
 unfold letOwnedTupleGo;cases tg <;> first
  | exact Yj hQ
  | (cases u <;> first
      | exact Yj hQ
      | (refine Yb (wpAny_load ho ?_)
         rw [hc,hd];show wpAny M A (if (["enumerate","zip","dict_itemiterator","dict_reverseitemiterator","odict_iterator","itertools.zip_longest","itertools.pairwise"].contains n && vs[0]? == some (rawInt _))=true then _ else _) Q E s;rw [if_neg (by intro h;rw [hn,Bool.false_and] at h;cases h)];exact Yj hQ))
def Itl (K:PySem.W.Frag) (a:Addr):It:=⟨fun i H=>∃xs x,Jp K H a xs/\xs[i]?=some x,fun i H x H'=>H'=H/\∀xs,Jp K H a xs->xs[i]?=some x,fun i H=>∃xs,Jp K H a xs/\xs.length<=i⟩
def Itt (K:PySem.W.Frag) (a:Addr):It:=⟨fun i H=>∃xs x,SqT K H a xs/\xs[i]?=some x,fun i H x H'=>H'=H/\∀xs,SqT K H a xs->xs[i]?=some x,fun i H=>∃xs,SqT K H a xs/\xs.length<=i⟩
def Itr (lo:Int) (n:Nat):It:=⟨fun i _=>i<n,fun i H x H'=>H'=H/\x=.int (lo+i),fun i _=>n<=i⟩
theorem jjp {P:Program} {w:World} {K:PySem.W.Frag} {tg:Expr} (a it:Addr):Turn P w K tg (Itl K a) [it] it (fun i h=>h.IsListIter it a i) where
 mem:=by simp
 obj:=fun i h st b hb=>by
  have e:b=it:=by simpa using hb
  subst e;obtain ⟨o,e,c,d⟩:=st;exact ⟨o,e,fun v z=>by rw [d] at z;cases z⟩
 keep:=fun i h h' st k=>st.at fun o e=>k it (by simp) o e
 item:=by intro X hP hw hK hc i pins s σ H E I hf st hg;subst hP hw hK;obtain ⟨xs,x,hq,hx⟩:=hg;obtain ⟨its,rv,p,hz⟩:=I.list hq;obtain ⟨u,hu,ru⟩:=rv.get hx;obtain ⟨f0,f1,f2,f3,f4,f5⟩:=hf it (by simp);refine wpAny_pyNext_list_item st p.isList (x:=u) (by simpa using hu) fun h' st' sb=>?_;have I1:Inv X pins σ H { s with heap:=h' }:=I.turned (t':=s.toks) (fun b o hb e=>(sb.2 b hb).trans e) f0 f1 f3 f4 f5;obtain ⟨o,e,c,d⟩:=id st';exact ⟨u,rfl,jik (s:={ s with heap:=h' }) e c d (by decide) ⟨x,H,I1,ru,⟨rfl,fun ys hy=>by rw [I.list_inj hy hq];exact hx⟩,st',fun b hb=>(hf b hb).1⟩⟩
 done:=by intro X hP hw hK hc i pins s σ H E I hf st hg;subst hP hw hK;obtain ⟨xs,hq,hx⟩:=hg;obtain ⟨its,rv,p,hz⟩:=I.list hq;obtain ⟨f0,f1,f2,f3,f4,f5⟩:=hf it (by simp);have hl:=rv.length;exact wpAny_pyNext_list_end (I.ok.hd hc) st p.isList (by simp;omega) fun h' eb=>⟨rfl,I.turned (t':=s.toks) (fun b o hb e=>eb b o hb e) f0 f1 f3 f4 f5⟩
 self:=fun _ _ _ _ _ st h=>wpAny_pyIter_listiter st h
theorem jhj {P:Program} {w:World} {K:PySem.W.Frag} {tg:Expr} (a it:Addr):Turn P w K tg (Itt K a) [it] it (fun i h=>h.IsTupleIter it a i) where
 mem:=by simp
 obj:=fun i h st b hb=>by
  have e:b=it:=by simpa using hb
  subst e;obtain ⟨o,e,c,d⟩:=st;exact ⟨o,e,fun v z=>by rw [d] at z;cases z⟩
 keep:=fun i h h' st k=>st.at fun o e=>k it (by simp) o e
 item:=by intro X hP hw hK hc i pins s σ H E I hf st hg;subst hP hw hK;obtain ⟨xs,x,hq,hx⟩:=hg;obtain ⟨its,rv,p,hz⟩:=I.tuple hq;obtain ⟨u,hu,ru⟩:=rv.get hx;obtain ⟨f0,f1,f2,f3,f4,f5⟩:=hf it (by simp);refine wpAny_pyNext_tuple_item st (show s.heap.IsTuple a its.toArray from p) (x:=u) (by simpa using hu) fun h' st' sb=>?_;have I1:Inv X pins σ H { s with heap:=h' }:=I.turned (t':=s.toks) (fun b o hb e=>(sb.2 b hb).trans e) f0 f1 f3 f4 f5;obtain ⟨o,e,c,d⟩:=id st';exact ⟨u,rfl,jik (s:={ s with heap:=h' }) e c d (by decide) ⟨x,H,I1,ru,⟨rfl,fun ys hy=>by rw [I.tuple_inj hy hq];exact hx⟩,st',fun b hb=>(hf b hb).1⟩⟩
 done:=by intro X hP hw hK hc i pins s σ H E I hf st hg;subst hP hw hK;obtain ⟨xs,hq,hx⟩:=hg;obtain ⟨its,rv,p,hz⟩:=I.tuple hq;obtain ⟨f0,f1,f2,f3,f4,f5⟩:=hf it (by simp);have hl:=rv.length;exact wpAny_pyNext_tuple_end (I.ok.hd hc) st (show s.heap.IsTuple a its.toArray from p) (by simp;omega) fun h' eb=>⟨rfl,I.turned (t':=s.toks) (fun b o hb e=>eb b o hb e) f0 f1 f3 f4 f5⟩
 self:=fun _ _ _ _ _ st h=>wpAny_pyIter_tupleiter st h
theorem jhA {P:Program} {w:World} {K:PySem.W.Frag} {tg:Expr} (it:Addr) (lo:Int) (n:Nat):Turn P w K tg (Itr lo n) [it] it (fun i h=>IsRangeIter h it (lo+(i:Nat)*1) ((n:Int)-(i:Nat)) 1) where
 mem:=by simp
 obj:=fun i h st b hb=>by
  have e:b=it:=by simpa using hb
  subst e;exact ⟨_,st,fun v z=>by have z':Data.fields _=Data.cell v:=z;cases z'⟩
 keep:=fun i h h' st k=>k it (by simp) _ st
 item:=by intro X hP hw hK hc i pins s σ H E I hf st hg;subst hP hw hK;obtain ⟨f0,f1,f2,f3,f4,f5⟩:=hf it (by simp);have W:=Walks.range (prog:=X.prog) (w:=X.w) (I.ok.hd hc) it lo 1 n;refine W.item i s _ _ hg st fun v h' tk hv st' kk=>?_;obtain ⟨t,rfl⟩:=hv;have I1:Inv X pins σ H { s with heap:=h',toks:=tk }:=I.turned (fun b o hb e=>kk b o (by simpa using hb) e) f0 f1 f3 f4 f5;refine ⟨_,rfl,jik (s:={ s with heap:=h',toks:=tk }) (n := "range_iterator") st' rfl rfl (by decide) ⟨.int (lo+i),H,I1,⟨t,?_⟩,⟨rfl,rfl⟩,st',fun b hb=>(hf b hb).1⟩⟩;rw [Int.mul_one]
 done:=by intro X hP hw hK hc i pins s σ H E I hf st hg;subst hP hw hK;obtain ⟨f0,f1,f2,f3,f4,f5⟩:=hf it (by simp);exact wpAny_pyNext_range_end (I.ok.hd hc) st (by have:n<=i:=hg;omega) fun h' eb=>⟨rfl,I.turned (t':=s.toks) (fun b o hb e=>eb b o hb e) f0 f1 f3 f4 f5⟩
 self:=fun _ _ _ _ _ st h=>wpAny_pyIter_rangeiter st h
end L2
namespace L2
open PySem PySem.Spec PyProof.Rows
section
variable {X:Cx} {tg:Expr}
def jgx (K:PySem.W.Frag) (tl:TE):TI:=fun σ H R=>tl σ H fun x H1=>∃a,x=.ref a/\(∃xs,Jp K H1 a xs)/\R (Itl K a) H1
def joZ (K:PySem.W.Frag) (tl:TE):TI:=fun σ H R=>tl σ H fun x H1=>∃a,x=.ref a/\(∃xs,SqT K H1 a xs)/\R (Itt K a) H1
theorem jiA {l:Expr} {tl:TE} (hl:PE X l tl):PI X tg l (jgx X.K tl):=by
 intro pins s σ H R I h;refine qr (hl pins s σ H _ I h) fun v s1 zz=>?_;obtain ⟨x,H1,I1,r1,q1⟩:=zz;obtain ⟨a,e,⟨xs,hq⟩,q⟩:=q1;subst e;cases r1;obtain ⟨its,rv,p,hz⟩:=I1.list hq;refine wpAny_pyIter_list p.isList ?_;refine ⟨s1.heap.objs.size,[s1.heap.objs.size],_,_,H1,rfl,I1.kept (t':=s1.toks) fun b o e=>Yh _ e,jjp a _,⟨_,Yy _ rfl,rfl,rfl⟩,fun b hb=>?_,q⟩;have e:b=s1.heap.objs.size:=by simpa using hb
 subst e;exact I1.fpOk (Yq _) (I1.hok.fresh (Yq _))
theorem jpr {l:Expr} {tl:TE} (hl:PE X l tl):PI X tg l (joZ X.K tl):=by
 intro pins s σ H R I h;refine qr (hl pins s σ H _ I h) fun v s1 zz=>?_;obtain ⟨x,H1,I1,r1,q1⟩:=zz;obtain ⟨a,e,⟨xs,hq⟩,q⟩:=q1;subst e;cases r1;obtain ⟨its,rv,p,hz⟩:=I1.tuple hq;refine wpAny_pyIter_tuple (show s1.heap.IsTuple a its.toArray from p) ?_;refine ⟨s1.heap.objs.size,[s1.heap.objs.size],_,_,H1,rfl,I1.kept (t':=s1.toks) fun b o e=>Yh _ e,jhj a _,⟨_,Yy _ rfl,rfl,rfl⟩,fun b hb=>?_,q⟩;have e:b=s1.heap.objs.size:=by simpa using hb
 subst e;exact I1.fpOk (Yq _) (I1.hok.fresh (Yq _))
theorem jlg {pins:List (Addr×Obj)} {σ:St} {H:Hp} {s:Shared} {R:It->Hp->Prop} {E:Value->Shared->Prop} {lo hi:Int} {t u v:Tok} {tk:Nat} (I:Inv X pins σ H s) (h1:-(2 ^ 62)<=lo) (h2:lo<2 ^ 62) (h3:-(2 ^ 62)<=hi) (h4:hi<2 ^ 62)
 (q:R (Itr lo (hi-lo).toNat) H):wpAny ‹"d"› X.A (pyIter (.ref s.heap.objs.size)) (PIE X pins σ tg R) E { s with heap:=s.heap.push { cls:=.type "range",data:=.fields #[.int lo t,.int hi u,.int 1 v] },toks:=tk }:=by
 refine wpAny_pyIter_range (IsRange.new ..) (small_one h1 h2 h3 h4) ?_;have I1:Inv X pins σ H { s with heap:=s.heap.push { cls:=.type "range",data:=.fields #[.int lo t,.int hi u,.int 1 v] },toks:=tk }:=I.kept fun b o e=>Yh _ e;refine ⟨‹"X"›.objs.size,[‹"X"›.objs.size],_,_,H,rfl,
  I1.kept (t':=tk) fun b o e=>Yh _ e,jhA _ lo (hi-lo).toNat,?_,fun b hb=>?_,q⟩
 . have e1:lo+((0:Nat):Int)*1=lo:=by simp
   have e2:(((hi-lo).toNat:Nat):Int)-((0:Nat):Int)=Builtin.Range.rangeSize lo hi 1:=by rw [rangeSize_one];split <;> omega
   show IsRangeIter _ _ (lo+((0:Nat):Int)*1) ((((hi-lo).toNat:Nat):Int)-((0:Nat):Int)) 1;rw [e1,e2];exact Yy _ rfl
 . have e:b=‹"X"›.objs.size:=by simpa using hb
   subst e;exact I1.fpOk (Yq _) (I1.hok.fresh (Yq _))
def jod (ta:TA):TI:=fun σ H R=>ta σ H fun vs H1=>∃j:Int,vs=[.int j] /\ -(2 ^ 62)<=j/\j<2 ^ 62/\R (Itr 0 j.toNat) H1
theorem jjb {a:Expr} {ta:TA} {p pos:Pos} (hg:Gl X "range") (hm:X.mg "range"=none) (ha:PA X [a] ta) (hs:autoParam (starEach [a] X.env=[(false,eval a X.env)]) QA.a4._auto_1):PI X tg (.Call (.Name "range" p) [a] [] pos) (jod ta):=by
 intro pins s σ H R I h;refine Call_ (JN I hg hm boot_range (Y5 (qr (ha pos pins s σ H _ I h) fun us s1 zz=>?_) hs rfl));obtain ⟨vs,H1,I1,r1,q1⟩:=zz;obtain ⟨j,e,q1,q2,q⟩:=q1;subst e;cases r1 with
 | cons r rr=>cases rr;obtain ⟨t,rfl⟩:=r;exact call_range_1 (jlg I1 (by omega) (by omega) q1 q2 (by simpa using q))
def jrP (wi:TI) (g:TG) (tb:TS):TS:=fun D σ H=>wi σ H fun J H1=>∃W:Nat->Nat->St->Hp->Prop,(∃m,W 0 m σ H1)/\∀i m σ H,W i m σ H->
 (J.stop i H/\D.nx σ H)\/(J.go i H/\∃N:St->Hp->Prop,(∀σ' H',N σ' H'->∃m',m'<m/\W (i+1) m' σ' H')/\∀x H',J.yld i H x H'->g x σ H' fun σ2 H2=>tb { D with nx:=N,ct:=N,bk:=D.nx } σ2 H2)
def jdx (fp:List Addr) (h:Heap):List (Addr×Obj):=fp.filterMap fun b=>(h.get? b).map fun o=>(b,o)
theorem Zc {fp:List Addr} {h:Heap} {b:Addr} {o:Obj} (hb:b∈fp) (e:h.get? b=some o):(b,o)∈jdx fp h:=List.mem_filterMap.mpr ⟨b,hb,by rw [e];rfl⟩
theorem jjV {fp:List Addr} {h:Heap} {p:Addr×Obj} (hp:p∈jdx fp h):p.1∈fp/\h.get? p.1=some p.2:=by
 obtain ⟨b,hb,e⟩:=List.mem_filterMap.mp hp;cases q:h.get? b with
 | none=>rw [q] at e;cases e
 | some o=>rw [q] at e;have e':(b,o)=p:=Option.some.inj e;subst e';exact ⟨hb,q⟩
theorem Inv.pinned {pins:List (Addr×Obj)} {σ:St} {H:Hp} {s:Shared} {fp:List Addr} (I:Inv X pins σ H s) (hf:∀b∈fp,jda X pins H b) (ho:∀b∈fp,∃o,s.heap.get? b=some o/\∀v,o.data≠.cell v):Inv X (pins++jdx fp s.heap) σ H s:=
 I.pins_of fun p hp=>(YZ.mp hp).elim (fun z=>I.pin p (YM _ z)) fun z=>by obtain ⟨hb,e⟩:=jjV z;obtain ⟨f0,f1,f2,_⟩:=hf p.1 hb;obtain ⟨o,e',d⟩:=ho p.1 hb;rw [e] at e';cases e';exact ⟨e,f0,f1,f2,d⟩
theorem Inv.unpinned {pins pl:List (Addr×Obj)} {σ:St} {H:Hp} {s:Shared} (I:Inv X (pins++pl) σ H s):Inv X pins σ H s:=I.pins_of fun p hp=>I.pin p (YM _ (YE _ hp))
theorem jqj {iter:Expr} {body:List Stmt} {wi:TI} {g:TG} {tb:TS} {pos:Pos} (hp:PassesOwn ‹"d"› X.A X.env X.xe) (hc:X.calm=true) (hi:PI X tg iter wi) (hg:PG X tg g) (hb:PSs X body tb)
 (hs:autoParam ‹"Y"› QA.a3._auto_1):PS X (.For tg iter body [] pos) (jrP wi g tb):=by
 intro pins s σ H D I h;refine wpAny_For (qr (hi pins s σ H _ I h) fun v s1 h1=>qr h1 fun itv s2 h2=>?_) hs;obtain ⟨it,fp,tn,J,H2,e,I2,T,st2,f2,W,⟨m0,w0⟩,turn⟩:=h2;subst e
 -- what stays true of the iterator's objects through the loop
 have stat:∀{H':Hp},(∀b∈fp,H' b=none)->∀b∈fp,jda X pins H' b:=fun hn b hb=>⟨hn b hb,(f2 b hb).2⟩;refine codeAny_forLoop_any (fun n s'=>∃i σ' H',Inv X pins σ' H' s'/\tn i s'.heap/\(∀b∈fp,H' b=none)/\W i n σ' H') ?_ m0 ⟨0,σ,H2,I2,st2,fun b hb=>(f2 b hb).1,w0⟩;rintro n s3 ⟨i,σ3,H3,I3,st3,fr3,w3⟩;rcases turn i n σ3 H3 w3 with ⟨stop,qn⟩ | ⟨go,N,hN,step⟩
 . refine Kg hp (qr (T.done X rfl rfl rfl hc i pins s3 σ3 H3 X.xe I3 (stat fr3) st3 stop) fun r s4 zz=>?_);obtain ⟨hr,I4⟩:=zz;subst hr;exact kn ⟨σ3,H3,I4,qn⟩
 . refine Kg hp (qr (T.item X rfl rfl rfl hc i pins s3 σ3 H3 X.xe I3 (stat fr3) st3 go) fun r s4 zz=>?_);obtain ⟨u,hr,h4⟩:=zz;subst hr;refine Kg hp (qr h4 fun _ s5 zz=>?_);obtain ⟨x,H5,I5,r5,y5,st5,fr5⟩:=zz;have I5':=I5.pinned (stat fr5) (T.obj _ _ st5);refine Kg hp (qr (hg _ s5 σ3 H5 x u _ I5' r5 (step x H5 y5)) fun _ s6 zz=>?_);obtain ⟨σ6,H6,I6,q6⟩:=zz;refine Kg hp (qr (hb _ s6 σ6 H6 _ I6 q6) fun f s7 q7=>?_);have again:∀{σ7:St} {H7:Hp},Inv X (pins++jdx fp s5.heap) σ7 H7 s7->N σ7 H7->∃m,m<n/\∃i σ' H',Inv X pins σ' H' s7/\tn i s7.heap/\(∀b∈fp,H' b=none)/\W i m σ' H':=fun {σ7 H7} I7 n7=>by obtain ⟨m',hm,w7⟩:=hN σ7 H7 n7;refine ⟨m',hm,i+1,σ7,H7,I7.unpinned,T.keep _ _ _ st5 fun b hb o e=>(I7.pin (b,o) (YM _ (YM _ (Zc hb e)))).1,fun b hb=>?_,w7⟩;obtain ⟨o,e,d⟩:=T.obj _ _ st5 b hb;exact (I7.pin (b,o) (YM _ (YM _ (Zc hb e)))).2.1
   cases f with
   | next=>obtain ⟨σ7,H7,I7,n7⟩:=q7;exact again I7 n7
   | cont=>obtain ⟨σ7,H7,I7,n7⟩:=q7;exact again I7 n7
   | brk=>obtain ⟨σ7,H7,I7,q7⟩:=q7;exact ⟨σ7,H7,I7.unpinned,q7⟩
   | ret v=>obtain ⟨x7,σ7,H7,I7,r7,q7⟩:=q7;exact ⟨x7,σ7,H7,I7.unpinned,r7,q7⟩
end
theorem jdr {c:TT} {tb:TS} {D:Ends} {σ:St} {H:Hp} (Pv:St->Hp->Prop) (μ:St->Hp->Nat) (h0:Pv σ H)
 (hs:∀σ H,Pv σ H->c σ H fun b H1=>if b=true then tb { D with nx:=fun σ' H'=>Pv σ' H'/\μ σ' H'<μ σ H,ct:=fun σ' H'=>Pv σ' H'/\μ σ' H'<μ σ H,bk:=D.nx } σ H1 else D.nx σ H1)
 (mono:∀σ H Q Q',(∀b H1,Q b H1->Q' b H1)->c σ H Q->c σ H Q'):jhD c tb D σ H:=by
 refine ⟨fun m σ H=>m=μ σ H/\Pv σ H,⟨_,rfl,h0⟩,?_⟩;rintro m σ H ⟨rfl,p⟩;refine mono σ H _ _ (fun b H1 q=>?_) (hs σ H p);cases b with
 | true=>exact ⟨_,fun σ' H' ⟨p',l⟩=>⟨_,l,rfl,p'⟩,q⟩
 | false=>exact q
end L2
namespace L2
open PySem PySem.Spec PyProof.Rows
abbrev R2:=V->V->Hp->VK->Prop
def OpR (X:Cx) (f:Value->Value->Sem Value) (r:R2):Prop:=
 ∀(pins:List (Addr×Obj)) (s:Shared) (σ:St) (H:Hp) (x y:V) (v u:Value) (Q:VK),Inv X pins σ H s->RelV x v->RelV y u->r x y H Q->
   wpAny ‹"d"› X.A (f v u) (EP X pins σ Q) X.xe s
def UnR (X:Cx) (f:Value->Sem Value) (r:V->Hp->VK->Prop):Prop:=
 ∀(pins:List (Addr×Obj)) (s:Shared) (σ:St) (H:Hp) (x:V) (v:Value) (Q:VK),Inv X pins σ H s->RelV x v->r x H Q->
   wpAny ‹"d"› X.A (f v) (EP X pins σ Q) X.xe s
def CallR (X:Cx) (f:Value) (r:List V->Hp->VK->Prop):Prop:=
 ∀(pins:List (Addr×Obj)) (s:Shared) (σ:St) (H:Hp) (xs:List V) (us:List Value) (Q:VK),Inv X pins σ H s->Vals xs us->r xs H Q->
   wpAny ‹"d"› X.A (call f us) (EP X pins σ Q) X.xe s
def tOp (r:R2) (ta tb:TE):TE:=fun σ H Q=>ta σ H fun x H1=>tb σ H1 fun y H2=>r x y H2 Q
def tUn (r:V->Hp->VK->Prop) (ta:TE):TE:=fun σ H Q=>ta σ H fun x H1=>r x H1 Q
def rI (C:Int->Int->Prop) (g:Int->Int->V):R2:=fun x y H Q=>∃i j,x=.int i/\y=.int j/\C i j/\Q (g i j) H
def rI0 (g:Int->Int->V):R2:=fun x y H Q=>∃i j,x=.int i/\y=.int j/\Q (g i j) H
def rU (g:Int->V):V->Hp->VK->Prop:=fun x H Q=>∃i,x=.int i/\Q (g i) H
section
variable {X:Cx} {a b c:Expr} {ta tb tc:TE} {pos:Pos}
theorem jqO (ha:PE X a ta) (hb:PE X b tb) {pins:List (Addr×Obj)} {s:Shared} {σ:St} {H:Hp} {R:V->V->Hp->Prop} (I:Inv X pins σ H s)
 (h:ta σ H fun x H1=>tb σ H1 fun y H2=>R x y H2) {Q:Value->Shared->Prop} {f:Value->Value->Sem Value}
 (hf:∀v u s2 x y H2,Inv X pins σ H2 s2->RelV x v->RelV y u->R x y H2->wpAny ‹"d"› X.A (f v u) Q X.xe s2) :
 wpAny ‹"d"› X.A (eval a X.env) ‹"bd"› X.xe s:=by
 refine qr ‹"2"› fun v s1 zz=>?_;obtain ⟨x,H1,I1,r1,q1⟩:=zz;refine qr (hb pins s1 σ H1 _ I1 q1) fun u s2 zz=>?_;obtain ⟨y,H2,I2,r2,q2⟩:=zz;exact hf v u s2 x y H2 I2 r1 r2 q2
theorem jkp {op:Operator} {r:R2} (ho:OpR X (binaryOp op) r) (ha:PE X a ta) (hb:PE X b tb):PE X (.BinOp a op b pos) (tOp r ta tb):=by intro pins s σ H Q I h;exact wpAny_BinOp (jqO ha hb I h fun v u s2 x y H2 I2 rx ry q=>ho pins s2 σ H2 x y v u Q I2 rx ry q)
theorem jrw {op:UnaryOp} {r:V->Hp->VK->Prop} (ho:UnR X (unaryOp op) r) (ha:PE X a ta):PE X (.UnaryOp op a pos) (tUn r ta):=by intro pins s σ H Q I h;exact UnaryOp_ (qr ‹"2"› fun v s1 ⟨x,H1,I1,r1,q1⟩=>ho pins s1 σ H1 x v Q I1 r1 q1)
theorem opI {f:Value->Value->Sem Value} {C:Int->Int->Prop} {g:Int->Int->Int}
 (rule:∀(i j:Int) (t u:Tok) (s:Shared) (Q:Value->Shared->Prop) (E:Value->Shared->Prop),C i j->Q (.int (g i j) s.toks) { s with toks:=s.toks+1 }->wpAny ‹"d"› X.A (f (.int i t) (.int j u)) Q E s) :
 OpR X f (rI C fun i j=>.int (g i j)):=by
 intro pins s σ H x y v u Q I rx ry h;obtain ⟨i,j,rfl,rfl,hc,q⟩:=h;obtain ⟨t,rfl⟩:=rx;obtain ⟨t',rfl⟩:=ry;exact rule i j t t' s _ _ hc ⟨.int (g i j),H,I.tok _,⟨_,rfl⟩,q⟩
theorem jrf {f:Value->Value->Sem Value} {g:Int->Int->Int}
 (rule:∀(i j:Int) (t u:Tok) (s:Shared) (Q:Value->Shared->Prop) (E:Value->Shared->Prop),Q (.int (g i j) s.toks) { s with toks:=s.toks+1 }->wpAny ‹"d"› X.A (f (.int i t) (.int j u)) Q E s) :
 OpR X f (rI0 fun i j=>.int (g i j)):=by
 intro pins s σ H x y v u Q I rx ry h;obtain ⟨i,j,rfl,rfl,q⟩:=h;obtain ⟨t,rfl⟩:=rx;obtain ⟨t',rfl⟩:=ry;exact rule i j t t' s _ _ ⟨.int (g i j),H,I.tok _,⟨_,rfl⟩,q⟩
theorem jmQ {f:Value->Value->Sem Value} {g:Int->Int->Bool}
 (rule:∀(i j:Int) (t u:Tok) (s:Shared) (Q:Value->Shared->Prop) (E:Value->Shared->Prop),Q (.bool (g i j)) s->wpAny ‹"d"› X.A (f (.int i t) (.int j u)) Q E s) :
 OpR X f (rI0 fun i j=>.bl (g i j)):=by
 intro pins s σ H x y v u Q I rx ry h;obtain ⟨i,j,rfl,rfl,q⟩:=h;obtain ⟨t,rfl⟩:=rx;obtain ⟨t',rfl⟩:=ry;exact rule i j t t' s _ _ ⟨.bl (g i j),H,I,rfl,q⟩
def jgp (i j:Int):Prop:=0<=j/\j<=1000000/\i.natAbs<2 ^ 64
def CMul (i j:Int):Prop:=(-(2 ^ 64)<i/\i<2 ^ 64)\/(-(2 ^ 64)<j/\j<2 ^ 64)
theorem CMul.ok {i j:Int} (h:CMul i j):IntMulOk i j:=by
 rcases h with ⟨h1,h2⟩ | ⟨h1,h2⟩
 . exact .of_left (intBits_le_64 h1 h2)
 . exact .of_right (intBits_le_64 h1 h2)
theorem jpk:OpR X (binaryOp .Add) (rI0 fun i j=>.int (i+j)):=jrf fun _ _ _ _ _ _ _ q=>add_int q
theorem jp0:OpR X (binaryOp .Sub) (rI0 fun i j=>.int (i-j)):=jrf fun _ _ _ _ _ _ _ q=>sub_int q
theorem jpL:OpR X (binaryOp .Mod) (rI (fun _ j=>0<j) fun i j=>.int (i%j)):=opI fun i j _ _ _ _ _ hc q=>by have h1:(0:Int)<j:=hc;exact mod_int' (by omega) (by rw [Int.fmod_eq_emod_of_nonneg i (by omega)];exact q)
theorem jqq:OpR X (binaryOp .Pow) (rI jgp fun i j=>.int (i ^ j.toNat)):=opI fun _ _ _ _ _ _ _ hc q=>pow_int_small hc.1 hc.2.1 hc.2.2 q
theorem unI {f:Value->Sem Value} {g:Int->Int}
 (rule:∀(i:Int) (t:Tok) (s:Shared) (Q:Value->Shared->Prop) (E:Value->Shared->Prop),Q (.int (g i) s.toks) { s with toks:=s.toks+1 }->wpAny ‹"d"› X.A (f (.int i t)) Q E s) :
 UnR X f (rU fun i=>.int (g i)):=by
 intro pins s σ H x v Q I rx h;obtain ⟨i,rfl,q⟩:=h;obtain ⟨t,rfl⟩:=rx;exact rule i t s _ _ ⟨.int (g i),H,I.tok _,⟨_,rfl⟩,q⟩
theorem jpu:UnR X (unaryOp .USub) (rU fun i=>.int (-i)):=unI fun _ _ _ _ _ q=>neg_int q
end
def jqH:V->V->Bool
 | .non,.non=>true | .non,.int _=>true | .int _,.non=>true | .non,.bl _=>true | .bl _,.non=>true | .non,.str _=>true | .str _,.non=>true
 | .int _,.int _=>true | .bl _,.bl _=>true | .str _,.str _=>true | .byt _,.byt _=>true
 | .int _,.str _=>true | .str _,.int _=>true | .bl _,.str _=>true | .str _,.bl _=>true
 | _,_=>false
def rEq:R2:=fun x y H Q=>jqH x y=true/\Q (.bl (decide (x=y))) H
def rNe:R2:=fun x y H Q=>jqH x y=true/\Q (.bl (!decide (x=y))) H
theorem jib {i j:Int}:decide (V.int i=V.int j)=(i == j):=by rw [kA];simp
theorem jlH {i j:Bool}:decide (V.bl i=V.bl j)=(i == j):=by rw [kA];simp
theorem jiw {i j:Str}:decide (V.str i=V.str j)=(i == j):=by rw [kA];simp
theorem jif {i j:Array UInt8}:decide (V.byt i=V.byt j)=(i.toList == j.toList):=by rw [kA];cases i;cases j;simp
section
variable {X:Cx} {a b c:Expr} {ta tb tc:TE} {pos:Pos}
theorem qe {pins:List (Addr×Obj)} {σ:St} {H:Hp} {s:Shared} {Q:VK} {k k':Bool} (I:Inv X pins σ H s) (q:Q (.bl k) H) (e:k=k'):EP X pins σ Q (.bool k') s:=by subst e;exact ⟨.bl k,H,I,rfl,q⟩
theorem jsl:OpR X (compareOp .Eq) rEq:=by
 intro pins s σ H x y v u Q I rx ry h;obtain ⟨hs,q⟩:=h;cases x with
 | non=>
   cases rx;cases y with
   | non=>cases ry;exact PySem.EqNone.eq_none_none ‹"G"›
   | bl j=>cases ry;exact PySem.EqNone.eq_none_bool ‹"G"›
   | int j=>obtain ⟨t',rfl⟩:=ry;exact PySem.EqNone.eq_none_int ‹"G"›
   | str j=>obtain ⟨t',rfl⟩:=ry;exact PySem.EqNone.eq_none_str ‹"G"›
   | _=>exact absurd (show false=true from hs) Yi
 | bl i=>
   cases rx;cases y with
   | non=>cases ry;exact PySem.EqNone.eq_bool_none ‹"G"›
   | bl j=>cases ry;exact eq_bool (qe I q jlH)
   | str j=>obtain ⟨t',rfl⟩:=ry;exact PySem.EqMixed.eq_bool_str ‹"G"›
   | _=>exact absurd (show false=true from hs) Yi
 | int i=>
   obtain ⟨t,rfl⟩:=rx;cases y with
   | non=>cases ry;exact PySem.EqNone.eq_int_none ‹"G"›
   | int j=>obtain ⟨t',rfl⟩:=ry;exact eq_int (qe I q jib)
   | str j=>obtain ⟨t',rfl⟩:=ry;exact PySem.EqMixed.eq_int_str ‹"G"›
   | _=>exact absurd (show false=true from hs) Yi
 | str i=>
   obtain ⟨t,rfl⟩:=rx;cases y with
   | non=>cases ry;exact PySem.EqNone.eq_str_none ‹"G"›
   | bl j=>cases ry;exact PySem.EqMixed.eq_str_bool ‹"G"›
   | int j=>obtain ⟨t',rfl⟩:=ry;exact PySem.EqMixed.eq_str_int ‹"G"›
   | str j=>obtain ⟨t',rfl⟩:=ry;exact eq_str (qe I q jiw)
   | _=>exact absurd (show false=true from hs) Yi
 | byt i=>
   obtain ⟨t,rfl⟩:=rx;cases y with
   | byt j=>obtain ⟨t',rfl⟩:=ry;exact PySem.W.eq_bytes (qe I q jif)
   | _=>exact absurd (show false=true from hs) Yi
 | _=>cases y <;> exact absurd (show false=true from hs) Yi
theorem jst:OpR X (compareOp .NotEq) rNe:=by
 intro pins s σ H x y v u Q I rx ry h;obtain ⟨hs,q⟩:=h;cases x with
 | non=>
   cases rx;cases y with
   | non=>cases ry;exact PySem.EqNone.ne_none_none ‹"G"›
   | bl j=>cases ry;exact PySem.EqNone.ne_none_bool ‹"G"›
   | int j=>obtain ⟨t',rfl⟩:=ry;exact PySem.EqNone.ne_none_int ‹"G"›
   | str j=>obtain ⟨t',rfl⟩:=ry;exact PySem.EqNone.ne_none_str ‹"G"›
   | _=>exact absurd (show false=true from hs) Yi
 | bl i=>
   cases rx;cases y with
   | non=>cases ry;exact PySem.EqNone.ne_bool_none ‹"G"›
   | bl j=>cases ry;exact ne_bool (qe I q (congrArg not jlH))
   | str j=>obtain ⟨t',rfl⟩:=ry;exact PySem.EqMixed.ne_bool_str ‹"G"›
   | _=>exact absurd (show false=true from hs) Yi
 | int i=>
   obtain ⟨t,rfl⟩:=rx;cases y with
   | non=>cases ry;exact PySem.EqNone.ne_int_none ‹"G"›
   | int j=>obtain ⟨t',rfl⟩:=ry;exact ne_int (qe I q (congrArg not jib))
   | str j=>obtain ⟨t',rfl⟩:=ry;exact PySem.EqMixed.ne_int_str ‹"G"›
   | _=>exact absurd (show false=true from hs) Yi
 | str i=>
   obtain ⟨t,rfl⟩:=rx;cases y with
   | non=>cases ry;exact PySem.EqNone.ne_str_none ‹"G"›
   | bl j=>cases ry;exact PySem.EqMixed.ne_str_bool ‹"G"›
   | int j=>obtain ⟨t',rfl⟩:=ry;exact PySem.EqMixed.ne_str_int ‹"G"›
   | str j=>obtain ⟨t',rfl⟩:=ry;exact ne_str (qe I q (congrArg not jiw))
   | _=>exact absurd (show false=true from hs) Yi
 | byt i=>
   obtain ⟨t,rfl⟩:=rx;cases y with
   | byt j=>obtain ⟨t',rfl⟩:=ry;exact PySem.W.ne_bytes (qe I q (congrArg not jif))
   | _=>exact absurd (show false=true from hs) Yi
 | _=>cases y <;> exact absurd (show false=true from hs) Yi
theorem jrh:OpR X (compareOp .Lt) (rI0 fun i j=>.bl (decide (i<j))):=jmQ fun _ _ _ _ _ _ _ q=>lt_int q
theorem jrp:OpR X (compareOp .LtE) (rI0 fun i j=>.bl (decide (i<=j))):=jmQ fun _ _ _ _ _ _ _ q=>le_int q
theorem jsa:OpR X (compareOp .Gt) (rI0 fun i j=>.bl (decide (j<i))):=jmQ fun _ _ _ _ _ _ _ q=>gt_int q
theorem jsn:OpR X (compareOp .GtE) (rI0 fun i j=>.bl (decide (j<=i))):=jmQ fun _ _ _ _ _ _ _ q=>ge_int q
theorem nomark (b:Expr) {op:CmpOp} (h:autoParam (op≠.In) QA.a1._auto_1) (h2:autoParam (op≠.NotIn) QA.a1._auto_1):behindInMarks op b=false:=by
 have e1:(op == CmpOp.In)=false:=by cases op <;> first | rfl | exact absurd rfl h
 have e2:(op == CmpOp.NotIn)=false:=by cases op <;> first | rfl | exact absurd rfl h2
 cases b <;> simp [behindInMarks,e1,e2]
theorem jmy {op:CmpOp} {r:R2} (ho:OpR X (compareOp op) r) (ha:PE X a ta) (hb:PE X b tb) (hm:behindInMarks op b=false):PE X (.Compare a [op] [b] pos) (tOp r ta tb):=by intro pins s σ H Q I h;exact wpAny_Compare1 (jqO ha hb I h fun v u s2 x y H2 I2 rx ry q=>ho pins s2 σ H2 x y v u Q I2 rx ry q) hm
def jou (t:TE):TT:=fun σ H Q=>t σ H fun x H'=>∃k,x=.bl k/\Q k H'
theorem jm4 {op:CmpOp} {r:R2} (ho:OpR X (compareOp op) r) (ha:PE X a ta) (hb:PE X b tb) (hm:behindInMarks op b=false):PT X (.Compare a [op] [b] pos) (jou (tOp r ta tb)):=by
 intro pins s σ H Q I h;refine wpAny_isTrue_Compare1 (qr ‹"2"› fun v s1 ⟨x,H1,I1,r1,q1⟩=>qr (hb pins s1 σ H1 _ I1 q1) fun u s2 ⟨y,H2,I2,r2,q2⟩=>qr (ho pins s2 σ H2 x y v u _ I2 r1 r2 q2) fun c s3 ⟨z,H3,I3,r3,k,e,q3⟩=>?_) hm
 subst e;cases r3;exact yH ⟨H3,I3,q3⟩
def jkV (r r':R2) (ta tb tc:TE):TE:=fun σ H Q=>ta σ H fun x H1=>tb σ H1 fun y H2=>r x y H2 fun z H3=>∃k,z=.bl k /\
 (if k=true then tc σ H3 fun w' H4=>r' y w' H4 Q else Q (.bl false) H3)
theorem jkn {op op':CmpOp} {r r':R2} (ho:OpR X (compareOp op) r) (ho':OpR X (compareOp op') r') (ha:PE X a ta) (hb:PE X b tb) (hc:PE X c tc)
 (hm:autoParam (lastMarks [op,op'] [b,c]=false) QA.a6._auto_1):PE X (.Compare a [op,op'] [b,c] pos) (jkV r r' ta tb tc):=by
 intro pins s σ H Q I h;refine Compare_chain (qr ‹"2"› fun v s1 ⟨x,H1,I1,r1,q1⟩=>chain_link (qr (hb pins s1 σ H1 _ I1 q1) fun u s2 ⟨y,H2,I2,r2,q2⟩=>qr (ho pins s2 σ H2 x y v u _ I2 r1 r2 q2) fun d s3 ⟨z,H3,I3,r3,k,e,q3⟩=>?_)) hm
 subst e;cases r3;refine yH ?_;cases k with
 | false=>exact ite_ff ⟨.bl false,H3,I3,rfl,q3⟩
 | true=>exact ite_tt (chain_last (qr (hc pins s3 σ H3 _ I3 q3) fun w' s4 ⟨z',H4,I4,r4,q4⟩=>ho' pins s4 σ H4 y z' u w' Q I4 r2 r4 q4))
theorem jat:(sizeLine:Nat)<2 ^ 63:=by rw [KF];decide
theorem jbM {x:V} {us:List Value} (r:Vals [x] us):∃u,us=[u]/\RelV x u:=by
 cases r with
 | cons r1 r2=>cases r2;exact ⟨_,rfl,r1⟩
theorem jlN {x y:V} {us:List Value} (r:Vals [x,y] us):∃u w',us=[u,w']/\RelV x u/\RelV y w':=by
 cases r with
 | cons r1 r2=>
   cases r2 with
   | cons r3 r4=>cases r4;exact ⟨_,_,rfl,r1,r3⟩
theorem jjq (hc:X.calm=true):CallR X (.builtin "max") (fun xs H Q=>∃i j,xs=[.int i,.int j] ∧ Q (.int (if j>i then j else i)) H):=by
 intro pins s σ H xs us Q I r h;obtain ⟨i,j,rfl,q⟩:=h;obtain ⟨u,w',rfl,⟨t,rfl⟩,⟨t',rfl⟩⟩:=jlN r;refine max_two_ints (I.ok.hd hc) fun h' tk k=>⟨_,H,I.kept k,?_,q⟩;by_cases hj:j>i
 . rw [if_pos hj,if_pos hj];exact ⟨_,rfl⟩
 . rw [if_neg hj,if_neg hj];exact ⟨_,rfl⟩
theorem jjB (hc:X.calm=true):CallR X (.builtin "min") (fun xs H Q=>∃i j,xs=[.int i,.int j] ∧ Q (.int (if j<i then j else i)) H):=by
 intro pins s σ H xs us Q I r h;obtain ⟨i,j,rfl,q⟩:=h;obtain ⟨u,w',rfl,⟨t,rfl⟩,⟨t',rfl⟩⟩:=jlN r;refine min_two_ints (I.ok.hd hc) fun h' tk k=>⟨_,H,I.kept k,?_,q⟩;by_cases hj:j<i
 . rw [if_pos hj,if_pos hj];exact ⟨_,rfl⟩
 . rw [if_neg hj,if_neg hj];exact ⟨_,rfl⟩
theorem jjd:CallR X (.type "int") (fun xs H Q=>(∃i,xs=[.int i] ∧ Q (.int i) H) ∨ ∃k,xs=[.bl k] ∧ Q (.int (if k then 1 else 0)) H):=by
 intro pins s σ H xs us Q I r h;rcases h with ⟨i,rfl,q⟩ | ⟨k,rfl,q⟩
 . obtain ⟨u,rfl,t,rfl⟩:=jbM r;exact call_int_int ⟨.int i,H,I,⟨_,rfl⟩,q⟩
 . obtain ⟨u,rfl,r1⟩:=jbM r;cases r1;exact call_int_bool ⟨.int (if k then 1 else 0),H,I.tok _,⟨_,rfl⟩,q⟩
end
end L2
namespace L2
open PySem PySem.Spec PyProof.Rows
structure ObjM (h:Heap) (x dx C:Addr) (mA:Str->Option Value):Prop where
 obj:h.get? x=some (PySem.W.instObj C dx)
 ns:h.Ns1 dx mA
 ne:dx≠x
theorem jjK {h:Heap} {dx:Addr} {mA:Str->Option Value} (n:h.Ns1 dx mA):∃od,h.get? dx=some od/\∀name,PySem.W.lookIn name od=some (mA name):=by
 obtain ⟨o,es,ep,ho,hd,hk,_,hm⟩:=n;refine ⟨o,ho,fun name=>?_⟩;have e:=hm name;unfold nsFind findBy at e;rw [<-Array.find?_toList] at e;unfold PySem.W.lookIn;rw [hd];dsimp only;split
 . rename_i y q;rw [q] at e;exact congrArg some e
 . rename_i q;rw [q] at e;have a:es.toList.any (·.refKey)=false:=by rw [List.any_eq_false];intro y hy;obtain ⟨z,t,hkey⟩:=hk y (Array.mem_toList_iff.mp hy);simp [DictEntry.refKey,hkey]
   have a':¬es.toList.any (·.refKey)=true:=by rw [a];exact Yi
   rw [if_neg a'];exact congrArg some e
theorem ObjM.look {h:Heap} {x dx C:Addr} {mA:Str->Option Value} (I:ObjM h x dx C mA):∃od,PySem.W.InstAt h x (PySem.W.instObj C dx) C (some od)/\∀name,PySem.W.lookIn name od=some (mA name):=
 let ⟨od,ho,hl⟩:=jjK I.ns
 ⟨od,⟨I.obj,rfl,rfl,ho⟩,hl⟩
section
variable {prog:Program} {w:World} {A:Around} {E:Value->Shared->Prop} {s:Shared} {K:PySem.W.Frag} {x dx C f:Addr} {mA:Str->Option Value} {name:Str} {v:Value}
end
theorem RelO.some_of {v:V} {o:Option Value} (r:RelO (some v) o):∃u,o=some u/\RelV v u:=by
 cases o with
 | none=>exact (show False from r).elim
 | some u=>exact ⟨u,rfl,r⟩
section
variable {P:Program} {w:World} {H H':Hp} {h h':Heap} {a C dx:Addr} {fs fs':List (Str×V)}
theorem jmI (hok:HOk P w H h) (e:H a=some (.ins C dx fs)):∃mA,ObjM h a dx C mA/\(∀f,RelO (fs.lookup f) (mA f))/\PySem.Within mA (fs.map (·.1))/\fs.length<=1000/\H dx=some (.own a):=by obtain ⟨d,z,ne,ob,mA,n,r,q⟩:=(show ObjOk P w H h a (.ins C dx fs) from hok a _ e);exact ⟨mA,⟨ob,n,ne⟩,r,q,z,d⟩
end
structure Cls (K:PySem.W.Frag) (C:Addr):Prop where
 pg:PySem.W.plainGet K C Str.empty=true
 hd:PySem.W.hasDictIn K C=true
 po:PySem.W.plainOver K C=true
 sa:PySem.W.findIn K (.ref C) "__setattr__"=some (some (.builtin "object.__setattr__"))
theorem Cls.get {K:PySem.W.Frag} {C:Addr} (c:Cls K C) (f:Str):PySem.W.plainGet K C f=true:=c.pg
section
variable {X:Cx} {pins:List (Addr×Obj)} {σ:St} {H:Hp} {s:Shared} {a C dx:Addr} {fs:List (Str×V)} {f:Str} {v:V} {A:Around} {E:Value->Shared->Prop}
end
section
variable {X:Cx} {o e value:Expr} {f:Str} {pos pos' tpos:Pos} {ta tv:TE}
end
section
variable {X:Cx} {pins:List (Addr×Obj)} {σ:St} {H:Hp} {s:Shared} {A:Around} {E:Value->Shared->Prop} {Q:Value->Shared->Prop} {c:Value} {b:Bool}
inductive TyOf (K:PySem.W.Frag) (H:Hp):V->Value->Prop where
 | non:TyOf K H .non (.type "NoneType")
 | bl (x:Bool):TyOf K H (.bl x) (.type "bool")
 | int (i:Int):TyOf K H (.int i) (.type "int")
 | str (x:Str):TyOf K H (.str x) (.type "str")
 | flt (x:UInt64):TyOf K H (.flt x) (.type "float")
 | lst {a:Addr} {xs:List V} (e:H a=some (.lst xs)):TyOf K H (.ref a) (.type "list")
 | frz {a:Addr} {o:Obj} {xs:List V} (e:H a=some (.frz o (.lst xs))):TyOf K H (.ref a) (.type "list")
 | tup {a:Addr} {xs:List V} (e:H a=some (.tup xs)):TyOf K H (.ref a) (.type "tuple")
 | dK {a:Addr} {kvs:List (zw×V)} (e:H a=some (.dK kvs)):TyOf K H (.ref a) (.type "dict")
 | dT {a:Addr} {kvs:List (List zw×V)} (e:H a=some (.dT kvs)):TyOf K H (.ref a) (.type "dict")
 | ins {a C dx:Addr} {fs:List (Str×V)} (e:H a=some (.ins C dx fs)) (cl:Cls K C) (ha:PySem.W.findIn K (.ref C) "__class__"=some (some (.builtin "object.__class__")))
  (hn:PySem.W.specialIn K (.builtin "object.__class__") "__get__"=some (some (.builtin "getset_descriptor.__get__"))) (htk:PySem.W.takesIn K (.builtin "object.__class__")=some true)
  (hm:PySem.W.mroIn K C (.type "object")=some true):TyOf K H (.ref a) (.ref C)
theorem jkg {x:V} {u t:Value} (I:Inv X pins σ H s) (rx:RelV x u) (ty:TyOf X.K H x t) (e:PySem.W.kitOne X.K t c=some b) (h:∀tk,Q (.bool b) { s with toks:=tk }) :
 wpAny ‹"d"› A (call (.builtin "isinstance") [u,c]) Q E s:=by
 cases ty with
 | non=>cases (show u=Value.none from rx);exact yr PySem.W.kitx_none I.kIn True.intro e (fun z=>nomatch z) h
 | bl y=>cases (show u=Value.bool y from rx);exact yr PySem.W.kitx_bool I.kIn True.intro e (fun z=>nomatch z) h
 | int i=>obtain ⟨t,q⟩:=(show ∃t,u=Value.int i t from rx);cases q;exact yr PySem.W.kitx_int I.kIn True.intro e (fun z=>nomatch z) h
 | str y=>obtain ⟨t,q⟩:=(show ∃t,u=Value.str y t from rx);cases q;exact yr PySem.W.kitx_str I.kIn True.intro e (fun z=>nomatch z) h
 | flt y=>obtain ⟨t,q⟩:=(show ∃t,u=Value.float y t from rx);cases q;exact yr PySem.W.kitx_float I.kIn True.intro e (fun z=>nomatch z) h
 | @lst a xs ea=>cases (show u=Value.ref a from rx);obtain ⟨_,_,n,_,h1⟩:=(show ObjOk X.prog X.w H s.heap a (.lst xs) from I.hok a _ ea);exact yr PySem.W.kitx_list I.kIn ⟨_,h1,rfl⟩ e (fun z=>nomatch z) h
 | @frz a ob xs ea=>cases (show u=Value.ref a from rx);obtain ⟨_,_,_,n,_,h1⟩:=(show ObjOk X.prog X.w H s.heap a (.frz ob (.lst xs)) from I.hok a _ ea);exact yr PySem.W.kitx_list I.kIn ⟨_,h1,rfl⟩ e (fun z=>nomatch z) h
 | @tup a xs ea=>cases (show u=Value.ref a from rx);obtain ⟨_,_,_,p⟩:=(show ObjOk X.prog X.w H s.heap a (.tup xs) from I.hok a _ ea);obtain ⟨o,h1,h2,_⟩:=p;exact yr PySem.W.kitx_tuple I.kIn ⟨o,h1,h2⟩ e (fun z=>nomatch z) h
 | @dK a kvs ea=>cases (show u=Value.ref a from rx);obtain ⟨_,_,vs,_,p⟩:=(show ObjOk X.prog X.w H s.heap a (.dK kvs) from I.hok a _ ea);obtain ⟨o,es,ep,h1,h2,_⟩:=p;exact yr PySem.W.kitx_dict I.kIn ⟨o,h1,h2.1⟩ e (fun z=>nomatch z) h
 | @dT a kvs ea=>cases (show u=Value.ref a from rx);obtain ⟨_,_,xs,_,o,es,ep,h1,h2,_⟩:=(show ObjOk X.prog X.w H s.heap a (.dT kvs) from I.hok a _ ea);exact yr PySem.W.kitx_dict I.kIn ⟨o,h1,h2.1⟩ e (fun z=>nomatch z) h
 | @ins a C dx fs ea cl ha hn htk hm=>cases (show u=Value.ref a from rx);obtain ⟨mA,O,_⟩:=jmI I.hok ea;obtain ⟨od,J,_⟩:=O.look;exact yr (PySem.W.kitx_own (cl.get _) cl.hd ha hn htk hm) I.kIn J e (fun z=>nomatch z) h
end
end L2
namespace L2
open PySem PySem.Spec PyProof.Rows
structure Room (k:Nat) (A:Around):Prop where
 hd:A.handled=none
 dp:A.depth+3*k+5<recursionLimit
 un:A.units+16*k+200<cLine
theorem Room.mono {j k:Nat} {A:Around} (r:Room k A) (h:j<=k):Room j A:=⟨r.hd,by have:=r.dp;omega,by have:=r.un;omega⟩
theorem Room.deeper {k:Nat} {A:Around} (r:Room (k+1) A) (env:Env):Room k (A.deeper env):=⟨r.hd,by have:=r.dp;show A.depth+1+3*k+5<_;omega,by have:=r.un;show A.units+3+16*k+200<_;omega⟩
theorem Room.depth {k:Nat} {A:Around} (r:Room k A):A.depth<recursionLimit:=by have:=r.dp;omega
theorem Room.units {k:Nat} {A:Around} (r:Room k A):A.units+64<cLine:=by have:=r.un;omega
def jjF:TA:=fun _ H Q=>Q [] H
def jcM (ta:TE) (tr:TA):TA:=fun σ H Q=>ta σ H fun x H1=>tr σ H1 fun xs H2=>Q (x::xs) H2
section
variable {X:Cx} {e:Expr} {es:List Expr} {te:TE} {t:TA} {pos:Pos}
theorem jbp:PA X [] jjF:=fun _ _ _ _ H Q I h=>yV ⟨[],H,I,.nil,h⟩
theorem Q6 (ha:PE X e te) (hr:PA X es t) (hs:autoParam ‹"x"› QA.a4._auto_1):PA X (e::es) (jcM te t):=by intro pos pins s σ H Q I h;rw [hs];show wpAny _ _ (spliced ((false,eval e X.env)::backTo pos (starEach es X.env))) _ _ s;refine yE (qr ‹"2"› fun u s1 zz=>?_);obtain ⟨x,H1,I1,r1,q1⟩:=zz;exact qr (hr pos pins s1 σ H1 _ I1 q1) fun us s2 ⟨xs,H2,I2,r2,q2⟩=>⟨x::xs,H2,I2,.cons r1 r2,q2⟩
def jq7 (t:TA):TE:=fun σ H Q=>t σ H fun xs H1=>xs.length<=sizeLine/\∀p,H1 p=none->Q (.ref p) (upd H1 p (.tup xs))
def jr5 (t:TA):TE:=fun σ H Q=>t σ H fun xs H1=>xs.length<=sizeLine/\∀p,H1 p=none->Q (.ref p) (upd H1 p (.lst xs))
theorem jpA {x1} (h:PA X es t):PE X (.Tuple es x1 pos) (jq7 t):=by intro pins s σ H Q I hq;refine wpAny_Tuple_spliced ‹"aJ"›;have hf:H1 s1.heap.objs.size=none:=I1.hok.fresh (Yq _);refine ⟨.ref s1.heap.objs.size,upd H1 s1.heap.objs.size (.tup xs),I1.laid (t':=s1.toks) (fun b u e=>Yh _ e) (Yq _) ?_,rfl,q _ hf⟩;exact ⟨z,us,r,⟨_,Yy _ rfl,rfl,_,rfl⟩⟩
theorem jpD (h:PA X es t):PE X (.List es pos) (jr5 t):=by intro pins s σ H Q I hq;refine wpAny_List_spliced ‹"aJ"›;have hf:H1 s1.heap.objs.size=none:=I1.hok.fresh (Yq _);refine ⟨.ref s1.heap.objs.size,upd H1 s1.heap.objs.size (.lst xs),I1.laid (t':=s1.toks) (fun b u e=>Yh _ e) (Yq _) ?_,rfl,q _ hf⟩;exact ⟨z,us,0,r,Yy _ rfl⟩
end
abbrev Sp:=List V->Hp->VK->XK->Prop
abbrev CXT:=List Env->Hp->Shared->XK->Value->Shared->Prop
structure Env0 (P:Program) (w:World) (K:PySem.W.Frag) (mg:Str->Option Value) (base:Heap) (A:Around) (outer:List Env) (s:Shared) (H:Hp):Prop where
 frames:A.frames=some outer
 mod:Mod K mg base
 bs:∀b o,base.get? b=some o->s.heap.get? b=some o/\H b=none
 bsz:base.objs.size<=s.heap.objs.size
 funs:s.heap.FunFrames base outer
 frf:∀b∈frs outer,H b=none
 hok:HOk P w H s.heap
 bare:AllBare s.gens
def CE (outer:List Env) (P:Program) (w:World) (H:Hp) (s:Shared) (Q:VK) (u:Value) (s':Shared):Prop:=∃v H',s'.os=s.os/\AllBare s'.gens/\Un (frs outer) [] H H' s.heap s'.heap/\HOk P w H' s'.heap/\RelV v u/\Q v H'
def CR (CX:CXT) (outer:List Env) (P:Program) (w:World) (H:Hp) (s:Shared) (Q:VK) (E:XK) (r:Result) (s':Shared):Prop:=
 match r with
 | .ok (.ret u)=>CE outer P w H s Q u s'
 | .ok _=>False
 | .error e=>CX outer H s E e s'
structure FnOk (P:Program) (w:World) (K:PySem.W.Frag) (mg:Str->Option Value) (base:Heap) (CX:CXT) (k:Nat) (f:Addr) (fd:FuncData) (ps:List Str) (sp:Sp):Prop where
 len:∀vs H Q E,sp vs H Q E->vs.length=ps.length
 run:∀(A:Around) (outer:List Env) (s:Shared) (H:Hp) (args:Args) (us:List Value) (vs:List V) (Q:VK) (E:XK),Room k A->Env0 P w K mg base A outer s H->BindsTo s fd args (ps.zip us)->Vals vs us->sp vs H Q E->
  codeAny (model P w) A (.call (.ref f) args) (CR CX outer P w H s Q E) s
theorem FnOk.mono {P:Program} {w:World} {K:PySem.W.Frag} {mg:Str->Option Value} {base:Heap} {CX:CXT} {j k:Nat} {f:Addr} {fd:FuncData} {ps:List Str} {sp:Sp} (F:FnOk P w K mg base CX j f fd ps sp) (h:j<=k) :
 FnOk P w K mg base CX k f fd ps sp:=⟨F.len,fun A outer s H args us vs Q E hr=>F.run A outer s H args us vs Q E (hr.mono h)⟩
theorem FnOk.imp {P:Program} {w:World} {K:PySem.W.Frag} {mg:Str->Option Value} {base:Heap} {CX:CXT} {k:Nat} {f:Addr} {fd:FuncData} {ps:List Str} {sp sp':Sp} (F:FnOk P w K mg base CX k f fd ps sp)
 (h:∀vs H Q E,sp' vs H Q E->sp vs H Q E):FnOk P w K mg base CX k f fd ps sp':=
 ⟨fun vs H Q E q=>F.len vs H Q E (h _ _ _ _ q),fun A outer s H args us vs Q E hr he hb hv hs=>F.run A outer s H args us vs Q E hr he hb hv (h _ _ _ _ hs)⟩
section
variable {X:Cx} {pins:List (Addr×Obj)} {σ:St} {H:Hp} {s s':Shared}
theorem Inv.env0 (I:Inv X pins σ H s):Env0 X.prog X.w X.K X.mg X.base X.A X.stack s H:=⟨I.ok.frames,I.ok.mod,I.bs,YW I.ok.bsz I.sz,I.stack,I.stkFree,I.hok,I.bare⟩
theorem Inv.after {Q:VK} {u:Value} (I:Inv X pins σ H s) (h:CE X.stack X.prog X.w H s Q u s'):EP X pins σ Q u s':=by obtain ⟨v,H',os,bare,un,hok,r,q⟩:=h;obtain ⟨hh,g,d,t,os'⟩:=s';obtain rfl:os'=s.os:=os;exact ⟨v,H',I.call (h':=hh) (g':=g) (d':=d) (t':=t) (ch:=[]) un hok bare (fun b z=>absurd z (by simp)),r,q⟩
end
def jlm (sp:Sp) (dvs:List V) (E:XK) (t:TA):TE:=fun σ H Q=>t σ H fun vs H1=>sp (vs++dvs) H1 Q E
def Binds (K:PySem.W.Frag) (fd:FuncData) (ps:List Str) (ds:List Value):Prop:=∀(s:Shared) (us:List Value),K.In s.heap->(us++ds).length=ps.length->BindsTo s fd ⟨us,[]⟩ (ps.zip (us++ds))
theorem Binds.all {K:PySem.W.Frag} {fd:FuncData} {ps:List Str} (h:∀us:List Value,us.length=ps.length->bindArgs fd ⟨us,[]⟩=pure (ps.zip us)):Binds K fd ps []:=fun s us _ hl=>by rw [yM] at hl ⊢;exact .of_eq (h us hl)
def jhC (CX:CXT) (X:Cx) (E:XK):Prop:=∀(pins:List (Addr×Obj)) (σ:St) (H:Hp) (s:Shared) (e:Value) (s':Shared),Inv X pins σ H s->CX X.stack H s E e s'->X.xe e s'
section
variable {X:Cx} {CX:CXT} {k:Nat} {f C:Addr} {fd:FuncData} {ps:List Str} {sp:Sp} {dvs:List V} {ds:List Value} {E:XK} {x m:Str} {p pos apos:Pos} {e o:Expr} {es:List Expr} {ta:TE} {t:TA}
theorem jqu {pins:List (Addr×Obj)} {σ:St} {H:Hp} {s:Shared} {Q:VK} {us:List Value} {vs:List V} (F:FnOk X.prog X.w X.K X.mg X.base CX k f fd ps sp) (hr:Room k X.A) (hb:Binds X.K fd ps ds) (hd:Vals dvs ds) (hx:jhC CX X E)
 (I:Inv X pins σ H s) (r:Vals vs us) (h:sp (vs++dvs) H Q E):wpAny ‹"d"› X.A (call (.ref f) us) (EP X pins σ Q) X.xe s:=by
 have r2:Vals (vs++dvs) (us++ds):=r.append hd;have hl:(us++ds).length=ps.length:=by rw [<-r2.length];exact F.len _ _ _ _ h
 refine wpAny_call (kD (F.run X.A X.stack s H ⟨us,[]⟩ (us++ds) (vs++dvs) Q E hr I.env0 (hb s us I.kIn hl) r2 h) fun r s' hq=>?_);cases r with
 | error e=>exact hx pins σ H s e s' I hq
 | ok fl=>
   cases fl with
   | ret u=>exact I.after hq
   | next=>exact False.elim hq
   | brk=>exact False.elim hq
   | cont=>exact False.elim hq
theorem ji1 (F:FnOk X.prog X.w X.K X.mg X.base CX k f fd ps sp) (hr:Room k X.A) (hg:Gl X x) (hm:X.mg x=some (.ref f)) (hk:PySem.W.keepIn X.K (.ref f)=true) (hb:Binds X.K fd ps ds) (hd:Vals dvs ds) (hx:jhC CX X E)
 (ha:PA X (e::es) t) (hdb:autoParam ‹"i"› QA.a1._auto_1) (he:autoParam ‹"x"› QA.a4._auto_1) (hpl:autoParam ((backTo pos (starEach es X.env)).any (·.1)=false) QA.a4._auto_1) :
 PE X ‹"O"› (jlm sp dvs E t):=by
 intro pins s σ H Q I h;refine Kt (jiC I hg hm ?_ hdb);refine PySem.W.callWith_K (h₀:=X.base) I.ok.mod.kin hk (qr (ha pos pins s σ H _ I h) fun us s1 ⟨vs,H1,I1,r,q⟩=>⟨I1.kIn,?_⟩) he hpl;exact jqu F hr hb hd hx I1 r q
end
section
variable {X:Cx} {CX:CXT} {k:Nat} {f C:Addr} {fd:FuncData} {ps ks:List Str} {sp:Sp} {E:XK} {x m:Str} {p pos apos kpos:Pos} {e o:Expr} {es:List Expr} {kws:List Keyword} {te ta:TE} {t tk:TA} {nm:Option Str}
variable {g:List Value->List Value->List Value} {gV:List V->List V->List V}
end
structure FnScope (N P:List Str) (sc:Scope):Prop where
 kind:sc.kind=.function
 co:sc.isCoroutine=false
 gen:sc.isGenerator=false
 nd:N.Nodup
 pre:N.take P.length=P
 par:∀x∈P,sc.names.lookup x=some .local\/sc.names.lookup x=some .cell
 nofree:∀y∈sc.names,y.2≠.free
theorem jel {kindOf:Str->Option NameKind} {x:Str}:∀{binds:List (Str×Value)} {m:Str->Option Value},(∀v,(x,v)∉binds)->bindL kindOf binds m x=m x
 | [],_,_=>rfl
 | (n,v)::r,m,h=>by
   unfold bindL;rw [jel fun w hw=>h w (Yg _ hw)];split
   . have:x≠n:=by rintro rfl;exact h v Ye
     simp [this]
   . rfl
theorem jew {kindOf:Str->Option NameKind} {x:Str}:∀{binds:List (Str×Value)} {m:Str->Option Value},(∀v,(x,v)∉binds)->bindC kindOf binds m x=m x
 | [],_,_=>rfl
 | (n,v)::r,m,h=>by
   unfold bindC;rw [jew fun w hw=>h w (Yg _ hw)];split
   . rfl
   . have:x≠n:=by rintro rfl;exact h v Ye
     simp [this]
theorem jdW {kindOf:Str->Option NameKind} {x:Str} {v:Value}:∀{P:List Str} {vs:List Value} {i:Nat} {m:Str->Option Value},P.Nodup->P[i]?=some x->vs[i]?=some v->kindOf x=some .local->
 bindL kindOf (P.zip vs) m x=some v
 | [],_,_,_,_,h,_,_=>by simp at h
 | _::_,[],_,_,_,_,h,_=>by simp at h
 | p::P,w::vs,0,m,nd,h1,h2,hk=>by simp at h1 h2;subst h1;subst h2;show bindL kindOf ((p,w)::P.zip vs) m p=_;unfold bindL;rw [jel fun v hv=>(yc.mp nd).1 (Kj hv).1,if_pos hk];simp
 | p::P,w::vs,i+1,m,nd,h1,h2,hk=>by show bindL kindOf ((p,w)::P.zip vs) m x=_;unfold bindL;exact jdW (i:=i) (yc.mp nd).2 (by simpa using h1) (by simpa using h2) hk
theorem jdZ {kindOf:Str->Option NameKind} {x:Str} {v:Value}:∀{P:List Str} {vs:List Value} {i:Nat} {m:Str->Option Value},P.Nodup->P[i]?=some x->vs[i]?=some v->kindOf x≠some .local->
 bindC kindOf (P.zip vs) m x=some v
 | [],_,_,_,_,h,_,_=>by simp at h
 | _::_,[],_,_,_,_,h,_=>by simp at h
 | p::P,w::vs,0,m,nd,h1,h2,hk=>by simp at h1 h2;subst h1;subst h2;show bindC kindOf ((p,w)::P.zip vs) m p=_;unfold bindC;rw [jew fun v hv=>(yc.mp nd).1 (Kj hv).1,if_neg hk];simp
 | p::P,w::vs,i+1,m,nd,h1,h2,hk=>by show bindC kindOf ((p,w)::P.zip vs) m x=_;unfold bindC;exact jdZ (i:=i) (yc.mp nd).2 (by simpa using h1) (by simpa using h2) hk
def jak (N:List Str) (vs:List V):St:=vs.map some++List.replicate (N.length-vs.length) none
def jho (CX:CXT) (P:Program) (w:World) (K:PySem.W.Frag) (mg:Str->Option Value) (base:Heap) (N:List Str) (qual:Str) (scope:Scope) (f:Addr) (cd:Value) (A:Around) (outer:List Env) (s:Shared) (H:Hp) (E:XK):Cx where
 prog:=P
 w:=w
 K:=K
 mg:=mg
 base:=base
 A:=A.deeper ‹"5"›
 N:=N
 s₀:=s
 H₀:=H
 env:=envOfC qual scope s.heap.objs.size f cd
 outer:=outer
 stack:=envOfC qual scope s.heap.objs.size f cd::outer
 ex:=[]
 calm:=true
 fn:=fun _=>true
 pn:=[]
 xe:=fun e s'=>wpAny (model P w) (A.deeper ‹"5"›) (leaving ‹"5"› e) (fun _ s''=>CX outer H s E e s'') (fun e' s''=>CX outer H s E e' s'') s'
theorem jgM {sc:Scope} {n:Nat} {x:Str} (h:sc.names.lookup x=some .cell):∃c,(cellsFrom n sc.names []).lookup x=some c:=by have q:=PySem.W.cellsFrom_some sc.names n [] (.inl h);exact Option.isSome_iff_exists.mp q
theorem jj4 {CX:CXT} {P:Program} {w:World} {K:PySem.W.Frag} {mg:Str->Option Value} {base:Heap} {N ps:List Str} {qual:Str} {scope:Scope} {f:Addr} {cd:Value} {A:Around} {outer:List Env} {s s1:Shared} {H:Hp} {E:XK} {us:List Value} {vs:List V}
 (S:FnScope N ps scope) (hd:A.handled=none) (e0:Env0 P w K mg base A outer s H) (hl:vs.length=ps.length) (r:Vals vs us)
 (x:InCallC s s.heap.objs.size (bindL ‹"5"›.kindOf (ps.zip us) fun _=>none) (cellsFrom (s.heap.objs.size+1) scope.names []) (bindC ‹"5"›.kindOf (ps.zip us) fun _=>none) s1) :
 Inv (jho CX P w K mg base N qual scope f cd A outer s H E) [] (jak N vs) H s1:=by
 have hpl:ps.length<=N.length:=by have:=congrArg List.length S.pre;rw [kb] at this;omega
 obtain ⟨h1,tk,rfl,hk⟩:=x.done;have noA:∀b:Addr,b∉(jho CX P w K mg base N qual scope f cd A outer s H E).ex:=fun b z=>absurd (show b∈([]:List Addr) from z) (by simp);refine ⟨⟨e0.mod,S.kind,rfl,rfl,Yq _,fun y z c h1 h2=>?_,fun y hy=>?_,fun y c _ h=>?_,fun _=>hd,Around.frames_deeper e0.frames,.inr ⟨rfl,rfl⟩,fun b z=>absurd z (noA b),e0.bs,e0.bsz,fun b _ _=>noA b,fun b z=>absurd z (noA b),e0.funs,e0.frf⟩,
  rfl,e0.bare,Un.kept hk,⟨_,x.toInCall.ns,fun i y v h1 h2 h3=>?_⟩,fun y c h=>⟨_,x.cell y c h⟩,e0.hok.fresh (Yq _),fun y c h=>?_,fun p hp=>absurd (show p∈([]:List (Addr×Obj)) from hp) (by simp),e0.hok.kept hk,?_⟩
 . exact name_of_addr x.apart (Kp h1) (Kp h2)
 . have hy:scope.names.lookup y=some .cell\/scope.names.lookup y=some .free:=hy;rcases hy with hy | hy
   . exact jgM hy
   . exact absurd rfl (S.nofree _ (Kp hy))
 . exact yL (x.above y c (Kp h))
 . have hi:i<vs.length:=by
    unfold jak at h2;by_cases hi:i<vs.length
    . exact hi
    . rw [YC ‹"as"›] at h2;rw [List.getElem?_replicate] at h2;split at h2 <;> cases h2
   have ha:vs[i]?=some v:=by
    unfold jak at h2;rw [YF ‹"as"›,List.getElem?_map] at h2;cases e:vs[i]? with
    | none=>rw [e] at h2;cases h2
    | some a=>rw [e] at h2;cases h2;rfl
   obtain ⟨u,hu,rv⟩:=r.get ha;have hp:ps[i]?=some y:=by rw [<-S.pre,List.getElem?_take_of_lt (by omega)];exact h1
   have ndP:ps.Nodup:=by rw [<-S.pre];exact S.nd.sublist (List.take_sublist _ _)
   refine ⟨u,rv,?_⟩;rcases S.par y (YB hp) with k | k
   . exact .inl ⟨k,jdW ndP hp hu k⟩
   . obtain ⟨c,e⟩:=jgM (n:=s.heap.objs.size+1) k;refine .inr ⟨.inl k,c,e,?_⟩;have q:=x.cell y c e;rw [jdZ ndP hp hu (by show scope.names.lookup y≠_;rw [k];decide)] at q;exact q
 . exact e0.hok.fresh (yL (x.above y c (Kp h)))
 . unfold jak;show _=N.length;rw [YR,Yd,List.length_replicate];omega
theorem jse {CX:CXT} {P:Program} {w:World} {K:PySem.W.Frag} {mg:Str->Option Value} {base:Heap} {k:Nat} {f:Addr} {name qual:Str} {params:Arguments} {body:List Stmt} {scope:Scope} {dV kV doc pm cdv ct oc:Value} {an od:Option Addr}
 {osl:Array (Option Value)} {N ps:List Str} {sp:Sp} (lk:K.lookup f=some ⟨oc,od,.func (PySem.W.fnOf name qual params body scope dV kV doc pm an cdv ct),osl⟩) (hcd:PySem.W.codeIn K cdv qual=true) (S:FnScope N ps scope)
 (len:∀vs H Q E,sp vs H Q E->vs.length=ps.length)
 (hbody:∀(A:Around) (outer:List Env) (s:Shared) (H:Hp) (vs:List V) (Q:VK) (E:XK),Room k (A.deeper (envOfC qual scope s.heap.objs.size f cdv))->sp vs H Q E->
  ∃t,PSs (jho CX P w K mg base N qual scope f cdv A outer s H E) body t/\t { nx:=fun _ H'=>Q .non H',rt:=Q } (jak N vs) H) :
 FnOk P w K mg base CX (k+1) f (PySem.W.fnOf name qual params body scope dV kV doc pm an cdv ct) ps sp:=by
 refine ⟨len,fun A outer s H args us vs Q E hr e0 hb r hsp=>?_⟩;have hl:=len _ _ _ _ hsp;have KX:K.In s.heap:=e0.mod.kin.keeps fun b o e=>(e0.bs b o e).1;have lim:s.heap.NoLimit:=e0.mod.nolimit.keeps fun b o e=>(e0.bs b o e).1;have hkind:∀y∈ps.zip us,scope.names.lookup y.1=some .local\/(scope.names.lookup y.1=some .cell/\((cellsFrom (s.heap.objs.size+1) scope.names []).lookup y.1).isSome=true):=fun ⟨n,v⟩ hy=>by
  rcases S.par n (Kj hy).1 with q | q
  . exact .inl q
  . exact .inr ⟨q,PySem.W.cellsFrom_some _ _ _ (.inl q)⟩
 refine codeAny_call_function hr.depth (KX _ _ lk) rfl S.co S.gen rfl (PySem.W.codeRec_of KX hcd) (hb _ _ _ _ ?_);refine wpAny_newFunctionEnv_cells S.kind hkind fun env he s1 x=>?_;subst he;refine ⟨lim.keeps x.toInCall.keep,codeAny_func ?_⟩;obtain ⟨t,ht,hq⟩:=hbody A outer s H vs Q E (hr.deeper _) hsp;have I:Inv (jho CX P w K mg base N qual scope f cdv A outer s H E) [] (jak N vs) H s1:=jj4 S hr.hd e0 hl r x;refine yj (ht [] s1 (jak N vs) H _ I hq) (fun fl s' hs=>?_) fun e s' hs=>hs;have fin:∀{σ':St} {H':Hp} {v:V} {u:Value},Inv (jho CX P w K mg base N qual scope f cdv A outer s H E) [] σ' H' s'->RelV v u->Q v H'->CE outer P w H s Q u s':=fun {σ' H' v u} J rv q=>⟨v,H',J.os,J.bare,J.base,J.hok,rv,q⟩
 cases fl with
 | ret u=>obtain ⟨v,σ',H',J,rv,q⟩:=hs;exact fin J rv q
 | next=>obtain ⟨σ',H',J,q⟩:=hs;exact fin (v:=V.non) (u:=Value.none) J rfl q
 | brk=>obtain ⟨_,_,_,q⟩:=hs;exact False.elim q
 | cont=>obtain ⟨_,_,_,q⟩:=hs;exact False.elim q
end L2
namespace L2
open PySem PySem.Spec PyProof.Rows
section
variable {X:Cx} {x:Str} {p pos:Pos} {e:Expr} {es:List Expr} {t:TA} {id T:String} {r:List V->Hp->VK->Prop}
def tCB (r:List V->Hp->VK->Prop) (t:TA):TE:=fun σ H Q=>t σ H fun vs H1=>r vs H1 Q
theorem jaL (hc:CallR X (.builtin id) r) (hg:Gl X x) (hm:X.mg x=none) (hv:bootBuiltins x=some (.builtin id)) (ha:PA X (e::es) t) (hn:autoParam (x ≠ "__name__") QA.a1._auto_1) (hdb:autoParam ‹"i"› QA.a1._auto_1)
 (he:autoParam ‹"x"› QA.a4._auto_1) (hpl:autoParam ((backTo pos (starEach es X.env)).any (·.1)=false) QA.a4._auto_1):PE X ‹"O"› (tCB r t):=by
 intro pins s σ H Q I h;refine Kt (JN I hg hm hv ?_ hn hdb);exact PyProof.Rows.callWith_builtin1 ‹"aO"› he hpl
theorem jbA (hc:CallR X (.type T) r) (hg:Gl X x) (hm:X.mg x=none) (hv:bootBuiltins x=some (.type T)) (ha:PA X (e::es) t) (hn:autoParam (x ≠ "__name__") QA.a1._auto_1) (hdb:autoParam ‹"i"› QA.a1._auto_1)
 (he:autoParam ‹"x"› QA.a4._auto_1) (hpl:autoParam ((backTo pos (starEach es X.env)).any (·.1)=false) QA.a4._auto_1):PE X ‹"O"› (tCB r t):=by
 intro pins s σ H Q I h;refine Kt (JN I hg hm hv ?_ hn hdb);exact Y5 ‹"aO"› he hpl
end
end L2
namespace HT
open PySem PyProof.Rows
section
open PySem.SeqAt
open PySem.AutoSeq1 (wpAny_loadPart')
open PySem.MeetsSeq PySem.MeetsSeq2 PySem.MeetsSeq3
end
section
variable {prog:Program} {w:World} {A:Around} {E:Value->Shared->Prop} {s:Shared}
def sIx (n d:Nat):Option Int->Nat
 | none=>d
 | some v=>if v<0 then (v+(n:Int)).toNat else min v.toNat n
theorem sIx_none (n d:Nat):sIx n d none=d:=rfl
theorem sIx_nat (n d k:Nat):sIx n d (some (k:Int))=min k n:=by show (if (k:Int)<0 then ((k:Int)+(n:Int)).toNat else min (k:Int).toNat n)=min k n;rw [if_neg (by omega),Yt]
end
end HT
namespace L2
open PySem PySem.Spec PyProof.Rows
abbrev TO:=St->Hp->(Option Int->Hp->Prop)->Prop
def PO (X:Cx) (e:Option Expr) (t:TO):Prop:=
 ∀(pins:List (Addr×Obj)) (s:Shared) (σ:St) (H:Hp) (Q:Option Int->Hp->Prop),Inv X pins σ H s->t σ H Q->
   wpAny ‹"d"› X.A (evalPart e X.env) (fun u s'=>∃o H',Inv X pins σ H' s'/\IsPart u o/\Q o H') X.xe s
def jh6:TO:=fun _ H Q=>Q none H
def joc (t:TE):TO:=fun σ H Q=>t σ H fun x H1=>∃i,x=.int i/\Q (some i) H1
theorem Qj {ns:List Int}:∀{us:List Value},Vals (ns.map V.int) us->IntsAre us ns:=by
 induction ns with
 | nil=>intro us r;rw [yS] at r;cases r;exact .nil
 | cons n ns ih=>
   intro us r;rw [List.map_cons] at r;cases r with
   | cons r1 r2=>obtain ⟨t,e⟩:=r1;subst e;exact .cons n t (ih r2)
section
variable {X:Cx} {e:Expr} {te:TE} {lo hi:Option Expr} {tl th:TO} {pos p2:Pos}
theorem jnr:PO X none jh6:=by intro pins s σ H Q I h;rw [evalPart_none];exact Yj ⟨none,H,I,.none,h⟩
theorem jnb (h:PE X e te):PO X (some e) (joc te):=by intro pins s σ H Q I hw;rw [evalPart_some];refine qr (h pins s σ H _ I hw) fun u s1 zz=>?_;obtain ⟨x,H1,I1,r1,q1⟩:=zz;obtain ⟨i,rfl,q⟩:=q1;obtain ⟨t,rfl⟩:=r1;exact ⟨some i,H1,I1,.int i t,q⟩
def SlR (X:Cx) (r:V->Option Int->Option Int->Hp->VK->Prop):Prop:=
 ∀(pins:List (Addr×Obj)) (s:Shared) (σ:St) (H:Hp) (x:V) (v vl vu:Value) (lo hi:Option Int) (sl:Addr) (Q:VK),Inv X pins σ H s->RelV x v->s.heap.IsSliceOf sl vl vu .none->IsPart vl lo->IsPart vu hi->r x lo hi H Q->
   ∃T id,typeLookup (.type T) "__getitem__"=pure (some (.builtin id)) ∧ s.TypeIs v T ∧ wpAny ‹"d"› X.A (getItem v (.ref sl)) (EP X pins σ Q) X.xe s
def tSl (r:V->Option Int->Option Int->Hp->VK->Prop) (te:TE) (tl th:TO):TE:=fun σ H Q=>te σ H fun x H1=>tl σ H1 fun l H2=>th σ H2 fun u H3=>r x l u H3 Q
theorem jlT {r:V->Option Int->Option Int->Hp->VK->Prop} (hr:SlR X r) (he:PE X e te) (hl:PO X lo tl) (hu:PO X hi th):PE X (.Subscript e (.Slice lo hi none p2) pos) (tSl r te tl th):=by intro pins s σ H Q I h;refine Subscript_ (qr ‹"aI"› fun v s1 zz=>?_);obtain ⟨x,H1,I1,r1,q1⟩:=zz;refine wpAny_Slice (qr (hl pins s1 σ H1 _ I1 q1) fun vl s2 ⟨l,H2,I2,pl,q2⟩=>qr (hu pins s2 σ H2 _ I2 q2) fun vu s3 zz=>?_);obtain ⟨u,H3,I3,pu,q3⟩:=zz;rw [evalPart_none];refine Yj ?_;have I4:Inv X pins σ H3 { s3 with heap:=s3.heap.push { cls:=.type "slice",data:=.fields #[vl,vu,.none] } }:=I3.kept (t':=s3.toks) fun b ob q=>Yh _ q;obtain ⟨T,id,hT,ht,hg⟩:=hr pins { s3 with heap:=s3.heap.push { cls:=.type "slice",data:=.fields #[vl,vu,.none] } } σ H3 x v vl vu l u s3.heap.objs.size Q I4 r1 (Heap.IsSliceOf.new ..) pl pu q3;show wpAny ‹"d"› X.A (subscriptTail e (.Slice lo hi none p2) v (.ref s3.heap.objs.size)) (EP X pins σ Q) X.xe { s3 with heap:=s3.heap.push { cls:=.type "slice",data:=.fields #[vl,vu,.none] } };exact tail_any (ops:=[.ref s3.heap.objs.size,v]) ht hT hg (by with_unfolding_all rfl)
def jjv (xs:List V) (lo hi:Option Int):List V:=(xs.drop (HT.sIx xs.length 0 lo)).take ‹"aQ"›
theorem jgm (xs:List V) (lo hi:Option Int):(jjv xs lo hi).length<=xs.length:=by unfold jjv;rw [kb,List.length_drop];omega
end
end L2
namespace L2
open PySem PySem.Spec PyProof.Rows
def ixN (n:Nat) (i:Int):Option Nat:=if 0<=i then (if i<n then some i.toNat else none) else if -(n:Int)<=i then some (i+n).toNat else none
def atI {α:Type} (xs:List α) (i:Int):Option α:=(ixN xs.length i).bind fun j=>xs[j]?
theorem jij {n:Nat} {i:Int} {j:Nat} (h:ixN n i=some j):seqIndex? i n=some j/\j<n /\ -(n:Int)<=i/\i<n:=by
 unfold ixN at h;by_cases h0:0<=i
 . rw [if_pos h0] at h;by_cases h1:i<n
   . rw [if_pos h1] at h;have e:i.toNat=j:=Option.some.inj h;exact ⟨by rw [seqIndex_of h0 h1,e],by omega,by omega,h1⟩
   . rw [if_neg h1] at h;cases h
 . rw [if_neg h0] at h;by_cases h1:-(n:Int)<=i
   . rw [if_pos h1] at h;have e:(i+n).toNat=j:=Option.some.inj h;exact ⟨by rw [seqIndex_neg (by omega) h1,e],by omega,h1,by omega⟩
   . rw [if_neg h1] at h;cases h
theorem je6 {α:Type} {xs:List α} {i:Int} {v:α} (h:atI xs i=some v):∃j,seqIndex? i xs.length=some j/\xs[j]?=some v/\j<xs.length /\ -(xs.length:Int)<=i/\i<xs.length:=by
 unfold atI at h;cases e:ixN xs.length i with
 | none=>rw [e] at h;cases h
 | some j=>rw [e] at h;obtain ⟨h1,h2,h3,h4⟩:=jij e;exact ⟨j,h1,h,h2,h3,h4⟩
def jeQ (b:Expr):Prop:=∀o i,subscripted b false o i=operate [o,i] (getItem o i)
def IxR (X:Cx) (r:R2):Prop:=
 ∀(value slice:Expr) (pins:List (Addr×Obj)) (s:Shared) (σ:St) (H:Hp) (x y:V) (v u:Value) (Q:VK),Inv X pins σ H s->RelV x v->RelV y u->r x y H Q->
   subscripted slice false v u=operate [v,u] (getItem v u)->wpAny ‹"d"› X.A (subscriptTail value slice v u) (EP X pins σ Q) X.xe s
def MtR (X:Cx) (id:String) (r:V->List V->Hp->VK->Prop):Prop:=
 ∀(pins:List (Addr×Obj)) (s:Shared) (σ:St) (H:Hp) (x:V) (xs:List V) (v:Value) (us:List Value) (Q:VK),Inv X pins σ H s->RelV x v->Vals xs us->r x xs H Q->
   wpAny ‹"d"› X.A (call (.builtin id) (v::us)) (EP X pins σ Q) X.xe s
section
variable {X:Cx} {a b:Expr} {ta tb:TE} {pos:Pos}
theorem IxR.or {r r':R2} (h:IxR X r) (h':IxR X r'):IxR X (fun x y H Q=>r x y H Q\/r' x y H Q):=by
 intro value slice pins s σ H x y v u Q I rx ry q hs;rcases q with q | q
 . exact h value slice pins s σ H x y v u Q I rx ry q hs
 . exact h' value slice pins s σ H x y v u Q I rx ry q hs
theorem joy {r:R2} (hr:IxR X r) (ha:PE X a ta) (hb:PE X b tb) (hs:jeQ b):PE X (.Subscript a b pos) (tOp r ta tb):=by intro pins s σ H Q I h;exact Subscript_ (jqO ha hb I h fun v u s2 x y H2 I2 rx ry q=>hr a b pins s2 σ H2 x y v u Q I2 rx ry q (hs _ _))
def jrz (K:PySem.W.Frag):R2:=fun x y H Q=>∃p xs i v,x=.ref p/\y=.int i/\Jp K H p xs/\atI xs i=some v/\Q v H
def jrC (K:PySem.W.Frag):R2:=fun x y H Q=>∃p xs i v,x=.ref p/\y=.int i/\SqT K H p xs/\atI xs i=some v/\Q v H
def jq1:R2:=fun x y H Q=>∃z i c,x=.str z/\y=.int i/\z.length<=sizeLine/\atI z.cps.toList i=some c/\Q (.str ⟨#[c]⟩) H
theorem ix_list:IxR X (jrz X.K):=by
 intro value slice pins s σ H x y v u Q I rx ry h hs;obtain ⟨p,xs,i,z,rfl,rfl,hq,he,q⟩:=h;cases rx;obtain ⟨t,rfl⟩:=ry;obtain ⟨its,r,pl,hz⟩:=I.list hq;obtain ⟨j,h1,h2,h3,h4,h5⟩:=je6 he;obtain ⟨w,ew,rw'⟩:=r.get h2;have hl:=r.length;have hn:=jat;have fin:EP X pins σ Q w s:=⟨z,H,I,rw',q⟩;by_cases h0:0<=i
 . have hj:i.toNat=j:=by rw [seqIndex_of h0 h5] at h1;exact Option.some.inj h1
   exact item_listR pl.isList h0 (by omega) (by rw [hj];simpa using ew) fin hs
 . have hj:(i+(its.toArray.size:Int)).toNat=j:=by rw [seqIndex_neg (by omega) h4] at h1;rw [YI,<- hl];exact Option.some.inj h1
   exact subscriptTail_builtinR (x:=w) pl.isList.typeIs slot_list_getitem.lookup
    (wpAny_getItem_list_neg (Q:=fun r s'=>r=w/\EP X pins σ Q r s') pl.isList (by omega) (by rw [YI] <;> omega) (by omega) (by rw [hj];simpa using ew) ⟨rfl,fin⟩) hs
theorem ix_tup:IxR X (jrC X.K):=by
 intro value slice pins s σ H x y v u Q I rx ry h hs;obtain ⟨p,xs,i,z,rfl,rfl,hq,he,q⟩:=h;cases rx;obtain ⟨t,rfl⟩:=ry;obtain ⟨its,r,pl,hz⟩:=I.tuple hq;obtain ⟨j,h1,h2,h3,h4,h5⟩:=je6 he;obtain ⟨w,ew,rw'⟩:=r.get h2;have hl:=r.length;have hn:=jat;have fin:EP X pins σ Q w s:=⟨z,H,I,rw',q⟩;exact subscriptTail_builtinR (x:=w) pl.typeIs slot_tuple_getitem.lookup
  (getItem_tuple (j:=j) (Q:=fun r s'=>r=w/\EP X pins σ Q r s') pl (by omega) (by omega) (by rw [YI,<- hl];exact h1) (by simpa using ew) ⟨rfl,fin⟩) hs
theorem jqd:IxR X jq1:=by
 intro value slice pins s σ H x y v u Q I rx ry h hs;obtain ⟨z,i,c,rfl,rfl,hz,he,q⟩:=h;obtain ⟨t,rfl⟩:=rx;obtain ⟨t',rfl⟩:=ry;obtain ⟨j,h1,h2,h3,h4,h5⟩:=je6 he;have hl:z.cps.toList.length=z.length:=by simp [Str.length]
 rw [hl] at h1 h4 h5;have hn:=jat;exact tail_any (typeIs_str s z t) slot_str_getitem.lookup (getItem_str (c:=c) (by have e1:decide (i < -(2 ^ 63:Int))=false:=YV (by omega);have e2:decide (i>=2 ^ 63)=false:=YV (by omega);rw [e1,e2,Bool.or_false]) (by rw [h1];simpa using h2) ⟨.str ⟨#[c]⟩,H,I.tok _,⟨_,rfl⟩,q⟩) hs
def rIx (K:PySem.W.Frag):R2:=fun x y H Q=>jrz K x y H Q\/jrC K x y H Q\/jq1 x y H Q
theorem jld:IxR X (rIx X.K):=ix_list.or (ix_tup.or jqd)
theorem jhz (its:List Value) (n j:Nat) (u:Value):Obj.mapSeq (·.setIfInBounds j u) { cls:=.type "list",data:=.seq its.toArray n }={ cls:=.type "list",data:=.seq (its.set j u).toArray n }:=by simp [Obj.mapSeq]
theorem Inv.lst {pins:List (Addr×Obj)} {σ:St} {H:Hp} {s:Shared} {p:Addr} {xs:List V} (I:Inv X pins σ H s) (h:H p=some (.lst xs)) :
 ∃(its:List Value) (n:Nat),Vals xs its ∧ s.heap.get? p=some { cls:=.type "list",data:=.seq its.toArray n } ∧ xs.length ≤ sizeLine:=by
 obtain ⟨z,its,n,r,e⟩:=I.hok p _ h;exact ⟨its,n,r,e,z⟩
theorem Inv.lstUpd {pins:List (Addr×Obj)} {σ:St} {H:Hp} {s:Shared} {p:Addr} {xs ys:List V} {its its':List Value} {n n':Nat} {f:Obj->Obj} (I:Inv X pins σ H s) (h:H p=some (.lst xs))
 (ho:s.heap.get? p=some { cls:=.type "list",data:=.seq its.toArray n }) (hf:f { cls:=.type "list",data:=.seq its.toArray n }={ cls:=.type "list",data:=.seq its'.toArray n' }) (r:Vals ys its') (hz:ys.length ≤ sizeLine) (t:Nat) :
 Inv X pins σ (upd H p (.lst ys)) { s with heap:=s.heap.update p f,toks:=t }:=by
 have e:(s.heap.update p f).get? p=some { cls:=.type "list",data:=.seq its'.toArray n' }:=by rw [YU f ho (by rw [hf] <;> rfl),hf]
 refine I.write (x:=p) (e:=p) (by rw [h];trivial) (.inl rfl) (fun b u hb q=>(yo _ _ (Ne.symm hb)).trans q) ⟨_,e⟩ ?_;exact ⟨hz,its',n',r,e⟩
def jlu:V->V->V->Hp->(Hp->Prop)->Prop:=fun o i v H Q=>∃p xs k j,o=.ref p/\i=.int k/\H p=some (.lst xs)/\ixN xs.length k=some j/\Q (upd H p (.lst (xs.set j v)))
theorem jfI:jqb X jlu:=by
 intro pins s σ H o i v ov iv u Q I ro ri rv h;obtain ⟨p,xs,k,j,rfl,rfl,hp,hj,q⟩:=h;cases ro;obtain ⟨t,rfl⟩:=ri;obtain ⟨its,n,r,ho,hz⟩:=I.lst hp;obtain ⟨h1,h2,h3,h4⟩:=jij hj;have hl:=r.length;have hn:=jat;have I':Inv X pins σ (upd H p (.lst (xs.set j v))) { s with heap:=s.heap.update p (Obj.mapSeq (·.setIfInBounds j u)) }:=I.lstUpd hp ho (jhz its n j u) (r.set rv j) (by rw [List.length_set];exact hz) s.toks
 by_cases h0:0<=k
 . have hk:k.toNat=j:=by rw [seqIndex_of h0 h4] at h1;exact Option.some.inj h1
   exact PySem.W.ki_setAt ho h0 (by omega) (by rw [YI,<- hl];exact h4) (by rw [hk];exact ⟨_,I',q⟩)
 . have hk:(k+(its.toArray.size:Int)).toNat=j:=by rw [seqIndex_neg (by omega) h3] at h1;rw [YI,<- hl];exact Option.some.inj h1
   exact PySem.W.ki_setBack ho (by omega) (by rw [YI,<- hl];exact h3) (by omega) (by rw [hk];exact ⟨_,I',q⟩)
theorem jeB (lo hi:Option Int) (n:Nat):(sliceBounds lo hi none n).1=((HT.sIx n 0 lo:Nat):Int)/\(sliceBounds lo hi none n).2.1=((HT.sIx n n hi:Nat):Int)/\(sliceBounds lo hi none n).2.2=1:=by
 refine ⟨?_,?_,rfl⟩
 . cases lo with
   | none=>simp [sliceBounds,HT.sIx]
   | some i=>
     simp only [sliceBounds,HT.sIx,Option.getD_none,show (1:Int)>0 by decide,yq];by_cases h:i<0
     . simp only [h,yq] <;> omega
     . simp only [h,yu] <;> omega
 . cases hi with
   | none=>simp [sliceBounds,HT.sIx]
   | some i=>
     simp only [sliceBounds,HT.sIx,Option.getD_none,show (1:Int)>0 by decide,yq];by_cases h:i<0
     . simp only [h,yq] <;> omega
     . simp only [h,yu] <;> omega
theorem jdA (its:List Value) (lo hi:Option Int):slicePick its.toArray lo hi none=((its.drop (HT.sIx its.length 0 lo)).take (HT.sIx its.length its.length hi-HT.sIx its.length 0 lo)).toArray:=by obtain ⟨h1,h2,h3⟩:=jeB lo hi its.toArray.size;unfold slicePick;rw [h1,h2,h3];simp only [sliceRange_one,pick_run,YI] <;> rfl
def jpI (K:PySem.W.Frag):V->Option Int->Option Int->Hp->VK->Prop:=fun x lo hi H Q=>∃a xs,x=.ref a/\Jp K H a xs/\∀p,H p=none->Q (.ref p) (upd H p (.lst (jjv xs lo hi)))
theorem jne:SlR X (jpI X.K):=by intro pins s σ H x v vl vu lo hi sl Q I rx hs pl pu h;obtain ⟨a,xs,rfl,hx,q⟩:=h;cases rx;obtain ⟨its,r,ht,hz⟩:=I.list hx;have hlen:=r.length;refine ⟨"list",_,slot_list_getitem.lookup,ht.isList.typeIs,?_⟩;refine wpAny_getItem_list_slice ht.isList hs pl pu .none (by simp) ?_ (by rw [YI] <;> omega);rw [jdA,<- hlen];refine ⟨.ref s.heap.objs.size,_,I.laid (t':=s.toks) (o:=.lst (jjv xs lo hi)) (fun b ob q=>Yh _ q) (Yq _) ?_,rfl,q _ (I.hok.fresh (Yq _))⟩;exact ⟨YW (jgm xs lo hi) hz,_,0,(r.drop (HT.sIx xs.length 0 lo)).take ‹"aQ"›,Yy _ rfl⟩
def jgn:V->Bool
 | .non=>true
 | .bl _=>true
 | .int _=>true
 | .str _=>true
 | _=>false
def eqV:V->V->Bool
 | .non,.non=>true
 | .bl a,.bl b=>a == b
 | .bl a,.int b=>(if a then 1 else 0) == b
 | .int a,.bl b=>a == (if b then 1 else 0)
 | .int a,.int b=>a == b
 | .str a,.str b=>a == b
 | _,_=>false
theorem jfr {A:Around} {s:Shared} {y x:V} {u v:Value} (ry:RelV y u) (rx:RelV x v) (fy:jgn y=true) (fx:jgn x=true):SeqAt.EqAt A s u v (eqV y x):=by
 cases y with
 | non=>
   cases ry;cases x with
   | non=>cases rx;exact SeqAt.EqAt.same _
   | bl b=>cases rx;exact SeqAt.EqAt.none_bool b
   | int b=>obtain ⟨t,rfl⟩:=rx;exact SeqAt.EqAt.none_int b t
   | str b=>obtain ⟨t,rfl⟩:=rx;exact SeqAt.EqAt.none_str b t
   | _=>exact absurd (show false=true from fx) Yi
 | bl a=>
   cases ry;cases x with
   | non=>cases rx;exact SeqAt.EqAt.bool_none a
   | bl b=>cases rx;exact SeqAt.EqAt.bool_bool a b
   | int b=>obtain ⟨t,rfl⟩:=rx;exact SeqAt.EqAt.bool_int a b t
   | str b=>obtain ⟨t,rfl⟩:=rx;exact SeqAt.EqAt.bool_str a b t
   | _=>exact absurd (show false=true from fx) Yi
 | int a=>
   obtain ⟨t',rfl⟩:=ry;cases x with
   | non=>cases rx;exact SeqAt.EqAt.int_none a t'
   | bl b=>cases rx;exact SeqAt.EqAt.int_bool a t' b
   | int b=>obtain ⟨t,rfl⟩:=rx;exact SeqAt.EqAt.int_int a t' b t
   | str b=>obtain ⟨t,rfl⟩:=rx;exact SeqAt.EqAt.int_str a t' b t
   | _=>exact absurd (show false=true from fx) Yi
 | str a=>
   obtain ⟨t',rfl⟩:=ry;cases x with
   | non=>cases rx;exact SeqAt.EqAt.str_none a t'
   | bl b=>cases rx;exact SeqAt.EqAt.str_bool a t' b
   | int b=>obtain ⟨t,rfl⟩:=rx;exact SeqAt.EqAt.str_int a t' b t
   | str b=>obtain ⟨t,rfl⟩:=rx;exact SeqAt.EqAt.str_str a t' b t
   | _=>exact absurd (show false=true from fx) Yi
 | _=>exact absurd (show false=true from fy) Yi
theorem call_len_seq:CallR X (.builtin "len") (fun xs H Q=>∃p ys,xs=[.ref p] ∧ (Jp X.K H p ys ∨ SqT X.K H p ys) ∧ Q (.int ys.length) H):=by
 intro pins s σ H xs us Q I r h;obtain ⟨p,ys,rfl,hq,q⟩:=h;obtain ⟨u,rfl,rx⟩:=jbM r;cases rx;have hn:=jat;rcases hq with hq | hq
 . obtain ⟨its,r',pl,hz⟩:=I.list hq;have hlen:=r'.length;exact Calls.call_len_list pl.isList (by simp only [YI] <;> omega) ⟨.int ys.length,H,I.tok _,⟨s.toks+1,by rw [YI,hlen]⟩,q⟩
 . obtain ⟨its,r',pl,hz⟩:=I.tuple hq;have hlen:=r'.length;exact len_tuple pl (by simp only [YI] <;> omega) ⟨.int ys.length,H,I.tok _,⟨s.toks+1,by rw [YI,hlen]⟩,q⟩
theorem jfe:CallR X (.builtin "len") (fun xs H Q=>∃z,xs=[.str z] ∧ z.length ≤ sizeLine ∧ Q (.int z.length) H):=by intro pins s σ H xs us Q I r h;obtain ⟨z,rfl,hz,q⟩:=h;obtain ⟨u,rfl,t,rfl⟩:=jbM r;have hn:=jat;exact len_str (by omega) ⟨.int z.length,H,I.tok _,⟨_,rfl⟩,q⟩
theorem CallR.or {f:Value} {r r':List V->Hp->VK->Prop} (h:CallR X f r) (h':CallR X f r'):CallR X f (fun xs H Q=>r xs H Q\/r' xs H Q):=by
 intro pins s σ H xs us Q I rs q;rcases q with q | q
 . exact h pins s σ H xs us Q I rs q
 . exact h' pins s σ H xs us Q I rs q
theorem je4:CallR X (.type "list") (fun xs H Q=>∃p ys,xs=[.ref p] ∧ (Jp X.K H p ys ∨ SqT X.K H p ys) ∧ ∀l,H l=none → Q (.ref l) (upd H l (.lst ys))):=by
 intro pins s σ H xs us Q I r h;obtain ⟨p,ys,rfl,hq,q⟩:=h;obtain ⟨u,rfl,rx⟩:=jbM r;cases rx;have fin:∀(its:List Value),Vals ys its->ys.length<=sizeLine->∀(h':Heap) (c':Nat),(∀b o',s.heap.get? b=some o'->h'.get? b=some o')->
  h'.get? s.heap.objs.size=some { cls:=.type "list",dict:=none,data:=.seq its.toArray c',slots:=#[] } → EP X pins σ Q (.ref s.heap.objs.size) { s with heap:=h' }:=fun its r' hz h' c' kp e=>
  ⟨.ref s.heap.objs.size,_,I.laid (t':=s.toks) kp (Yq _) (show ObjOk X.prog X.w _ h' _ (.lst ys) from ⟨hz,its,c',r',e⟩),rfl,q _ (I.hok.fresh (Yq _))⟩
 rcases hq with hq | hq
 . obtain ⟨its,r',pl,hz⟩:=I.list hq;have hlen:=r'.length;obtain ⟨o,ho,hc,n,hd⟩:=pl.isList;exact call_list_seq p (.inl rfl) ho hc hd (fun h' c' kp e=>fin its r' hz h' c' kp e) (by simp only [YI] <;> omega)
 . obtain ⟨its,r',pl,hz⟩:=I.tuple hq;have hlen:=r'.length;obtain ⟨o,ho,hc,n,hd⟩:=pl;exact call_list_seq p (.inr rfl) ho hc hd (fun h' c' kp e=>fin its r' hz h' c' kp e) (by simp only [YI] <;> omega)
def tyV (K:PySem.W.Frag) (T:String) (x:V) (H:Hp):Prop:=match x with
 | .str _=>T = "str"
 | .int _=>T = "int"
 | .ref p=>(T = "list" ∧ ∃xs,Jp K H p xs) ∨ (T="tuple" ∧ ∃o,K.lookup p=some o ∧ o.cls=.type "tuple" ∧ o.dict=none) ∨
  (T = "dict" ∧ ((∃kvs,H p=some (.dK kvs)) ∨ ∃kvs,H p=some (.dT kvs))) ∨ (T="set" ∧ ∃S n,H p=some (.set S n))
 | _=>False
theorem jqC {pins:List (Addr×Obj)} {σ:St} {H:Hp} {s:Shared} {T:String} {x:V} {v:Value} (I:Inv X pins σ H s) (r:RelV x v) (ty:tyV X.K T x H) :
 s.TypeIs v T/\∀a,v=.ref a->∃ob,s.heap.get? a=some ob/\ob.dict=none:=by
 cases x with
 | str z=>obtain ⟨t,rfl⟩:=r;cases (show T = "str" from ty);exact ⟨typeIs_str s z t,fun _ e=>nomatch e⟩
 | int i=>obtain ⟨t,rfl⟩:=r;cases (show T = "int" from ty);exact ⟨typeIs_int s i t,fun _ e=>nomatch e⟩
 | ref p=>
   cases r;rcases ty with ⟨rfl,xs,hq⟩ | ⟨rfl,o,hk,hc,hd⟩ | ⟨rfl,hk⟩ | ⟨rfl,S,n,hk⟩
   . obtain ⟨its,_,pl,_⟩:=I.list hq;refine ⟨pl.isList.typeIs,fun a e=>?_⟩;cases e;obtain ⟨o,n,e,c,hd,_⟩:=pl;exact ⟨o,e,hd⟩
   . refine ⟨⟨o,I.kIn p o hk,hc⟩,fun a e=>?_⟩;cases e;exact ⟨o,I.kIn _ o hk,hd⟩
   . have z:∃o,s.heap.get? p=some o/\o.ExactDict:=by
       rcases hk with ⟨kvs,hk⟩ | ⟨kvs,hk⟩
       . obtain ⟨_,_,_,_,o,_,_,e,ex,_⟩:=I.hok p _ hk;exact ⟨o,e,ex⟩
       . obtain ⟨_,_,_,_,o,_,_,e,ex,_⟩:=I.hok p _ hk;exact ⟨o,e,ex⟩
     obtain ⟨o,e,ex⟩:=z;refine ⟨⟨o,e,ex.1⟩,fun a e2=>?_⟩;cases e2;exact ⟨o,e,ex.2.1⟩
   . obtain ⟨o,_,_,_,e,ex,_⟩:=I.hok p _ hk;refine ⟨⟨o,e,ex.1⟩,fun a e2=>?_⟩;cases e2;exact ⟨o,e,ex.2.1⟩
 | _=>exact False.elim ty
def tBM (K:PySem.W.Frag) (T:String) (r:V->List V->Hp->VK->Prop) (to:TE) (t:TA):TE:=fun σ H Q=>to σ H fun x H1=>tyV K T x H1/\t σ H1 fun xs H2=>r x xs H2 Q
variable {o e:Expr} {es:List Expr} {to:TE} {t:TA} {name:Str} {apos cpos:Pos} {T id:String} {r:V->List V->Hp->VK->Prop}
theorem jox (pa:PlainAttrs T) (slot:Slot T name id) (hty:typeOf (.builtin id)=pure (.type "method_descriptor")) (hm:MtR X id r) (ho:PE X o to) (ha:PA X (e::es) t)
 (hbase:autoParam (attributeBase o name X.env (eval o X.env)=eval o X.env) QA.a4._auto_1)
 (hfew:autoParam (((backTo cpos (starEach (e::es) X.env)).all (fun x=>!x.1) && (backToKw cpos (keywordEach [] X.env)).all (fun x=>x.1.isSome)
  && decide ((e::es).length+([]:List Keyword).length+(if ([]:List Keyword).isEmpty then 0 else 1)<30))=true) QA.a4._auto_1)
 (hline:autoParam (‹"ak"›=true) QA.a4._auto_1) (hs:autoParam ‹"x"› QA.a4._auto_1) (hplain:autoParam ((backTo cpos (starEach es X.env)).any (·.1)=false) QA.a4._auto_1) :
 PE X (.Call (.Attribute o name apos) (e::es) [] cpos) (tBM X.K T r to t):=by
 intro pins s σ H Q I h;refine wpAny_Call_method_late hbase hfew hline rfl (qr (ho pins s σ H _ I h) fun v s1 zz=>?_);obtain ⟨x,H1,I1,r1,ty,q1⟩:=zz;obtain ⟨h1,h2⟩:=jqC I1 r1 ty;refine ⟨T,id,pa,slot,hty,h1,h2,?_⟩;have hA:=ha cpos pins s1 σ H1 _ I1 q1;rw [hs] at hA ⊢;refine Ks (by show (false || (backTo cpos (starEach es X.env)).any (·.1))=false;rw [hplain] <;> rfl) (ke ?_);exact qr hA fun us s2 ⟨vs,H2,I2,r2,q2⟩=>hm pins s2 σ H2 x vs v us Q I2 r1 r2 q2
end
end L2
namespace L2
open PySem PySem.Spec PyProof.Rows
def MtM (X:Cx) (id:String) (r:V->List V->Hp->VK->Prop):Prop:=
 ∀(pins:List (Addr×Obj)) (s:Shared) (σ:St) (H:Hp) (x:V) (xs:List V) (v:Value) (us:List Value) (Q:VK),Inv X pins σ H s->RelV x v->Vals xs us->r x xs H Q->
   wpAny ‹"d"› X.A (call (.builtin id) (v::us)) (EP X pins σ Q) X.xe s
theorem Vals.one:∀{x:V} {us:List Value},Vals [x] us->∃u,us=[u]/\RelV x u:=fun h=>jbM h
theorem Vals.two:∀{x y:V} {us:List Value},Vals [x,y] us->∃u v,us=[u,v]/\RelV x u/\RelV y v:=fun h=>jlN h
section
variable {X:Cx} {pins:List (Addr×Obj)} {σ:St} {H:Hp} {s:Shared} {l b:Addr} {xs ys zs:List V}
theorem Inv.lset {its its':List Value} {n:Nat} {f:Array Value->Array Value} {t':Nat} (I:Inv X pins σ H s) (hH:H l=some (.lst xs))
 (e:s.heap.get? l=some { cls:=.type "list",data:=.seq its.toArray n }) (hf:f its.toArray=its'.toArray) (hv:Vals ys its') (hz:ys.length ≤ sizeLine) :
 Inv X pins σ (upd H l (.lst ys)) { s with heap:=s.heap.update l (Obj.mapSeq f),toks:=t' }:=by
 have q:=PySem.IsL.update e f;rw [hf] at q;refine I.write (x:=l) (e:=l) (by rw [hH];exact trivial) (.inl rfl) (fun b' u hb hu=>(yo s.heap (Obj.mapSeq f) (Ne.symm hb)).trans hu) ⟨_,q⟩ ?_;exact ⟨hz,its',_,hv,q⟩
theorem Inv.lnew {its:List Value} {t':Nat} (I:Inv X pins σ H s) (hv:Vals ys its) (hz:ys.length<=sizeLine) :
 Inv X pins σ (upd H s.heap.objs.size (.lst ys)) { s with heap:=s.heap.push { cls:=.type "list",data:=.seq its.toArray },toks:=t' }:=
 I.laid (fun _ _ q=>Yh _ q) (Yq _) ⟨hz,its,0,hv,Yy _ rfl⟩
theorem Inv.fresh (I:Inv X pins σ H s):H s.heap.objs.size=none:=I.hok.fresh (Yq _)
theorem Inv.lstM (I:Inv X pins σ H s) (hH:H l=some (.lst xs)):xs.length ≤ sizeLine ∧ ∃(its:List Value) (n:Nat),Vals xs its ∧ xs.length=its.length ∧ s.heap.get? l=some { cls:=.type "list",data:=.seq its.toArray n }:=by obtain ⟨z,its,n,r,e⟩:=I.hok l _ hH;exact ⟨z,its,n,r,r.length,e⟩
end
section
variable {X:Cx}
def jeJ:V->List V->Hp->VK->Prop:=fun x vs H Q=>∃l xs y,x=.ref l/\vs=[y]/\H l=some (.lst xs)/\xs.length<sizeLine/\Q .non (upd H l (.lst (xs++[y])))
theorem jjg:MtM X "list.append" jeJ:=by intro pins s σ H x vs v us Q I rx rv h;obtain ⟨l,xs,y,rfl,rfl,hH,hz,q⟩:=h;cases rx;obtain ⟨u,rfl,ru⟩:=rv.one;obtain ⟨z,its,n,r,hl,e⟩:=I.lstM hH;refine call_meets F.slot_list_append ⟨_,e,rfl⟩ F.entry_list_append (F.args_list_append_2 _ _) (PySem.list_append l its.toArray n u (by rw [YI];omega)) ⟨e,?_⟩;refine ⟨.non,_,I.lset (its':=its++[u]) hH e (by simp) (r.append (.cons ru .nil)) ?_,rfl,q⟩;rw [YR,List.length_singleton];omega
end
section
variable {prog:Program} {w:World} {A:Around} {E:Value->Shared->Prop} {s:Shared}
end
section
variable {X:Cx}
end
end L2
namespace Att
open PySem PySem.W PySem.Calls PyProof.Rows
theorem jbY {P:Params} {h:Heap}:∀(ns:List Int) (vs:List Value),WellAll P h vs (ns.map WData.int)->IntsAre vs ns:=by
 intro ns;induction ns with
 | nil=>intro vs w;rw [yS] at w;cases w;exact .nil
 | cons n ns ih=>
   intro vs w;rw [List.map_cons] at w;cases w with
   | cons a b=>cases a;exact .cons _ _ (ih _ b)
theorem jjM {l:OpenLaw} {n:Nat} (hn:l.most=some n) {P:Params} {h:Heap} {args:List WData} {vals:List Value}
 (hpre:l.row.toRowW.claim.pre args=true) (hwl:WellAll P h vals args) :
 ∃a vs ns,vals=[Value.ref a] ∧ args=[WData.list (ns.map WData.int)] ∧ h.get? a=some { cls:=.type "list",data:=.seq vs.toArray } ∧ IntsAre vs ns ∧ ns.length ≤ n:=by
 have hsh:WShape.hasAll [] args [.list .int]=true:=(pre_splitW hpre).1;have hc:l.pre.holds [] { args:=args }=true:=(pre_splitW hpre).2;obtain ⟨d,r,rfl,h1,h2⟩:=hasAllW_cons hsh;obtain rfl:=hasAllW_nil h2;obtain ⟨xs,rfl,h3⟩:=hasW_list h1;obtain ⟨ns,rfl⟩:=items_int h3;have hlen:ns.length<=n:=by
  unfold OpenLaw.pre at hc;have h4:(WTm.not (.lt (.lit (.int (n:Int))) (.len (.arg 0)))).holds [] { args:=[.list (ns.map .int)] }=true:=by have h4:=(holds_andW hc).1;rw [hn] at h4;exact h4
  have h5:=condW_of h4 (w_not (w_lt w_lit (w_len_list (w_arg rfl))));rw [Yd] at h5;refine Nat.le_of_not_lt fun q=>?_;have q':(n:Int)<((ns.length:Nat):Int):=by omega
  first
   | (rw [YO q'] at h5;exact absurd h5 (by decide))
   | (simp at h5;omega)
 cases hwl with
 | cons w1 w2=>
   cases w2;cases w1 with
   | list ho hall=>exact ⟨_,_,ns,rfl,rfl,ho,jbY ns _ hall,hlen⟩
theorem jju (l:OpenLaw) (args:List WData):l.row.toRowW.claim.post args (.bool true) args=true:=
 postW_of (r:=l.row.toRowW) (X:=(true == true))
  (show WShape.has [] (.bool true) .bool=true by first | rfl | decide | simp [WShape.has,WShape.arms,WShape.armsAll])
  (show (WTm.eq .res (.lit (.bool true))).value [] { args:=args,res:=some (.bool true),after:=args }=some (.bool (true == true)) from w_eq_bool (w_res rfl) w_lit) rfl
theorem attach_call {l:OpenLaw} {n:Nat} {q:Program} {loose:List Str} {XP:(Str->Option Value)->Heap->Prop} {YP:World->Heap->Prop} {d:DefRec}
 (hn:l.most=some n) (hdf:d.params.defaults=[])
 (call:∀(w:World) (s₀ s₁:Shared) (mg mb:Str->Option Value) (fa:Addr) (o:Obj) (pm cd doc:Value) (a:Addr) (vs:List Value) (ns:List Int),
  Ground q loose [] XP w s₀ mg mb s₁.heap->YP w s₁.heap->
  s₁.heap.get? fa=some o->o.data=.func (docDef d.name d.params d.body d.scope pm cd doc)->s₁.heap.CodeRec cd d.name->mg d.name=some (.ref fa)->
  s₁.heap.get? a=some { cls:=.type "list",data:=.seq vs.toArray } → IntsAre vs ns → ns.length ≤ n → s₁.gens=#[] →
  codeAny (model l.prog w) callerA (.call (.ref fa) ⟨[.ref a],[]⟩) (fun r s'=>r=.ok (.ret (.bool true))/\OldK s₁.heap s'.heap/\s'.os=s₁.os/\AllBare s'.gens) s₁) :
 WalkO q loose XP YP l.row.toRowW d [] (fun f vs=>PySem.call f vs):=by
 intro w s₀ s₁ mg mb G Y fa o pm cd doc dV kV ho hd hcd hD hmg hg args vals as hpre hlay hrd hwl hlo;obtain rfl:dV=.none:=Dflts.none hD hdf;obtain rfl:kV=.none:=Dflts.noKw hD;obtain ⟨a,vs,ns,rfl,rfl,hobj,hints,hlen⟩:=jjM hn hpre hwl;refine enter_call (kD (call w s₀ s₁ mg mb fa o pm cd doc a vs ns G Y ho (fd_plain hd) hcd hmg hobj hints hlen hg) fun r s' hq=>?_);obtain ⟨rfl,h2,h3,h4⟩:=hq;exact ⟨.inl ⟨.bool true,.bool true,[],rfl,fun _=>rfl,.bool true,jju l _,fun _=>⟨List.Pairwise.nil,fun _ hm=>(nomatch hm)⟩⟩,h2,h3,h4⟩
section
variable {prog:Program} {w:World} {A:Around} {E:Value->Shared->Prop} {s:Shared} {K:Frag}
end
end Att
namespace L2
open PySem PySem.Spec PyProof.Rows
theorem jbt:∀{vs:List Value} {ns:List Int},IntsAre vs ns->Vals (ns.map V.int) vs:=fun h=>by
 induction h with
 | nil=>exact .nil
 | cons n t _ ih=>exact .cons ⟨t,rfl⟩ ih
def jqo (H:Hp):Prop:=∀b,H b=none\/∃o xs,H b=some (.frz o (.lst xs))
theorem jlx {P:Program} {w:World} {K:PySem.W.Frag} {mg mb:Str->Option Value} {CX:CXT} {k:Nat} {fa a:Addr} {fd:FuncData} {x:Str} {sp:Sp} {s₁:Shared} {vs:List Value} {ns:List Int}
 (KX:K.In s₁.heap) (hns:s₁.heap.Ns mainGlobals mg) (hb:s₁.heap.Ns builtinsNs mb) (hbb:∀x:Str,x ≠ "__name__" → mb x=bootBuiltins x) (hlim:s₁.heap.NoLimit) (hg:s₁.gens=#[])
 (ha:s₁.heap.get? a=some { cls:=.type "list",data:=.seq vs.toArray }) (hi:IntsAre vs ns) (hl:ns.length ≤ sizeLine) (hr:Room k callerA)
 (F:∀base:Heap,K.In base->base.Ns mainGlobals mg->FnOk P w K mg base CX k fa fd [x] sp) (hbind:∀(s:Shared) (u:Value),BindsTo s fd ⟨[u],[]⟩ [(x,u)])
 (hsp:∀H:Hp,jqo H->Jp K H a (ns.map V.int)->sp [.ref a] H (fun v _=>v=.bl true) fun _ _ _=>False)
 (hCX:∀H e s',CX [] H s₁ (fun _ _ _=>False) e s'->False) :
 codeAny (model P w) callerA (.call (.ref fa) ⟨[.ref a],[]⟩) ‹"aV"› s₁:=by
 have rv:=jbt hi;have lenV:=hi.length
 -- from an abstract heap in which nothing but the script may be tracked
 have core:∀H:Hp,jqo H->Jp K H a (ns.map V.int)->HOk P w H s₁.heap->(∀b,H b≠none->b=a)->(H a≠none->K.lookup a=none)->
  codeAny (model P w) callerA (.call (.ref fa) ⟨[.ref a],[]⟩) ‹"aV"› s₁:=by
  intro H hO hS hok hA hK;have base_of:∀{b:Addr} {o:Obj},s₁.heap.get? b=some o->H b=none->(jff s₁.heap H).get? b=some o:=fun e n=>jkI e n;have noA:∀{b:Addr} {o:Obj} {es:Array DictEntry} {ep:Nat},s₁.heap.get? b=some o->o.data=.dict es ep->H b=none:=fun {b o es ep} e d=>by
   cases q:H b with
   | none=>rfl
   | some u=>have e':b=a:=hA b (by rw [q];simp);subst e';rw [ha] at e;cases e;have d':Data.seq vs.toArray _=Data.dict es ep:=d;cases d'
  have nsK:∀{b:Addr} {m:Str->Option Value},s₁.heap.Ns b m->(jff s₁.heap H).Ns b m:=fun {b m} ⟨o,es,ep,e,d,r⟩=>⟨o,es,ep,base_of e (noA e d),d,r⟩;have hKb:K.In (jff s₁.heap H):=fun b o e=>base_of (KX b o e) (by
   cases q:H b with
   | none=>rfl
   | some u=>have e':b=a:=hA b (by rw [q];simp);subst e';rw [hK (by rw [q];simp)] at e;cases e)
  have hM:Mod K mg (jff s₁.heap H):=⟨hKb,nsK hns,⟨mb,nsK hb,hbb⟩,let ⟨mc,h1,h2⟩:=hlim;⟨mc,nsK h1,h2⟩⟩;have e0:Env0 P w K mg (jff s₁.heap H) callerA [] s₁ H:=⟨rfl,hM,fun b o e=>jmT e,Nat.le_of_eq (jkc _ _),trivial,fun b hb=>absurd (show b∈([]:List Addr) from hb) (by simp),hok,.of_eq hg⟩;refine kD ((F _ hKb (nsK hns)).run callerA [] s₁ H ⟨[.ref a],[]⟩ [.ref a] [.ref a] _ _ hr e0 (hbind s₁ (.ref a)) (.cons rfl .nil) (hsp H hO hS)) fun r s' h=>?_;cases r with
  | error e=>exact (hCX H e s' h).elim
  | ok fl=>
    cases fl with
    | next=>exact False.elim h
    | brk=>exact False.elim h
    | cont=>exact False.elim h
    | ret u=>
      obtain ⟨v,H',os,bare,un,hok',r',q⟩:=h;have q':v=.bl true:=q;subst q';obtain rfl:u=Value.bool true:=r';refine ⟨rfl,OldK.of_keep fun b o e=>?_,os,bare⟩;cases q:H b with
      | none=>exact un.keep b o e q (by intro z;exact absurd (show b∈([]:List Addr) from z) (by simp)) (by simp)
      | some u=>
        rcases hO b with z | ⟨ob,xs,z⟩
        . rw [q] at z;cases z
        . have z2:=un.frzs b ob _ z;obtain ⟨e1,_⟩:=hok b _ z;obtain ⟨e2,_⟩:=hok' b _ z2;rw [e] at e1;cases e1;exact e2
 cases hk:K.lookup a with
 | some o=>
   -- the script is one of the module's own objects
   have e:=KX a o hk;rw [ha] at e;cases e;refine core (fun _=>none) (fun _=>.inl rfl) (.inr ⟨_,vs.toArray,_,hk,rfl,rfl,rfl,by rw [YI,lenV];exact hl,by simpa using rv⟩) (fun b u z=>by have z':(none:Option HO)=some u:=z;cases z') (fun b z=>absurd rfl z) fun z=>absurd rfl z
 | none=>
   refine core (fun b=>if b=a then some (.frz { cls:=.type "list",data:=.seq vs.toArray } (.lst (ns.map V.int))) else none) (fun b=>?_) (.inl (.inr ⟨{ cls:=.type "list",data:=.seq vs.toArray },if_pos rfl⟩)) (fun b u z=>?_) (fun b z=>?_) fun _=>hk
   . by_cases hb:b=a
     . exact .inr ⟨_,_,if_pos hb⟩
     . exact .inl (if_neg hb)
   . by_cases hb:b=a
     . have z':=(if_pos hb).symm.trans z;cases z';subst hb;exact ⟨ha,by rw [Yd];exact hl,vs,_,rv,ha⟩
     . have z':=(if_neg hb).symm.trans z;cases z'
   . by_cases hb:b=a
     . exact hb
     . exact absurd (if_neg hb) z
end L2
namespace L2
open PySem PySem.Spec PyProof.Rows
theorem jnP {l:PySem.W.OpenLaw} {n k:Nat} {q:Program} {loose:List Str} {XP:(Str->Option Value)->Heap->Prop} {YP:World->Heap->Prop} {d:DefRec} {K:Params->PySem.W.Frag} {CX:World->CXT} {sp:World->Sp} {x:Str}
 (hn:l.most=some n) (hn2:n<=sizeLine) (hdf:d.params.defaults=[]) (hr:Room k callerA)
 (hY:∀(w:World) (h:Heap),YP w h->(K w.params).In h)
 (F:∀(w:World) (mg:Str->Option Value) (fa:Addr) (h:Heap),(K w.params).In h->h.Ns mainGlobals mg->mg d.name=some (.ref fa)->
  ∃fd:FuncData,(∀(s:Shared) (u:Value),BindsTo s fd ⟨[u],[]⟩ [(x,u)]) /\
    ∀base:Heap,(K w.params).In base->base.Ns mainGlobals mg->FnOk l.prog w (K w.params) mg base (CX w) k fa fd [x] (sp w))
 (hsp:∀(w:World) (H:Hp) (a:Addr) (ns:List Int),ns.length<=n->jqo H->Jp (K w.params) H a (ns.map V.int)->sp w [.ref a] H (fun v _=>v=.bl true) fun _ _ _=>False)
 (hCX:∀(w:World) (H:Hp) (s:Shared) (e:Value) (s':Shared),CX w [] H s (fun _ _ _=>False) e s'->False) :
 PySem.W.WalkO q loose XP YP l.row.toRowW d [] (fun f vs=>PySem.call f vs):=by
 refine Att.attach_call hn hdf fun w s₀ s₁ mg mb fa o pm cd doc a vs ns G Y ho hd hcd hmg hobj hints hlen hg=>?_;have KX:=hY w _ Y;obtain ⟨fd,hb,hF⟩:=F w mg fa _ KX G.T.g hmg;exact jlx KX G.T.g G.T.b G.T.builtins G.T.nolimit hg hobj hints (YW hlen hn2) hr hF hb (fun H hO hS=>hsp w H a ns hlen hO hS) fun H e s'=>hCX w H s₁ e s'
end L2
namespace L2
open PySem PySem.Spec PyProof.Rows
def jJ (s:Stmt):Arguments:=match s with
 | .FunctionDef _ a _ _ _ _ _ _ _ _=>a
 | _=>{ posonlyargs:=[],args:=[],vararg:=none,kwonlyargs:=[],kw_defaults:=[],kwarg:=none,defaults:=[] }
def jG (s:Stmt):List Stmt:=match s with
 | .FunctionDef _ _ b _ _ _ _ _ _ _=>b
 | _=>[]
def jd (s:Stmt):Scope:=match s with
 | .FunctionDef _ _ _ _ _ _ sc _ _ _=>sc
 | _=>{ kind:=.function,names:=[],isGenerator:=false,isCoroutine:=false }
abbrev JJ:CXT:=fun _ _ _ _ _ _=>False
abbrev E0:XK:=fun _ _ _=>False
theorem jop {X:Cx}:jhC JJ X E0:=fun _ _ _ _ _ _ _ h=>h.elim
structure Fun (K:PySem.W.Frag) (x qual:Str) (st:Stmt) (f:Addr) (fd:FuncData):Prop where
 ex:∃(oc:Value) (od:Option Addr) (kV doc pm:Value) (an:Option Addr) (cdv ct:Value) (osl:Array (Option Value)),
  fd=PySem.W.fnOf x qual (jJ st) (jG st) (jd st) .none kV doc pm an cdv ct/\K.lookup f=some ⟨oc,od,.func fd,osl⟩/\PySem.W.codeIn K cdv qual=true
 kp:PySem.W.keepIn K (.ref f)=true
section
variable {P:Program} {w:World} {K:PySem.W.Frag} {mg:Str->Option Value} {base:Heap}
theorem Fun.ok {x qual:Str} {st:Stmt} {f:Addr} {fd:FuncData} {N ps:List Str} {k:Nat} {sp:Sp} (F:Fun K x qual st f fd) (S:FnScope N ps (jd st)) (len:∀vs H Q E,sp vs H Q E->vs.length=ps.length)
 (hbody:∀(cdv:Value) (A:Around) (outer:List Env) (s:Shared) (H:Hp) (vs:List V) (Q:VK) (E:XK),Room k ‹"aG"›->sp vs H Q E->
  ∃t,PSs (jho JJ P w K mg base N qual (jd st) f cdv A outer s H E).nox (jG st) t/\t { nx:=fun _ H'=>Q .non H',rt:=Q } (jak N vs) H):FnOk P w K mg base JJ (k+1) f fd ps sp:=by
 obtain ⟨oc,od,kV,doc,pm,an,cdv,ct,osl,rfl,lk,hcd⟩:=F.ex;refine jse lk hcd S len fun A outer s H vs Q E hr hsp=>?_;obtain ⟨t,h,q⟩:=hbody cdv A outer s H vs Q E hr hsp;exact ⟨t,h.nox,q⟩
theorem Fun.binds {x qual:Str} {st:Stmt} {f:Addr} {fd:FuncData} {ps:List Str} (F:Fun K x qual st f fd)
 (h:∀(kV doc pm:Value) (an:Option Addr) (cdv ct:Value) (us:List Value),us.length=ps.length->bindArgs ‹"8"› ⟨us,[]⟩=pure (ps.zip us)):Binds K fd ps []:=by
 obtain ⟨oc,od,kV,doc,pm,an,cdv,ct,osl,rfl,lk,hcd⟩:=F.ex;exact .all (h kV doc pm an cdv ct)
theorem jR {x qual:Str} {st:Stmt} {f:Addr} {oc:Value} {od an:Option Addr} {osl:Array (Option Value)} {kV doc pm cdv ct:Value} (l:K.lookup f=some ⟨oc,od,.func ‹"8"›,osl⟩)
 (c:PySem.W.codeIn K cdv qual=true) (k:PySem.W.keepIn K (.ref f)=true):Fun K x qual st f ‹"8"›:=⟨⟨oc,od,kV,doc,pm,an,cdv,ct,osl,rfl,l,c⟩,k⟩
end
section
variable {X:Cx}
end
def Same (H H':Hp):Prop:=∀b o,H b=some o->H' b=some o
theorem Same.refl (H:Hp):Same H H:=fun _ _ h=>h
theorem Same.trans {H H1 H2:Hp} (a:Same H H1) (b:Same H1 H2):Same H H2:=fun c o h=>b c o (a c o h)
theorem Same.free {H H':Hp} (e:Same H H') {l:Addr} (h:H' l=Option.none):H l=Option.none:=by
 cases q:H l with
 | none=>rfl
 | some o=>rw [e l o q] at h;cases h
theorem Same.seq {K:PySem.W.Frag} {H H':Hp} {a:Addr} {xs:List V} (e:Same H H') (h:Jp K H a xs):Jp K H' a xs:=by
 rcases h with (h | ⟨o,h⟩) | h
 . exact .inl (.inl (e _ _ h))
 . exact .inl (.inr ⟨o,e _ _ h⟩)
 . exact .inr h
end L2
namespace L2
open PySem PySem.Spec PyProof.Rows
section
variable {κ:Type} [DecidableEq κ]
def ja2 (kvs:List (κ×V)) (k:κ):Option V:=(kvs.find? fun kv=>decide (kv.1=k)).map (·.2)
def Z9 (kvs:List (κ×V)) (k:κ) (v:V):List (κ×V):=if (kvs.any fun kv=>decide (kv.1=k))=true then kvs.map (fun kv=>if kv.1=k then (kv.1,v) else kv) else kvs++[(k,v)]
theorem jbc {p:κ×V} {r:List (κ×V)} {k:κ} (e:p.1=k):ja2 (p::r) k=some p.2:=by simp [ja2,Ku,e]
theorem ja0 {p:κ×V} {r:List (κ×V)} {k:κ} (e:¬p.1=k):ja2 (p::r) k=ja2 r k:=by simp [ja2,Ku,e]
theorem jfH (k:κ):∀kvs:List (κ×V),(kvs.any fun kv=>decide (kv.1=k))=(ja2 kvs k).isSome
 | []=>rfl
 | p::r=>by
   rw [List.any_cons];by_cases e:p.1=k
   . simp only [jbc e,YO e,Bool.true_or,Option.isSome_some]
   . rw [ja0 e,YV e,Bool.false_or];exact jfH k r
theorem ZH (kvs:List (κ×V)) (k:κ) (v:V):(Z9 kvs k v).length<=kvs.length+1:=by
 unfold Z9;split
 . rw [Yd];omega
 . rw [YR,YA,ya];omega
theorem RelO.isSome_eq {o:Option V} {u:Option Value} (r:RelO o u):o.isSome=u.isSome:=by
 cases o with
 | none=>cases u with
   | none=>rfl
   | some _=>exact (show False from r).elim
 | some _=>cases u with
   | none=>exact (show False from r).elim
   | some _=>rfl
theorem RelO.getD {o:Option V} {u:Option Value} {d:V} {d':Value} (r:RelO o u) (rd:RelV d d'):RelV (o.getD d) (u.getD d'):=by
 cases o with
 | none=>cases u with
   | none=>exact rd
   | some _=>exact (show False from r).elim
 | some _=>cases u with
   | none=>exact (show False from r).elim
   | some _=>exact r
theorem KV.val {kvs:List (κ×V)} {vs:List (κ×Value)} (r:KV kvs vs) (k:κ):RelO (ja2 kvs k) (valueAt vs k):=by
 unfold KV at r;induction r with
 | nil=>exact True.intro
 | @cons p q ps qs h t ih=>
   obtain ⟨h1,h2⟩:=h;by_cases e:p.1=k
   . have e':q.1=k:=h1.symm.trans e;have b:valueAt (q::qs) k=some q.2:=by simp [valueAt,Ku,e']
     rw [jbc e,b];exact h2
   . have e':¬q.1=k:=fun z=>e (h1.trans z);have b:valueAt (q::qs) k=valueAt qs k:=by simp [valueAt,Ku,e']
     rw [ja0 e,b];exact ih
theorem KV.any {kvs:List (κ×V)} {vs:List (κ×Value)} (r:KV kvs vs) (k:κ):(kvs.any fun kv=>decide (kv.1=k))=vs.any fun kv=>decide (kv.1=k):=by
 unfold KV at r;induction r with
 | nil=>rfl
 | cons h t ih=>rw [List.any_cons,List.any_cons,ih,h.1]
theorem KV.repl {kvs:List (κ×V)} {vs:List (κ×Value)} (r:KV kvs vs) (k:κ) {y:V} {u:Value} (ry:RelV y u) :
 KV (kvs.map fun kv=>if kv.1=k then (kv.1,y) else kv) (vs.map fun kv=>if kv.1=k then (kv.1,u) else kv):=by
 unfold KV at r ⊢;induction r with
 | nil=>exact .nil
 | @cons p q ps qs h t ih=>
   rw [List.map_cons,List.map_cons];refine .cons ?_ ih;obtain ⟨h1,h2⟩:=h;by_cases e:p.1=k
   . rw [if_pos e,if_pos (h1.symm.trans e)];exact ⟨h1,ry⟩
   . rw [if_neg e,if_neg (fun z=>e (h1.trans z))];exact ⟨h1,h2⟩
theorem KV.put {kvs:List (κ×V)} {vs:List (κ×Value)} (r:KV kvs vs) (k:κ) {y:V} {u:Value} (ry:RelV y u):KV (Z9 kvs k y) (stored vs k u):=by
 unfold Z9 stored;rw [r.any k];by_cases e:(vs.any fun kv=>decide (kv.1=k))=true
 . rw [if_pos e,if_pos e];exact r.repl k ry
 . rw [if_neg e,if_neg e];exact Paired.snoc r ⟨rfl,ry⟩
theorem KV.length {kvs:List (κ×V)} {vs:List (κ×Value)} (r:KV kvs vs):kvs.length=vs.length:=Paired.length r
end
theorem jbS {P:Program} {w:World} {k:zw} {u:Value} (r:RelV (kV k) u):(jT P w).is k u=true:=by
 cases k with
 | inl i=>obtain ⟨t,e⟩:=(show ∃t,u=Value.int i t from r);subst e;exact jgb P w i t
 | inr x=>obtain ⟨t,e⟩:=(show ∃t,u=Value.str x t from r);subst e;exact jgc P w x t
theorem jec {P:Program} {w:World}:∀{ks:List zw} {us:List Value},Vals (ks.map kV) us->ItemsAre (jT P w) ks us
 | [],_,r=>by rw [yS] at r;cases r;exact .nil
 | k::ks,_,r=>by
   rw [List.map_cons] at r;cases r with
   | cons h t=>exact .cons (jbS h) (jec t)
abbrev KT (H:Hp):List (List zw×V)->List (List zw×Addr×Value)->Prop:=Paired fun p q=>p.1=q.1/\H q.2.1=some (.tup (p.1.map kV))/\RelV p.2 q.2.2
theorem KT.val {H:Hp} {kvs:List (List zw×V)} {xs:List (List zw×Addr×Value)} (r:KT H kvs xs) (k:List zw):RelO (ja2 kvs k) ((atKey xs k).map (·.2)):=by
 induction r with
 | nil=>exact True.intro
 | @cons p q ps qs h t ih=>
   obtain ⟨h1,_,h2⟩:=h;by_cases e:p.1=k
   . have e':q.1=k:=h1.symm.trans e;have b:atKey (q::qs) k=some q.2:=by simp [atKey,Ku,e']
     rw [jbc e,b];exact h2
   . have e':¬q.1=k:=fun z=>e (h1.trans z);have b:atKey (q::qs) k=atKey qs k:=by simp [atKey,Ku,e']
     rw [ja0 e,b];exact ih
theorem KT.repl {H:Hp} {kvs:List (List zw×V)} {xs:List (List zw×Addr×Value)} (r:KT H kvs xs) (k:List zw) {y:V} {u:Value} (ry:RelV y u) :
 KT H (kvs.map fun kv=>if kv.1=k then (kv.1,y) else kv) (xs.map (putAt k u)):=by
 induction r with
 | nil=>exact .nil
 | @cons p q ps qs h t ih=>
   rw [List.map_cons,List.map_cons];refine .cons ?_ ih;obtain ⟨h1,h2,h3⟩:=h;unfold putAt;by_cases e:p.1=k
   . rw [if_pos e,if_pos (h1.symm.trans e)];exact ⟨h1,h2,ry⟩
   . rw [if_neg e,if_neg (fun z=>e (h1.trans z))];exact ⟨h1,h2,h3⟩
theorem KT.put {H:Hp} {kvs:List (List zw×V)} {xs:List (List zw×Addr×Value)} (r:KT H kvs xs) (k:List zw) {b:Addr} {y:V} {u:Value} (hb:H b=some (.tup (k.map kV))) (ry:RelV y u) :
 KT H (Z9 kvs k y) (storedH xs k b u):=by
 have e:(kvs.any fun kv=>decide (kv.1=k))=(atKey xs k).isSome:=by rw [jfH,(r.val k).isSome_eq,Option.isSome_map]
 unfold Z9 storedH;rw [e];by_cases q:(atKey xs k).isSome=true
 . rw [if_pos q,if_pos q];exact r.repl k ry
 . rw [if_neg q,if_neg q];exact Paired.snoc r ⟨rfl,hb,ry⟩
theorem KT.keeps {H H':Hp} {kvs:List (List zw×V)} {xs:List (List zw×Addr×Value)} (r:KT H kvs xs) (ht:∀b ys,H b=some (.tup ys)->H' b=some (.tup ys)):KT H' kvs xs:=Paired.mapP r fun _ _ z=>⟨z.1,ht _ _ z.2.1,z.2.2⟩
section
variable {P:Program} {w:World} {H:Hp} {h:Heap} {a:Addr}
theorem joP {u:HO} (ok:HOk P w H h) (e:Rd H a u):ObjOk P w H h a u:=e.ok ok
theorem QP {kvs:List (zw×V)} (ok:HOk P w H h) (e:Rd H a (.dK kvs)):kvs.length<=sizeLine/\(a == sysModules)=false/\∃vs,KV kvs vs/\h.DictOf (jT P w) a vs:=show ObjOk P w H h a (.dK kvs) from joP ok e
theorem joK {kvs:List (zw×V)} (ok:HOk P w H h) (e:H a=some (.dK kvs)):kvs.length<=sizeLine/\(a == sysModules)=false/\∃vs,KV kvs vs/\h.DictOf (jT P w) a vs:=QP ok (.inl e)
theorem Jq {ks:List zw} (ok:HOk P w H h) (e:H a=some (.tup (ks.map kV))):(tupleKind (jT P w)).is h ks a:=by obtain ⟨_,its,r,o,h1,h2,n,h3⟩:=(show ObjOk P w H h a (.tup (ks.map kV)) from ok a _ e);exact ⟨o,its.toArray,n,h1,h2,h3,by simpa using jec r⟩
theorem jbX {kvs:List (List zw×V)} (ok:HOk P w H h) (e:Rd H a (.dT kvs)):kvs.length<=sizeLine/\(a == sysModules)=false /\
 ∃xs,KT H kvs xs/\h.DictOfH (tupleKind (jT P w)) a xs:=by
 obtain ⟨z,y,xs,r,o,es,ep,h1,h2,h3,h4,h5⟩:=(show ObjOk P w H h a (.dT kvs) from joP ok e);refine ⟨z,y,xs,r,o,es,ep,h1,h2,h3,h4,fun x hx=>?_,h5⟩;have all:∀{l:List (List zw×V)} {m:List (List zw×Addr×Value)},KT H l m->∀x∈m,(tupleKind (jT P w)).is h x.1 x.2.1:=by
  intro l m q;induction q with
  | nil=>intro x hx;exact nomatch hx
  | @cons p q ps qs hq t ih=>
    intro x hx;rcases Yn.mp hx with e | hx
    . subst e;exact Jq ok (by rw [<-hq.1];exact hq.2.1)
    . exact ih x hx
 exact all r x hx
theorem jsE {kvs:List (List zw×V)} (ok:HOk P w H h) (e:H a=some (.dT kvs)):kvs.length<=sizeLine/\(a == sysModules)=false /\
 ∃xs,KT H kvs xs/\h.DictOfH (tupleKind (jT P w)) a xs:=jbX ok (.inl e)
end
def jdO (H:Hp) (a:Addr) (y:V) (r:Option V):Prop:=(∃kvs k,Rd H a (.dK kvs)/\y=kV k/\r=ja2 kvs k)\/∃kvs k b,Rd H a (.dT kvs)/\y=.ref b/\H b=some (.tup (k.map kV))/\r=ja2 kvs k
def jsz (H:Hp) (a:Addr) (y v:V) (H':Hp):Prop:=
 (∃kvs k,H a=some (.dK kvs)/\y=kV k/\kvs.length<sizeLine/\H'=upd H a (.dK (Z9 kvs k v))) \/
 ∃kvs k b,H a=some (.dT kvs)/\y=.ref b/\H b=some (.tup (k.map kV))/\kvs.length<sizeLine/\H'=upd H a (.dT (Z9 kvs k v))
section
variable {X:Cx} {pins:List (Addr×Obj)} {σ:St} {H:Hp} {s:Shared} {a:Addr} {y v:V} {u r:Value} {o:Option V} {A:Around} {E:Value->Shared->Prop}
theorem Inv.big (I:Inv X pins σ H s):sysModules<s.heap.objs.size:=by have h:mainGlobals<s.heap.objs.size:=(I.mod.glob.keeps I.bk).lt;exact yK (by decide) h
theorem jjj {Q:Value->Shared->Prop} (hu:A.units+1<cLine) (I:Inv X pins σ H s) (g:jdO H a y (some v)) (ry:RelV y u) (h:∀w' s',Inv X pins σ H s'->RelV v w'->Q w' s') :
 wpAny ‹"d"› A (getItem (.ref a) u) Q E s:=by
 rcases g with ⟨kvs,k,e,ey,l⟩ | ⟨kvs,k,b,e,ey,eb,l⟩
 . subst ey;obtain ⟨z,hd,vs,rel,dd⟩:=QP I.hok e;obtain ⟨w',hw,rw'⟩:=RelO.some_of (v:=v) (o:=valueAt vs k) (by rw [l];exact rel.val k);exact wpAny_getItem_of (jbS ry) dd.mapOf hw (h w' _ (I.tok _) rw')
 . subst ey;cases (show u=Value.ref b from ry);obtain ⟨z,hd,xs,rel,dd⟩:=jbX I.hok e;obtain ⟨w',hw,rw'⟩:=RelO.some_of (v:=v) (o:=(atKey xs k).map (·.2)) (by rw [l];exact rel.val k);obtain ⟨p,hp,hp2⟩:=Option.map_eq_some_iff.mp hw;refine wpAny_getItem_heap (Kc hu) (Jq I.hok eb) dd hp ?_;rw [hp2];exact h w' _ (I.tok _) rw'
theorem jth {Q:Value->Shared->Prop} (hu:A.units+1<cLine) (I:Inv X pins σ H s) (g:jdO H a y o) (ry:RelV y u) (h:∀s',Inv X pins σ H s'->Q (.bool o.isSome) s') :
 wpAny ‹"d"› A (compareOp .In u (.ref a)) Q E s:=by
 rcases g with ⟨kvs,k,e,ey,l⟩ | ⟨kvs,k,b,e,ey,eb,l⟩
 . subst ey;obtain ⟨z,hd,vs,rel,dd⟩:=QP I.hok e;refine wpAny_in_of (jbS ry) hd dd.mapOf ?_;rw [<-(rel.val k).isSome_eq,<- l];exact h _ (I.tok _)
 . subst ey;cases (show u=Value.ref b from ry);obtain ⟨z,hd,xs,rel,dd⟩:=jbX I.hok e;refine wpAny_in_heap (Kc hu) (Jq I.hok eb) hd dd ?_;have q:=(rel.val k).isSome_eq;rw [Option.isSome_map] at q;rw [<-q,<- l];exact h _ (I.tok _)
theorem jn5 {Q:Value->Shared->Prop} (hu:A.units+1<cLine) (I:Inv X pins σ H s) (g:jdO H a y o) (ry:RelV y u) (h:∀s',Inv X pins σ H s'->Q (.bool (!o.isSome)) s') :
 wpAny ‹"d"› A (compareOp .NotIn u (.ref a)) Q E s:=by
 rcases g with ⟨kvs,k,e,ey,l⟩ | ⟨kvs,k,b,e,ey,eb,l⟩
 . subst ey;obtain ⟨z,hd,vs,rel,dd⟩:=QP I.hok e;refine wpAny_notIn_of (jbS ry) hd dd.mapOf ?_;rw [<-(rel.val k).isSome_eq,<- l];exact h _ (I.tok _)
 . subst ey;cases (show u=Value.ref b from ry);obtain ⟨z,hd,xs,rel,dd⟩:=jbX I.hok e;refine wpAny_notIn_heap (Kc hu) (Jq I.hok eb) hd dd ?_;have q:=(rel.val k).isSome_eq;rw [Option.isSome_map] at q;rw [<-q,<- l];exact h _ (I.tok _)
theorem jeG {h':Heap} {t':Nat} {ob:HO} (I:Inv X pins σ H s) (mu:Mut (H a)) (hs:Heap.SameBut a s.heap h') (he:∃q,h'.get? a=some q) (new:ObjOk X.prog X.w (upd H a ob) h' a ob) :
 Inv X pins σ (upd H a ob) { s with heap:=h',toks:=t' }:=
 I.write (x:=a) (e:=a) mu (.inl rfl) (fun b q hb z=>(hs.2 b hb).trans z) he new
theorem jh0 {P:Program} {w:World} {H':Hp} {h':Heap} {kvs:List (zw×V)} {vs:List (zw×Value)} (z:kvs.length<=sizeLine) (hd:(a == sysModules)=false) (rel:KV kvs vs) (dd:h'.DictOf (jT P w) a vs) :
 ObjOk P w H' h' a (.dK kvs):=⟨z,hd,vs,rel,dd⟩
theorem jjS {H':Hp} {Q:Unit->Shared->Prop} (hu:A.units+1<cLine) (I:Inv X pins σ H s) (g:jsz H a y v H') (ry:RelV y u) (rv:RelV v r) (h:∀s',Inv X pins σ H' s'->Q () s') :
 wpAny ‹"d"› A (setItem (.ref a) u r) Q E s:=by
 rcases g with ⟨kvs,k,e,ey,l,eH⟩ | ⟨kvs,k,b,e,ey,eb,l,eH⟩
 . subst ey eH;obtain ⟨z,hd,vs,rel,dd⟩:=joK I.hok e;have hz:vs.length<=sizeLine:=by rw [<-rel.length];exact z
   have hl:(Z9 kvs k v).length<=sizeLine:=by have:=ZH kvs k v;omega
   refine wpAny_setItem_pairs (hsz:=hz) (jbS ry) dd fun h' dd' hs=>h _ ?_;have he:∃q,h'.get? a=some q:=let ⟨q,_,_,hq,_⟩:=dd';⟨q,hq⟩;exact jeG I (by rw [e];exact True.intro) hs he (jh0 hl hd (rel.put k rv) dd')
 . subst ey eH;cases (show u=Value.ref b from ry);obtain ⟨z,hd,xs,rel,dd⟩:=jsE I.hok e;have hz:xs.length<=sizeLine:=by rw [<-Paired.length rel];exact z
   have hl:(Z9 kvs k v).length<=sizeLine:=by have:=ZH kvs k v;omega
   refine wpAny_setItem_heap (hsz:=hz) (Kc hu) (Jq I.hok eb) dd fun h' dd' hs=>h _ ?_;obtain ⟨q,es,ep,hq,h2,h3,h4,_,h5⟩:=dd';refine jeG I (by rw [e];exact True.intro) hs ⟨q,hq⟩ ⟨hl,hd,_,(rel.put k eb rv).keeps fun c ys ec=>?_,q,es,ep,hq,h2,h3,h4,h5⟩;rw [jC (jsr ec e (fun z=>nomatch z))];exact ec
end
section
variable {X:Cx} {pins:List (Addr×Obj)} {σ:St} {H:Hp} {s:Shared} {a:Addr} {kvs:List (zw×V)} {k:zw} {u:Value} {A:Around} {E:Value->Shared->Prop}
end
def jp6 (i:Expr):Prop:=∀ov iv,subscripted i false ov iv=operate [ov,iv] (getItem ov iv)
theorem jnv {prog:Program} {w:World} {A:Around} {E:Value->Shared->Prop} {s:Shared} {env:Env} {value slice:Expr} {pos:Pos} {T id:String} {Q:Value->Shared->Prop}
 (hl:typeLookup (.type T) "__getitem__"=pure (some (.builtin id))) (hs:jp6 slice)
 (h:wpAny (model prog w) A (eval value env) (fun o s₁=>wpAny (model prog w) A (eval slice env) (fun i s₂=>s₂.TypeIs o T/\wpAny (model prog w) A (getItem o i) Q E s₂) E s₁) E s) :
 wpAny (model prog w) A (eval (.Subscript value slice pos) env) Q E s:=by
 refine Subscript_ (yj h (fun o s₁ h₁=>yj h₁ (fun i s₂ h₂=>?_) fun _ _ x=>x) fun _ _ x=>x);obtain ⟨hT,h₂⟩:=h₂;unfold subscriptTail;refine Yb ?_;rw [getitemInPython_of_ne hT.not_modules];refine Yb (yW hT hl ?_);have fin:wpAny (model prog w) A (subscripted slice false o i) (fun r s₃=>wpAny (model prog w) A (letTemporaryGo value o r >>= fun _=>pure r) Q E s₃) E s₂:=by rw [hs o i];exact wpAny_operating (yj h₂ (fun r s₃ h₃=>Yb (wpAny_letTemporaryGo (Yj h₃))) fun _ _ x=>x)
 first
  | exact Yj (Yb fin)
  | exact Yb (Yj (Yb fin))
  | exact Yb fin
theorem jfN {X:Cx} {pins:List (Addr×Obj)} {σ:St} {H:Hp} {s:Shared} {a:Addr} {y:V} {o:Option V} (I:Inv X pins σ H s) (g:jdO H a y o):s.TypeIs (.ref a) "dict":=by
 rcases g with ⟨kvs,k,e,_,_⟩ | ⟨kvs,k,b,e,_,_,_⟩
 . obtain ⟨_,_,vs,_,dd⟩:=QP I.hok e;exact dd.typeIs
 . obtain ⟨_,_,xs,_,dd⟩:=jbX I.hok e;exact dd.typeIs
def joH (td ty:TE):TE:=fun σ H Q=>td σ H fun x H1=>ty σ H1 fun y H2=>∃a v,x=.ref a/\jdO H2 a y (some v)/\Q v H2
def joQ (td ty tv:TE):TS:=fun D σ H=>tv σ H fun v H1=>td σ H1 fun x H2=>ty σ H2 fun y H3=>∃a H4,x=.ref a/\jsz H3 a y v H4/\D.nx σ H4
section
variable {X:Cx} {o i e value:Expr} {pos pos' tpos:Pos} {td ty tv:TE}
theorem jnc (hu:X.A.units+1<cLine) (ho:PE X o td) (hi:PE X i ty) (hs:jp6 i):PE X (.Subscript o i pos) (joH td ty):=by intro pins s σ H Q I h;refine jnv PySem.F.slot_dict_getitem.lookup hs (qr (ho pins s σ H _ I h) fun u s1 ⟨x,H1,I1,rx,q1⟩=>qr (hi pins s1 σ H1 _ I1 q1) fun iv s2 zz=>?_);obtain ⟨y,H2,I2,ry,a,v,ex,g,q2⟩:=zz;subst ex;obtain rfl:u=Value.ref a:=rx;exact ⟨jfN I2 g,jjj hu I2 g ry fun w' s3 I3 rw'=>⟨v,H2,I3,rw',q2⟩⟩
theorem jnf (hu:X.A.units+1<cLine) (ho:PE X o td) (hi:PE X i ty) (hv:PE X value tv) (hs:swapsWith value (some (.Subscript o i pos')) pos.line X.env=pure false) :
 PS X (.Assign [.Subscript o i pos'] value pos) (joQ td ty tv):=by
 intro pins s σ H D I h;refine wpAny_Assign_Subscript (qr (hv pins s σ H _ I h) fun r s1 ⟨v,H1,I1,rv,q1⟩=>qr (ho pins s1 σ H1 _ I1 q1) fun u s2 ⟨x,H2,I2,rx,q2⟩=>qr (hi pins s2 σ H2 _ I2 q2) fun iv s3 zz=>?_) hs;obtain ⟨y,H3,I3,ry,a,H4,ex,g,q3⟩:=zz;subst ex;obtain rfl:u=Value.ref a:=rx;exact jjS hu I3 g ry rv fun s4 I4=>⟨σ,H4,I4,q3⟩
end
theorem jfW {P:Program} {w:World} {H:Hp} (h:Heap) (hb:sysModules<h.objs.size):ObjOk P w H (h.push { cls:=.type "dict",data:=.dict #[] }) h.objs.size (.dK []):=⟨ye _,Ko.mpr (Ne.symm (Yv hb)),[],.nil,Heap.DictOf.new h⟩
def jlY:TE:=fun _ H Q=>∀p,H p=none->Q (.ref p) (upd H p (.dK []))
section
variable {X:Cx} {pos:Pos}
theorem jkO:PE X (.Dict [] [] pos) jlY:=fun pins s σ H Q I h=>wpAny_Dict_empty ⟨.ref s.heap.objs.size,_,I.laid (a:=s.heap.objs.size) (o:=.dK []) (t':=s.toks) (fun _ _ q=>Yh _ q) (Yq _) (jfW s.heap I.big),rfl,h _ (I.hok.fresh (Yq _))⟩
end
def jh1:List (TE×TE)->St->Hp->(List (V×V)->Hp->Prop)->Prop
 | [],_,H,Q=>Q [] H
 | (tk,tv)::r,σ,H,Q=>tk σ H fun x H1=>tv σ H1 fun y H2=>jh1 r σ H2 fun ps H3=>Q ((x,y)::ps) H3
abbrev VV:List (V×V)->List (Value×Value)->Prop:=Paired fun p q=>RelV p.1 q.1/\RelV p.2 q.2
def PPs (X:Cx) (pos:Pos) (keys:List (Option Expr)) (values:List Expr) (trs:List (TE×TE)):Prop:=
 ∀(pins:List (Addr×Obj)) (s:Shared) (σ:St) (H:Hp) (Q:List (V×V)->Hp->Prop),Inv X pins σ H s->jh1 trs σ H Q->
   wpAny ‹"d"› X.A (evalPairs (pairTrees keys values X.env pos)) (fun vs s'=>∃ps H',Inv X pins σ H' s'/\VV ps vs/\Q ps H') X.xe s
theorem jnX {X:Cx} {pos:Pos}:PPs X pos [] [] []:=fun pins s σ H Q I h=>pairTrees_nil_walk ⟨[],H,I,.nil,h⟩
theorem jmg {X:Cx} {pos:Pos} {k v:Expr} {ks:List (Option Expr)} {vs:List Expr} {tk tv:TE} {trs:List (TE×TE)} (hk:PE X k tk) (hv:PE X v tv) (hr:PPs X pos ks vs trs) :
 PPs X pos (some k::ks) (v::vs) ((tk,tv)::trs):=fun pins s σ H Q I h=>
 pairTrees_cons_walk (qr (hk pins s σ H _ I h) fun u s1 ⟨x,H1,I1,rx,q1⟩=>qr (hv pins s1 σ H1 _ I1 q1) fun w2 s2 ⟨y,H2,I2,ry,q2⟩=>qr (hr pins s2 σ H2 _ I2 q2) fun ws s3 ⟨ps,H3,I3,rel,q3⟩=>⟨(x,y)::ps,H3,I3,.cons ⟨rx,ry⟩ rel,q3⟩)
def jcn (kvs more:List (zw×V)):List (zw×V):=more.foldl (fun acc kv=>Z9 acc kv.1 kv.2) kvs
theorem KV.merge:∀{more:List (zw×V)} {rs:List (zw×Value)} {kvs:List (zw×V)} {vs:List (zw×Value)},KV more rs->KV kvs vs->KV (jcn kvs more) (merged vs rs):=by
 intro more rs kvs vs r;unfold KV at r;induction r generalizing kvs vs with
 | nil=>intro q;exact q
 | @cons p q ps qs h t ih=>
   intro r0;have e:KV (Z9 kvs p.1 p.2) (stored vs q.1 q.2):=by have:=r0.put p.1 h.2;rw [<-h.1];exact this
   exact ih e
theorem jac:∀(more kvs:List (zw×V)),(jcn kvs more).length<=kvs.length+more.length
 | [],kvs=>by show kvs.length<=kvs.length+0;omega
 | p::r,kvs=>by have h1:=jac r (Z9 kvs p.1 p.2);have h2:=ZH kvs p.1 p.2;show (jcn (Z9 kvs p.1 p.2) r).length<=_;rw [YA];omega
theorem jcY {P:Program} {w:World}:∀{kvs:List (zw×V)} {ws:List (Value×Value)},VV (kvs.map fun kv=>(kV kv.1,kv.2)) ws->∃rs,Carries (jT P w) ws rs/\KV kvs rs
 | [],_,r=>by rw [yS] at r;cases r;exact ⟨[],True.intro,.nil⟩
 | p::kvs,_,r=>by
   rw [List.map_cons] at r;cases r with
   | @cons a b as bs h t=>obtain ⟨rs,c,q⟩:=jcY (P:=P) (w:=w) t;obtain ⟨b1,b2⟩:=b;exact ⟨(p.1,b2)::rs,⟨jbS h.1,rfl,c⟩,.cons ⟨rfl,h.2⟩ q⟩
def jn8 (trs:List (TE×TE)):TE:=fun σ H Q=>∀p,H p=none->jh1 trs σ (upd H p (.dK [])) fun ps H2=>H2 p=some (.dK [])/\∃kvs:List (zw×V),ps=kvs.map (fun kv=>(kV kv.1,kv.2))/\kvs.length<=15/\Q (.ref p) (upd H2 p (.dK (jcn [] kvs)))
theorem jn6 {X:Cx} {pos:Pos} {keys:List (Option Expr)} {values:List Expr} {trs:List (TE×TE)} (h:PPs X pos keys values trs) (hall:keys.all (·.isSome)=true) (hl:keys.length=values.length) (h0:keys≠[])
 (h15:keys.length<=15):PE X (.Dict keys values pos) (jn8 trs):=by
 intro pins s σ H Q I q;have hn:=I.hok.fresh (Yq s.heap.objs.size);have I1:=I.laid (a:=s.heap.objs.size) (o:=.dK []) (h':=s.heap.push { cls:=.type "dict",data:=.dict #[] }) (t':=s.toks) (fun _ _ q=>Yh _ q) (Yq _) (jfW s.heap I.big);refine wpAny_Dict_walk (knd:=jT X.prog X.w) hall hl h0 h15 (qr (h pins _ σ _ _ I1 (q _ hn)) fun ws s2 zz=>?_);obtain ⟨ps,H2,I2,rel,e,kvs,ep,lk,q2⟩:=zz;subst ep;obtain ⟨rs,c,rk⟩:=jcY (P:=X.prog) (w:=X.w) rel;obtain ⟨z,hd,vs0,r0,dd⟩:=joK I2.hok e;cases r0;refine ⟨rs,c,dd,fun h' dd' hs=>⟨.ref s.heap.objs.size,_,?_,rfl,q2⟩⟩;have hz:(jcn [] kvs).length<=sizeLine:=by have h1:=jac kvs [];rw [ya] at h1;rw [KF];omega
 have he:∃q,h'.get? s.heap.objs.size=some q:=let ⟨q,_,_,hq,_⟩:=dd';⟨q,hq⟩;exact jeG I2 (by rw [e];exact True.intro) hs he (jh0 hz hd (rk.merge .nil) dd')
structure M1 (X:Cx) (o:Expr) (m:Str) (apos:Pos) (e:Expr) (cpos:Pos):Prop where
 base:attributeBase o m X.env (eval o X.env)=eval o X.env
 few:((backTo cpos (starEach [e] X.env)).all (fun x=>!x.1) && (backToKw cpos (keywordEach [] X.env)).all (fun x=>x.1.isSome)
  && decide (([e]:List Expr).length+([]:List Keyword).length+(if ([]:List Keyword).isEmpty then 0 else 1)<30))=true
 line:‹"ak"›=true
 trees:backTo cpos (starEach [e] X.env)=[(false,eval e X.env)]
structure M2 (X:Cx) (o:Expr) (m:Str) (apos:Pos) (e f:Expr) (cpos:Pos):Prop where
 base:attributeBase o m X.env (eval o X.env)=eval o X.env
 few:((backTo cpos (starEach [e,f] X.env)).all (fun x=>!x.1) && (backToKw cpos (keywordEach [] X.env)).all (fun x=>x.1.isSome)
  && decide (([e,f]:List Expr).length+([]:List Keyword).length+(if ([]:List Keyword).isEmpty then 0 else 1)<30))=true
 line:‹"ak"›=true
 trees:backTo cpos (starEach [e,f] X.env)=[(false,eval e X.env),(false,eval f X.env)]
def IsD (H:Hp) (a:Addr):Prop:=(∃kvs,Rd H a (.dK kvs))\/∃kvs,Rd H a (.dT kvs)
theorem jhM {X:Cx} {pins:List (Addr×Obj)} {σ:St} {H:Hp} {s:Shared} {a:Addr} (I:Inv X pins σ H s) (d:IsD H a) :
 s.TypeIs (.ref a) "dict" ∧ (∀b,Value.ref a=.ref b → ∃ob,s.heap.get? b=some ob ∧ ob.dict=none) ∧ (a == sysModules)=false:=by
 rcases d with ⟨kvs,e⟩ | ⟨kvs,e⟩
 . obtain ⟨_,hd,vs,_,dd⟩:=QP I.hok e;refine ⟨dd.typeIs,fun b q=>?_,hd⟩;cases q;obtain ⟨ob,_,_,h1,h2,_⟩:=dd;exact ⟨ob,h1,h2.2.1⟩
 . obtain ⟨_,hd,xs,_,dd⟩:=jbX I.hok e;refine ⟨dd.typeIs,fun b q=>?_,hd⟩;cases q;obtain ⟨ob,_,_,h1,h2,_⟩:=dd;exact ⟨ob,h1,h2.2.1⟩
section
variable {X:Cx} {pins:List (Addr×Obj)} {σ:St} {H:Hp} {s:Shared} {a:Addr} {y d:V} {u r:Value} {o:Option V} {A:Around} {E:Value->Shared->Prop}
theorem jqF {Q:Value->Shared->Prop} (hu:A.units+1<cLine) (I:Inv X pins σ H s) (g:jdO H a y o) (ry:RelV y u) (h:∀w' s',Inv X pins σ H s'->RelV (o.getD .non) w'->Q w' s') :
 wpAny ‹"d"› A (call (.builtin "dict.get") [.ref a,u]) Q E s:=by
 rcases g with ⟨kvs,k,e,ey,l⟩ | ⟨kvs,k,b,e,ey,eb,l⟩
 . subst ey;obtain ⟨z,hd,vs,rel,dd⟩:=QP I.hok e;refine K2 yz dd.typeIs y9 (KP _ _) (meets_dict_get (jT X.prog X.w) a (jbS ry) hd) ⟨_,dd.mapOf,h _ _ (I.tok _) ?_⟩;rw [l];exact (rel.val k).getD rfl
 . subst ey;cases (show u=Value.ref b from ry);obtain ⟨z,hd,xs,rel,dd⟩:=jbX I.hok e;refine K2 yz dd.typeIs y9 (KP _ _) (meetsH_dict_get (tupleKind (jT X.prog X.w)) a b hd) ⟨Kc hu,k,xs,Jq I.hok eb,dd,h _ _ (I.tok _) ?_⟩;rw [l];exact (rel.val k).getD rfl
theorem jpQ {Q:Value->Shared->Prop} (hu:A.units+1<cLine) (I:Inv X pins σ H s) (g:jdO H a y o) (ry:RelV y u) (rd:RelV d r) (h:∀w' s',Inv X pins σ H s'->RelV (o.getD d) w'->Q w' s') :
 wpAny ‹"d"› A (call (.builtin "dict.get") [.ref a,u,r]) Q E s:=by
 rcases g with ⟨kvs,k,e,ey,l⟩ | ⟨kvs,k,b,e,ey,eb,l⟩
 . subst ey;obtain ⟨z,hd,vs,rel,dd⟩:=QP I.hok e;refine K2 yz dd.typeIs y9 (PySem.F.args_dict_get_3 _ _ _) (meets_dict_get_default (jT X.prog X.w) a (jbS ry) hd r) ⟨_,dd.mapOf,h _ _ (I.tok _) ?_⟩;rw [l];exact (rel.val k).getD rd
 . subst ey;cases (show u=Value.ref b from ry);obtain ⟨z,hd,xs,rel,dd⟩:=jbX I.hok e;refine K2 yz dd.typeIs y9 (PySem.F.args_dict_get_3 _ _ _) (meetsH_dict_get_default (tupleKind (jT X.prog X.w)) a b hd r) ⟨Kc hu,k,xs,Jq I.hok eb,dd,h _ _ (I.tok _) ?_⟩;rw [l];exact (rel.val k).getD rd
end
def jk4 (td ty tx:TE):TE:=fun σ H Q=>td σ H fun x H1=>∃a,x=.ref a/\IsD H1 a/\ty σ H1 fun y H2=>tx σ H2 fun z H3=>∃o,jdO H3 a y o/\Q (o.getD z) H3
section
variable {X:Cx} {o e f:Expr} {apos cpos:Pos} {td ty tx:TE}
theorem jkG (hu:X.A.units+1<cLine) (ho:PE X o td) (he:PE X e ty) (hf:PE X f tx) (m:M2 X o "get" apos e f cpos):PE X (.Call (.Attribute o "get" apos) [e,f] [] cpos) (jk4 td ty tx):=by
 intro pins s σ H Q I h;refine wpAny_Call_method m.base m.few m.line KO yz PySem.F.type_dict_get (qr (ho pins s σ H _ I h) fun u s1 zz=>?_);obtain ⟨x,H1,I1,rx,a,ex,d,q1⟩:=zz;subst ex;obtain rfl:u=Value.ref a:=rx;obtain ⟨t1,t2,_⟩:=jhM I1 d;refine ⟨t1,t2,?_⟩;rw [m.trees];refine Ks rfl (ke (yE (qr (he pins s1 σ H1 _ I1 q1) fun iv s2 ⟨y,H2,I2,ry,q2⟩=>yE (qr (hf pins s2 σ H2 _ I2 q2) fun fv s3 ⟨z,H3,I3,rz,ov,g,q3⟩=>yV ?_))))
 exact jpQ hu I3 g ry rz fun w' s4 I4 rw'=>⟨_,H3,I4,rw',q3⟩
end
section
variable {X:Cx} {pins:List (Addr×Obj)} {σ:St} {H:Hp} {s:Shared} {a:Addr} {kvs:List (zw×V)} {A:Around} {E:Value->Shared->Prop}
theorem jkr {Q:Value → Shared → Prop} (I:Inv X pins σ H s) (e:Rd H a (.dK kvs)) (h:∀p s',H p=none → Inv X pins σ (upd H p (.dK kvs)) s' → Q (.ref p) s'):wpAny ‹"d"› A (call (.type "dict") [.ref a]) Q E s:=by obtain ⟨z,hd,vs,rel,dd⟩:=QP I.hok e;refine kt_call_dict hd dd (by rw [<-rel.length];exact z) fun h' dd' hs=>?_;refine h _ _ (I.hok.fresh (Yq _)) (I.laid (a:=s.heap.objs.size) (o:=.dK kvs) (t':=s.toks) (fun b q hq=>?_) (Yq _) (jh0 z (Ko.mpr (Ne.symm (Yv I.big))) rel dd'));exact (hs.2 b (Yv (Yw hq))).trans (Yh _ hq)
end
section
variable {X:Cx} {pins:List (Addr×Obj)} {σ:St} {H:Hp} {s:Shared} {a:Addr} {y:V} {u:Value} {A:Around} {E:Value->Shared->Prop}
end
end L2
namespace L2S
open PySem
def Ris (xs:Array Nat):Prop:=∀i j,i<j->j<xs.size->xs.getD i 0<xs.getD j 0
theorem jcP {xs:Array Nat} {j:Nat} (R:Ris xs):∀(fuel lo hi:Nat),lo<=hi->hi<=xs.size->hi-lo<=fuel->(∀i,i<lo->xs.getD i 0<j)->(∀i,hi<=i->i<xs.size->j<=xs.getD i 0)->
 (SetTable.below.go xs j fuel lo hi<=xs.size)/\(∀i,i<SetTable.below.go xs j fuel lo hi->xs.getD i 0<j)/\(∀i,SetTable.below.go xs j fuel lo hi<=i->i<xs.size->j<=xs.getD i 0)
 | 0,lo,hi,h1,h2,h3,h4,h5=>by
   have:lo=hi:=by omega
   subst this;exact ⟨h2,h4,h5⟩
 | fuel+1,lo,hi,h1,h2,h3,h4,h5=>by
   unfold SetTable.below.go;by_cases hlt:lo<hi
   . rw [if_pos hlt];dsimp only;have hm:(lo+hi)/2<xs.size:=by omega
     have e:xs.getD ((lo+hi)/2) j=xs.getD ((lo+hi)/2) 0:=by simp [Array.getD,hm]
     rw [e];by_cases hc:xs.getD ((lo+hi)/2) 0<j
     . rw [if_pos hc];refine jcP R fuel _ _ (by omega) h2 (by omega) (fun i hi'=>?_) h5;rcases Y2 i ((lo+hi)/2) with q | q
       . exact yK (R i _ q hm) hc
       . have:i=(lo+hi)/2:=by omega
         subst this;exact hc
     . rw [if_neg hc];refine jcP R fuel _ _ (by omega) (by omega) (by omega) h4 (fun i hi' hs=>?_);rcases Y2 ((lo+hi)/2) i with q | q
       . exact YW (Nat.le_of_not_lt hc) (yL (R _ i q hs))
       . have:i=(lo+hi)/2:=by omega
         subst this;exact Nat.le_of_not_lt hc
   . rw [if_neg hlt];have:lo=hi:=by omega
     subst this;exact ⟨h2,h4,h5⟩
theorem jcs {xs:Array Nat} {j:Nat} (R:Ris xs):SetTable.below xs j<=xs.size/\(∀i,i<SetTable.below xs j->xs.getD i 0<j)/\(∀i,SetTable.below xs j<=i->i<xs.size->j<=xs.getD i 0):=jcP R xs.size 0 xs.size (ye _) (Yq _) (by omega) (fun i h=>absurd h (KQ _)) fun i h1 h2=>absurd h2 (KY.mpr h1)
theorem jh2 {xs:Array Nat} {i:Nat} (R:Ris xs) (hi:i<xs.size):SetTable.below xs (xs.getD i 0+1)=i+1:=by
 obtain ⟨b1,b2,b3⟩:=jcs (j:=xs.getD i 0+1) R;rcases Nat.lt_trichotomy (SetTable.below xs (xs.getD i 0+1)) (i+1) with q | q | q
 . have:=b3 i (by omega) hi;omega
 . exact q
 . have:=b2 (i+1) q;have h2:i+1<xs.size:=by omega
   have:=R i (i+1) (by omega) h2;omega
theorem jhE {xs:Array Nat} (R:Ris xs):SetTable.below xs 0=0:=by
 obtain ⟨b1,b2,b3⟩:=jcs (j:=0) R;rcases Nat.eq_zero_or_pos (SetTable.below xs 0) with q | q
 . exact q
 . have:=b2 0 q;omega
theorem jdP {α:Type} (xs:Array α) (p:Nat) (x:α) (hp:p<=xs.size):(SetTable.insertAt xs p x).size=xs.size+1:=by unfold SetTable.insertAt;simp only [Array.size_append,Array.size_push,Array.size_extract];omega
theorem jb4 {α:Type} (xs:Array α) (p:Nat) (x:α):(SetTable.insertAt xs p x).toList=xs.toList.take p++[x]++xs.toList.drop p:=by unfold SetTable.insertAt;simp [Array.toList_extract,List.extract];rw [List.take_of_length_le (by simp)]
theorem jai (xs:Array Nat) (p x i:Nat) (hp:p<=xs.size):(SetTable.insertAt xs p x).getD i 0=if i<p then xs.getD i 0 else if i=p then x else xs.getD (i-1) 0:=by
 have e:=jb4 xs p x;have g:∀(ys:Array Nat) (k:Nat),ys.getD k 0=ys.toList.getD k 0:=fun ys k=>by simp [yZ,Yc]
 rw [g,e,g,g];simp only [Yc];have hl:(xs.toList.take p).length=p:=by simp;omega
 split
 . rename_i h;rw [Kl,YF (by omega),List.getElem?_take_of_lt h]
 . split
   . rename_i h1 h2;subst h2;rw [Kl,YC (by omega)];simp [hl]
   . rename_i h1 h2;rw [YC (by simp;omega),List.getElem?_drop];simp only [YR,hl,YA,ya];rw [show p+(i-(p+(0+1)))=i-1 by omega]
theorem jhf {xs:Array Nat} {j:Nat} (R:Ris xs) (hn:xs[SetTable.below xs j]?≠some j):Ris (SetTable.insertAt xs (SetTable.below xs j) j):=by
 obtain ⟨b1,b2,b3⟩:=jcs (j:=j) R;generalize SetTable.below xs j=p at *
 intro a b hab hb;rw [jdP _ _ _ b1] at hb;rw [jai _ _ _ _ b1,jai _ _ _ _ b1];have hp:p<xs.size->j<xs.getD p 0:=fun h=>by
  have h1:=b3 p (Yq _) h;have h2:xs.getD p 0≠j:=fun z=>hn (by rw [YK h];simp [Array.getD,h] at z;rw [z])
  omega
 have mono:∀c,p<=c->c<xs.size->j<xs.getD c 0:=fun c h1 h2=>by
  rcases Y2 p c with q | q
  . have:=R p c q h2;have:=hp (by omega);omega
  . have:c=p:=by omega
    subst this;exact hp h2
 split <;> split <;> (try split) <;> (try split);all_goals first
  | (rename_i h1 h2;exact R a b hab (by omega))
  | skip
 all_goals first
  | omega
  | (apply R;omega;omega)
  | (rename_i h1 h2 h3;exact b2 a h1)
  | skip
 all_goals first
  | (exact b2 _ (by omega))
  | (exact mono _ (by omega) (by omega))
  | (exact yK (b2 _ (by omega)) (mono _ (by omega) (by omega)))
  | skip
theorem Z1 (n:Nat):Ris (Array.range n):=by intro i j h1 h2;rw [Array.size_range] at h2;simp [Array.getD,h2,show i<n by omega];exact h1
theorem jbx (f:Nat->Option Nat):∀(l:List Nat),((l.filterMap fun j=>(f j).map (j,·)).map (·.1)).Sublist l
 | []=>by simp
 | a::l=>by
   rw [Kq];cases e:f a with
   | none=>exact (jbx f l).cons a
   | some b=>exact (jbx f l).cons₂ a
theorem jb3 {l:List Nat} (h:l.Pairwise (· < ·)):Ris l.toArray:=by
 intro i j h1 h2;have h2':j<l.length:=by simpa using h2
 have:=(Kf.mp h) i j (by omega) h2' h1;simp [Array.getD,h2',show i<l.length by omega];exact this
theorem jlk {mask finger moves:Nat} {led plain:Bool} {hs:Array Int} {t:SetTable} {o:Array Nat} (h:SetTable.laid mask finger moves led plain hs=some (t,o)):Ris t.place/\t.led=led/\t.plain=plain:=by
 unfold SetTable.laid at h;cases e:SetTable.layClean mask hs with
 | none=>rw [e] at h;cases h
 | some ow=>rw [e] at h;have h':=Option.some.inj h;have h1:=congrArg (·.1) h';dsimp only at h1;subst h1;refine ⟨?_,rfl,rfl⟩;dsimp only;refine jb3 ?_;exact (List.pairwise_lt_range).sublist (jbx (fun j=>ow.getD j none) (List.range (mask+1)))
end L2S
set_option maxHeartbeats 4000000
namespace L2
open PySem PySem.Spec PyProof.Rows
abbrev J7 (h:Heap) (z TI TO a:Addr) (f:Bool):Prop:=h.get? z=some { cls:=.type "zip",dict:=none,data:=.fields #[rawInt a,.bool f,.bool false,.ref TI,.ref TO],slots:=#[] }
section
variable {prog:Program} {w:World} {A:Around} {E:Value->Shared->Prop} {s:Shared}
theorem ltN {h:Heap} {b:Addr} {o:Obj} (e:h.get? b=some o):@LT.lt Nat instLTNat b h.objs.size:=Yw e
theorem jkC {a:Addr} {o:Obj} {Q:Option Obj->Shared->Prop} (ho:s.heap.get? a=some o) (h:Q (some o) s):wpAny (model prog w) A (loadIfAlive a) Q E s:=by
 have q:Q (s.heap.get? a) s:=by rw [ho];exact h
 exact fun _ _ _=>q
theorem jdy {z TI TO a:Addr} {f:Bool} {oa:Obj} {Q:Bool->Shared->Prop} (hz:J7 s.heap z TI TO a f) (ha:s.heap.get? a=some oa)
 (hQ:∀h',J7 h' z TI TO a true->Heap.SameBut z s.heap h'->Q false { s with heap:=h' }):wpAny (model prog w) A (Builtin.SmallTypes.ownedTupleIsFree (.ref z)) Q E s:=by
 unfold Builtin.SmallTypes.ownedTupleIsFree;refine Yb (km hz rfl (x:=rawInt a) rfl ?_);show wpAny _ _ (loadIfAlive ((a:Int).toNat) >>= _) _ _ _;rw [Yt];refine Yb (jkC ha ?_);simp only [Option.isNone_some,YY,yu];refine Yb (km hz rfl (x:=.bool f) rfl ?_);cases f with
 | true=>rw [if_neg (show ¬((Value.bool true != Value.bool true)=true) from Yi)];exact Yj (hQ s.heap hz (Heap.SameBut.refl _ _))
 | false=>rw [if_pos (show (Value.bool false != Value.bool true)=true from rfl)];refine Yb (yA hz (by simp) fun h' hz' hs'=>?_);exact Yj (hQ h' hz' hs')
theorem jdL {z TI TO i1 i2 l1 l2 a:Addr} {f:Bool} {oa:Obj} {k1 k2:Nat} {xs ys:Array Value} {x y:Value} {Q:Option Value->Shared->Prop} (D:ZipApart z TI TO i1 i2 l1 l2)
 (hz:J7 s.heap z TI TO a f) (ha:s.heap.get? a=some oa) (hTI:IsPair s.heap TI (.ref i1) (.ref i2))
 (h1:s.heap.IsListIter i1 l1 k1) (h2:s.heap.IsListIter i2 l2 k2) (hl1:s.heap.IsList l1 xs) (hl2:s.heap.IsList l2 ys) (hx:xs[k1]?=some x) (hy:ys[k2]?=some y)
 (hQ:∀h',J7 h' z TI TO a true->h'.IsListIter i1 l1 (k1+1)->h'.IsListIter i2 l2 (k2+1)->IsPair h' s.heap.objs.size x y->h'.objs.size=s.heap.objs.size+1->
  (∀c o,c≠z->c≠i1->c≠i2->s.heap.get? c=some o->h'.get? c=some o)->Q (some (.ref s.heap.objs.size)) { s with heap:=h' }) :
 wpAny (model prog w) A (pyNext (.ref z)) Q E s:=by
 have hT:s.TypeIs (.ref z) "zip":=⟨_,hz,rfl⟩;unfold pyNext;refine Yb ‹"ar"›;show wpAny _ _ (field (.ref z) 2 >>= _) _ _ _;refine Yb (km hz rfl (x:=.bool false) rfl ?_);show wpAny _ _ (field (.ref z) 3 >>= _) _ _ _;refine Yb (km hz rfl (x:=.ref TI) rfl ?_);refine Yb (yQ hTI rfl ?_);show wpAny _ _ (Builtin.SmallTypes.ownedTupleIsFree (.ref z) >>= _) _ _ _;refine Yb (jdy hz ha fun g1 hz1 s1=>?_);simp only [YY,yu];rw [<-Array.forIn_toList];simp only [List.forIn_cons,List.forIn_nil];refine Yb (Yb (Yb (Y8 ?_)));show wpAny _ _ (Builtin.SmallTypes.nextOf (.ref i1) >>= _) _ _ _;refine Yb ‹"a2"›;refine Yb (Yb (Y8 ?_));show wpAny _ _ (Builtin.SmallTypes.nextOf (.ref i2) >>= _) _ _ _;refine Yb (KS ((h2.extBut s1.extBut D.i2z).extBut s2.extBut D.i12.symm) ((hl2.extBut s1.extBut D.l2z).extBut s2.extBut D.l2i1) hy fun g3 p3 s3=>Yj (Yj (Yj ?_)));dsimp only;refine Yb (wpAny_newTuple (hsz:=by show 2<=sizeLine;decide) ?_);have hsz:g3.objs.size=s.heap.objs.size:=by rw [s3.1,s2.1,s1.1]
 have hz3:J7 g3 z TI TO a true:=s3.extBut _ _ D.i2z.symm (s2.extBut _ _ D.i1z.symm hz1);refine Yj ⟨_,rfl,Yj ?_⟩;show Q (some (.ref g3.objs.size)) _;rw [hsz];refine hQ _ (Yh _ hz3) ((p2.extBut s3.extBut D.i12).at fun o e=>Yh _ e) (p3.at fun o e=>Yh _ e) ?_ (by rw [yh,hsz]) fun c o c1 c2 c3 e=>Yh _ (s3.extBut _ _ c3 (s2.extBut _ _ c2 (s1.extBut _ _ c1 e)));rw [<-hsz];exact Yy _ rfl
theorem jfa {z TI TO i1 i2 l1 l2 a:Addr} {f:Bool} {oa:Obj} {k1 k2:Nat} {xs ys:Array Value} {Q:Option Value->Shared->Prop} (hh:A.handled=none) (D:ZipApart z TI TO i1 i2 l1 l2)
 (hz:J7 s.heap z TI TO a f) (ha:s.heap.get? a=some oa) (hTI:IsPair s.heap TI (.ref i1) (.ref i2))
 (h1:s.heap.IsListIter i1 l1 k1) (h2:s.heap.IsListIter i2 l2 k2) (hl1:s.heap.IsList l1 xs) (hl2:s.heap.IsList l2 ys) (hend:xs[k1]?=none\/ys[k2]?=none)
 (hQ:∀h',(∀c o,c≠z->c≠i1->c≠i2->s.heap.get? c=some o->h'.get? c=some o)->Q none { s with heap:=h' }):wpAny (model prog w) A (pyNext (.ref z)) Q E s:=by
 have hT:s.TypeIs (.ref z) "zip":=⟨_,hz,rfl⟩;have stop:∀(h':Heap) (e:Addr),(∀c o,c≠z → c≠i1 → c≠i2 → s.heap.get? c=some o → h'.get? c=some o) → (∃o,h'.get? e=some o ∧ o.cls=.type "StopIteration") →
  wpAny (model prog w) A (do let b ← isInstance (.ref e) (.type "StopIteration");if b=true then pure none else throw (.ref e)) Q E { s with heap:=h' }:=by
  rintro h' e hk ⟨o,ho,hc⟩;refine Yb (K6 (T := "StopIteration") (b:=true) ⟨o,ho,hc⟩ isSubtype_stop ?_);exact Yj (hQ _ hk)
 unfold pyNext;refine Yb ‹"ar"›;show wpAny _ _ (field (.ref z) 2 >>= _) _ _ _;refine Yb (km hz rfl (x:=.bool false) rfl ?_);show wpAny _ _ (field (.ref z) 3 >>= _) _ _ _;refine Yb (km hz rfl (x:=.ref TI) rfl ?_);refine Yb (yQ hTI rfl ?_);show wpAny _ _ (Builtin.SmallTypes.ownedTupleIsFree (.ref z) >>= _) _ _ _;refine Yb (jdy hz ha fun g1 hz1 s1=>?_);simp only [YY,yu];rw [<-Array.forIn_toList];simp only [List.forIn_cons,List.forIn_nil];refine Yb (Yb (Yb (Y8 ?_)));show wpAny _ _ (Builtin.SmallTypes.nextOf (.ref i1) >>= _) _ _ _;cases hx:xs[k1]? with
 | none=>exact Yb (wpAny_nextOf_list_end hh (h1.extBut s1.extBut D.i1z) (hl1.extBut s1.extBut D.l1z) hx fun g2 e s2 he=>stop g2 e (fun c o c1 c2 c3 q=>s2 _ _ c2 (s1.extBut _ _ c1 q)) he)
 | some x=>
   have hy:ys[k2]?=none:=by
    rcases hend with q | q
    . rw [hx] at q;cases q
    . exact q
   refine Yb ‹"a2"›;refine Yb (Yb (Y8 ?_));show wpAny _ _ (Builtin.SmallTypes.nextOf (.ref i2) >>= _) _ _ _;exact Yb (wpAny_nextOf_list_end hh ((h2.extBut s1.extBut D.i2z).extBut s2.extBut D.i12.symm) ((hl2.extBut s1.extBut D.l2z).extBut s2.extBut D.l2i1) hy fun g3 e s3 he=>stop g3 e (fun c o c1 c2 c3 q=>s3 _ _ c3 (s2.extBut _ _ c2 (s1.extBut _ _ c1 q))) he)
theorem jbT {R:Result->Shared->Prop} {S I:Addr} {res:Value} (St:Nat->Array Value->Shared->Prop)
 (turn:∀n acc s,St n acc s->acc.size<sizeLine/\wpAny (model prog w) A.in1 (pyNext (.ref I)) (fun r s'=>match r with
  | none=>R (.ok (.ret res)) s'
  | some v=>(∃c,s'.heap.get? S=some { cls:=.type "list",data:=.seq acc c }) ∧
      ∀h' c',h'.get? S=some { cls:=.type "list",data:=.seq (acc.push v) c' } → Heap.SameBut S s'.heap h' → ∃m,m<n ∧ St m (acc.push v) { s' with heap:=h' }) (fun e s'=>R (.error e) s') s) :
 ∀n acc s,St n acc s → codeAny (model prog w) A (.builtin "list.extend.loop" ⟨[.ref S,.ref I,res],[]⟩) R s:=by
 intro n;induction n using Nat.strongRecOn with
 | ind n ih=>
   intro acc s hs;obtain ⟨hz,t⟩:=turn n acc s hs;refine yB F.entry_extend_loop ?_;rw [yd kz _];show wpAny _ A.in1 (pyNext (.ref I) >>= _) _ _ s;refine Yb (yj t (fun r s' q=>?_) fun _ _ q=>q);cases r with
   | none=>exact Yj q
   | some v=>obtain ⟨⟨c,e⟩,q⟩:=q;show wpAny _ A.in1 (updateSeq S (·.push v) >>= _) _ _ _;refine Yb ?_;refine yg e rfl (Yj ⟨yt kz _,?_⟩) (by omega) (by show (acc.push v).size<=sizeLine+1;rw [Array.size_push];omega);have e2:=YU (Obj.mapSeq (·.push v)) e rfl;obtain ⟨m,hm,hs'⟩:=q _ _ e2 (Heap.SameBut.update ..);exact ih m hm _ _ hs'
theorem jhB:typeLookup (.type "zip") "__len__"=pure none:=by rw [KM,Kd];kernel_rfl
theorem jgr:typeLookup (.type "zip") "__length_hint__"=pure none:=by rw [KM,Kd];kernel_rfl
theorem jlL {z TI TO:Addr} {f0:Value} {Q:Bool->Shared->Prop} (hz:IsZip s.heap z TI TO f0) (h:Q true s):wpAny (model prog w) A (Builtin.List.listLengthHint (.ref z)) Q E s:=by have hT:s.TypeIs (.ref z) "zip":=⟨_,hz,rfl⟩;unfold Builtin.List.listLengthHint;refine Yb (yW hT jhB ?_);show wpAny _ _ (specialOf (Value.ref z) (Str.ofString "__length_hint__") >>= _) _ _ s;refine Yb (yW hT jgr ?_);exact Yj h
structure ZipMade (h₀ h:Heap) (S z TO i1 i2:Addr) (xs ys acc:Array Value) (i:Nat):Prop where
 size:acc.size=i
 pair:∀j,j<i->∃T x y,acc[j]?=some (.ref T)/\xs[j]?=some x/\ys[j]?=some y/\IsPair h T x y/\h₀.objs.size<=T/\T≠S/\(T≠z/\T≠TO/\T≠i1/\T≠i2)/\∀k,k<j->acc[k]?≠some (.ref T)
 keep:∀b o,h₀.get? b=some o->h.get? b=some o
theorem jlo {z TI TO i1 i2 l1 l2:Addr} {xs ys:Array Value} {h₀:Heap} {Q:Value->Shared->Prop} (hh:A.handled=none) (D:ZipApart z TI TO i1 i2 l1 l2)
 (hz:IsZip s.heap z TI TO .none) (hTI:IsPair s.heap TI (.ref i1) (.ref i2)) (hTO:∃a b,IsPair s.heap TO a b) (h1:s.heap.IsListIter i1 l1 0) (h2:s.heap.IsListIter i2 l2 0) (hl1:h₀.IsList l1 xs) (hl2:h₀.IsList l2 ys)
 (hk:∀b o,h₀.get? b=some o->s.heap.get? b=some o) (hge:h₀.objs.size<=z/\h₀.objs.size<=TO/\h₀.objs.size<=i1/\h₀.objs.size<=i2) (hle:h₀.objs.size<=s.heap.objs.size) (hn:xs.size<sizeLine)
 (hQ:∀S h' acc c,h₀.objs.size ≤ S → h'.get? S=some { cls:=.type "list",data:=.seq acc c } → ZipMade h₀ h' S z TO i1 i2 xs ys acc (min xs.size ys.size) → Q (.ref S) { s with heap:=h' }) :
 wpAny (model prog w) A (call (.type "list") [.ref z]) Q E s:=by
 refine callType_codes (Q₁:=fun obj s₁=>obj=.ref s.heap.objs.size ∧ s₁={ s with heap:=s.heap.push { cls:=.type "list",data:=.seq #[] } }) F.called_list (F.typeCall_list_1 _) F.entry_list_init (code_list_new _ ⟨rfl,rfl⟩) fun obj s₁ e₁=>?_;obtain ⟨rfl,rfl⟩:=e₁;generalize hSd:s.heap.objs.size=S at *
 have hS:(s.heap.push { cls:=.type "list",data:=.seq #[] }).get? S=some { cls:=.type "list",data:=.seq #[] }:=by rw [← hSd];exact Yy _ rfl
 refine ⟨⟨_,hS,rfl⟩,F.args_list_init_2 _ _,?_⟩;generalize hG:s.heap.push { cls:=.type "list",data:=.seq #[] }=G at *
 have up:∀b o,s.heap.get? b=some o->G.get? b=some o:=fun b o e=>by rw [<-hG];exact Yh _ e
 have nS:∀b o,s.heap.get? b=some o->b≠S:=fun b o e=>by rw [<-hSd];exact Yv (Yw e)
 obtain ⟨ta,tb,hTO⟩:=hTO;obtain ⟨oi1,ei1,_⟩:=id h1;obtain ⟨oi2,ei2,_⟩:=id h2;have zS:=nS _ _ hz;have i1S:=nS _ _ ei1;have i2S:=nS _ _ ei2;have TIS:=nS _ _ hTI;have TOS:=nS _ _ hTO;have zl:z<S:=by have q:=ltN hz;rw [hSd] at q;exact q
 have TOl:TO<S:=by have q:=ltN hTO;rw [hSd] at q;exact q
 have i1l:i1<S:=by have q:=ltN ei1;rw [hSd] at q;exact q
 have i2l:i2<S:=by have q:=ltN ei2;rw [hSd] at q;exact q
 -- the list is emptied, then filled
 show wpAny _ _ (do let old <- Builtin.List.listItems (.ref S);Builtin.List.listUpdate (.ref S) (fun _=>#[]);letGo old.toList.reverse;Builtin.List.listExtendWith (.ref S) (.ref z) .none) _ _ _;refine Yb ?_;unfold Builtin.List.listItems;refine Yb (yQ hS rfl (Yj ?_));show wpAny _ _ (updateSeq S (fun _=>#[]) >>= fun _=>letGo (#[]:Array Value).toList.reverse >>= fun _=>Builtin.List.listExtendWith (.ref S) (.ref z) .none) _ _ _;refine Yb (yg hS rfl ?_);have hS2:=YU (Obj.mapSeq (fun _=>(#[]:Array Value))) hS rfl;refine Yb (kl ?_);have sb1:Heap.SameBut S G (G.update S ‹"aW"›):=Heap.SameBut.update ..
 generalize G.update S ‹"aW"›=G1 at hS2 sb1 ⊢;have up1:∀b o,s.heap.get? b=some o->G1.get? b=some o:=fun b o e=>sb1.extBut b o (nS b o e) (up b o e);unfold Builtin.List.listExtendWith;refine Yb (wpAny_typeOf (T := "zip") ⟨_,up1 _ _ hz,rfl⟩ ?_);have hsr:Builtin.List.listSameRef (.ref S) (.ref z)=false:=by simp [Builtin.List.listSameRef,Ne.symm zS]
 have t1:(Value.type "zip" == Value.type "list")=false:=by decide
 have t2:(Value.type "zip" == Value.type "tuple")=false:=by decide
 simp only [hsr,t1,t2,Bool.or_false,YY,yu];refine Yb (wpAny_pyIter_zip (up1 _ _ hz) ?_);refine Yb (Y8 (jlL (up1 _ _ hz) ?_));simp only [Bool.true_or,yq];refine Yb (kj ?_);refine Yb ?_;show wpAny _ _ (updateSeq S (·.push .none) >>= fun _=>updateSeq S (·.pop)) _ _ _;refine Yb (yg hS2 rfl ?_);have hS3:=YU (Obj.mapSeq (·.push Value.none)) hS2 rfl;have sb2:Heap.SameBut S G1 (G1.update S (Obj.mapSeq (·.push Value.none))):=Heap.SameBut.update ..
 generalize G1.update S (Obj.mapSeq (·.push Value.none))=G2 at hS3 sb2 ⊢;refine yg (hz:=by seq_fits) hS3 rfl ?_;have hS4:=YU (Obj.mapSeq (·.pop)) hS3 rfl;have sb3:Heap.SameBut S G2 (G2.update S (Obj.mapSeq (·.pop))):=Heap.SameBut.update ..
 generalize G2.update S (Obj.mapSeq (·.pop))=G3 at hS4 sb3 ⊢;have up3:∀b o,s.heap.get? b=some o->G3.get? b=some o:=fun b o e=>sb3.extBut b o (nS b o e) (sb2.extBut b o (nS b o e) (up1 b o e));refine Yj ⟨yt kz _,?_⟩;refine jbT (fun n acc s'=>∃(i c:Nat) (h:Heap),s'={ s with heap:=h } ∧ n=xs.size+1-i ∧ i ≤ xs.size ∧ i ≤ ys.size ∧ ZipMade h₀ h S z TO i1 i2 xs ys acc i ∧ h.get? S=some { cls:=.type "list",data:=.seq acc c } ∧ IsPair h TI (.ref i1) (.ref i2) ∧
  h.IsListIter i1 l1 i/\h.IsListIter i2 l2 i/\h₀.objs.size<=h.objs.size/\((IsZip h z TI TO .none/\∃a b,IsPair h TO a b)\/∃a f oa,J7 h z TI TO a f/\h.get? a=some oa/\a≠z/\a≠i1/\a≠i2/\a≠S)) ?_ (xs.size+1) #[] _
  ⟨0,_,G3,rfl,by omega,ye _,ye _,⟨rfl,fun j hj=>absurd hj (KQ _),fun b o e=>up3 b o (hk b o e)⟩,hS4,up3 _ _ hTI,h1.at fun o e=>up3 _ o e,h2.at fun o e=>up3 _ o e,
   by rw [sb3.1,sb2.1,sb1.1,<- hG,yh];omega,.inl ⟨up3 _ _ hz,_,_,up3 _ _ hTO⟩⟩
 rintro n acc s' ⟨i,c,h,rfl,rfl,hix,hiy,M,hSl,pTI,p1,p2,hsz,zs⟩;have hb0:∀{b:Addr} {o:Obj},h₀.get? b=some o->b≠z/\b≠TO/\b≠i1/\b≠i2/\b≠S:=fun {b o} e=>by have q:=ltN e;exact ⟨Yv (Yo q hge.1),Yv (Yo q hge.2.1),Yv (Yo q hge.2.2.1),Yv (Yo q hge.2.2.2),Yv (Yo q hle)⟩
 have hl1':h.IsList l1 xs:=hl1.at fun o e=>M.keep _ o e;have hl2':h.IsList l2 ys:=hl2.at fun o e=>M.keep _ o e;obtain ⟨ol1,el1,_⟩:=id hl1;obtain ⟨ol2,el2,_⟩:=id hl2;refine ⟨by rw [M.size];omega,?_⟩;have ltS:S<h.objs.size:=ltN hSl
 -- behind a pair
 have next:∀(h':Heap) (x y:Value) (a:Addr) (f:Bool) (oa:Obj),xs[i]?=some x->ys[i]?=some y->IsPair h' h.objs.size x y->h'.objs.size=h.objs.size+1->J7 h' z TI TO a f->h'.get? a=some oa->a≠z->a≠i1->a≠i2->a≠S->
  h'.IsListIter i1 l1 (i+1)->h'.IsListIter i2 l2 (i+1)->(∀c o,c≠z->c≠TO->c≠i1->c≠i2->h.get? c=some o->h'.get? c=some o)->
  (∃c,h'.get? S=some { cls:=.type "list",data:=.seq acc c }) ∧
  ∀h'' c',h''.get? S=some { cls:=.type "list",data:=.seq (acc.push (.ref h.objs.size)) c' } → Heap.SameBut S h' h'' → ∃m,m<xs.size+1-i ∧ ∃(i' c:Nat) (g:Heap),({ s with heap:=h'' }:Shared)={ s with heap:=g } ∧ m=xs.size+1-i' ∧ i' ≤ xs.size ∧ i' ≤ ys.size ∧ ZipMade h₀ g S z TO i1 i2 xs ys (acc.push (.ref h.objs.size)) i' ∧
    g.get? S=some { cls:=.type "list",data:=.seq (acc.push (.ref h.objs.size)) c } ∧ IsPair g TI (.ref i1) (.ref i2) ∧ g.IsListIter i1 l1 i' ∧ g.IsListIter i2 l2 i' ∧ h₀.objs.size ≤ g.objs.size ∧
    ((IsZip g z TI TO .none/\∃a b,IsPair g TO a b)\/∃a f oa,J7 g z TI TO a f/\g.get? a=some oa/\a≠z/\a≠i1/\a≠i2/\a≠S):=by
  intro h' x y a f oa hx hy pT hs' zh ea az a1 a2 aS q1 q2 kk;have hxl:i<xs.size:=by
   rcases Y2 i xs.size with q | q
   . exact q
   . rw [yp q] at hx;cases hx
  have hyl:i<ys.size:=by
   rcases Y2 i ys.size with q | q
   . exact q
   . rw [yp q] at hy;cases hy
  have TS:h.objs.size≠S:=yn ltS;refine ⟨⟨c,kk _ _ (Ne.symm zS) (Ne.symm TOS) (Ne.symm i1S) (Ne.symm i2S) hSl⟩,fun h'' c' eS sb=>⟨xs.size+1-(i+1),by omega,i+1,c',h'',rfl,rfl,hxl,hyl,⟨by rw [Array.size_push,M.size],fun j hj=>?_,fun b o e=>?_⟩,eS,sb.extBut _ _ TIS (kk _ _ D.TIz D.TITO D.TIi1 D.TIi2 pTI),q1.extBut sb.extBut i1S,q2.extBut sb.extBut i2S,by rw [sb.1];omega,
   .inr ⟨a,f,oa,sb.extBut _ _ zS zh,sb.extBut _ _ aS ea,az,a1,a2,aS⟩⟩⟩
  . rcases Y2 j i with q | q
    . obtain ⟨T',x',y',e1,e2,e3,e4,e5,e6,e8,e7⟩:=M.pair j q;have hT':=ltN e4;refine ⟨T',x',y',by rw [KJ,if_neg (by rw [M.size];omega)];exact e1,e2,e3,?_,e5,e6,e8,fun k hk'=>by rw [KJ,if_neg (by rw [M.size];omega)];exact e7 k hk'⟩;obtain ⟨t1',t2',t3',t4'⟩:=e8;exact sb.extBut _ _ e6 (kk _ _ t1' t2' t3' t4' e4)
    . have e:j=i:=by omega
      subst e;refine ⟨h.objs.size,x,y,by rw [KJ,if_pos M.size.symm],hx,hy,sb.extBut _ _ TS pT,hsz,TS,⟨yn (yK zl ltS),yn (yK TOl ltS),yn (yK i1l ltS),yn (yK i2l ltS)⟩,fun k hk'=>?_⟩;obtain ⟨T',x',y',e1,e2,e3,e4,e5,e6,e8,e7⟩:=M.pair k hk';have hT':=ltN e4;rw [KJ,if_neg (by rw [M.size];omega),e1];intro z';have:T'=h.objs.size:=by injection z' with z';injection z'
      exact absurd this (Yv hT')
  . obtain ⟨b1,b2,b3,b4,b5⟩:=hb0 e;exact sb.extBut _ _ b5 (kk _ _ b1 b2 b3 b4 (M.keep b o e))
 have none_of:¬(i<xs.size/\i<ys.size)->(xs[i]?=none\/ys[i]?=none)/\i=min xs.size ys.size:=fun q=>by
  refine ⟨?_,by omega⟩;rcases Y2 i xs.size with q1 | q1
  . exact .inr (yp (by omega))
  . exact .inl (yp q1)
 by_cases hij:i<xs.size/\i<ys.size
 . have hx:=YK hij.1;have hy:=YK hij.2;rcases zs with ⟨zf,ta',tb',pTO⟩ | ⟨a,f,oa,zh,ea,az,a1,a2,aS⟩
   . refine wpAny_pyNext_zip_item D zf pTI pTO p1 p2 hl1' hl2' hx hy fun h' r1 r2 r3 r4 r5 r6 r7=>?_;exact next h' _ _ _ false _ hx hy r5 r6 r1 r5 (yn (yK zl ltS)) (yn (yK i1l ltS)) (yn (yK i2l ltS)) (yn ltS) r3 r4 r7
   . refine jdL D zh ea pTI p1 p2 hl1' hl2' hx hy fun h' r1 r3 r4 r5 r6 r7=>?_;exact next h' _ _ a true oa hx hy r5 r6 r1 (r7 _ _ az a1 a2 ea) az a1 a2 aS r3 r4 fun c o c1 _ c3 c4 e=>r7 c o c1 c3 c4 e
 . obtain ⟨he,hm⟩:=none_of hij;have fin:∀h':Heap,(∀c o,c≠z->c≠TO->c≠i1->c≠i2->h.get? c=some o->h'.get? c=some o)->wants (fun r s₂=>r=Value.none/\Q (.ref S) s₂) E (.ok (.ret .none)) { s with heap:=h' }:=fun h' kk=>by
    refine ⟨rfl,hQ S h' acc c hle (kk _ _ (Ne.symm zS) (Ne.symm TOS) (Ne.symm i1S) (Ne.symm i2S) hSl) ⟨by rw [M.size,hm],fun j hj=>?_,fun b o e=>?_⟩⟩
    . obtain ⟨T',x',y',e1,e2,e3,e4,e5,e6,e8,e7⟩:=M.pair j (by omega);exact ⟨T',x',y',e1,e2,e3,kk _ _ e8.1 e8.2.1 e8.2.2.1 e8.2.2.2 e4,e5,e6,e8,e7⟩
    . obtain ⟨b1,b2,b3,b4,b5⟩:=hb0 e;exact kk _ _ b1 b2 b3 b4 (M.keep b o e)
   rcases zs with ⟨zf,ta',tb',pTO⟩ | ⟨a,f,oa,zh,ea,az,a1,a2,aS⟩
   . exact wpAny_pyNext_zip_end hh D zf pTI pTO p1 p2 hl1' hl2' he fun h' kk=>fin h' kk
   . exact jfa hh D zh ea pTI p1 p2 hl1' hl2' he fun h' kk=>fin h' fun c o c1 _ c3 c4 e=>kk c o c1 c3 c4 e
end
end L2
namespace L2S
open PySem PySem.Spec PyProof.Rows
def jaS (t:SetTable) (j:Nat):Prop:=t.place[SetTable.below t.place j]?≠some j
theorem jcQ {t:SetTable} {j:Nat} (h:∀i,t.slot j≠.live i):jaS t j:=by intro q;refine h (SetTable.below t.place j) ?_;unfold SetTable.slot;simp [q]
theorem jam {t:SetTable} {f:Nat->Int} {h:Int}:∀(fuel:Nat) (p:SetTable.Probe) (j:Nat) (d:Option Nat),(∀x,p.dummy=some x->jaS t x)->SetTable.probe.go t f h fuel p=some (.empty j d)->jaS t j/\∀x,d=some x->jaS t x
 | 0,p,j,d,_,e=>by unfold SetTable.probe.go at e;cases e
 | fuel+1,p,j,d,hp,e=>by
   unfold SetTable.probe.go at e;have adv:∀q:SetTable.Probe,(t.advance q).dummy=q.dummy:=fun q=>by unfold SetTable.advance;split <;> rfl
   cases hs:t.slot p.j with
   | empty=>rw [hs] at e;have e':=Option.some.inj e;injection e' with e1 e2;subst e1 e2;exact ⟨jcQ (fun i z=>by rw [hs] at z;cases z),hp⟩
   | dummy=>rw [hs] at e;refine jam fuel _ j d (fun x hx=>?_) e;rw [adv] at hx;have hx':p.j=x:=Option.some.inj hx;subst hx';exact jcQ fun i z=>by rw [hs] at z;cases z
   | live i=>
     rw [hs] at e;dsimp only at e;split at e
     . cases e
     . exact jam fuel _ j d (fun x hx=>by rw [adv] at hx;exact hp x hx) e
theorem jgH {t:SetTable} {h:Int} {j:Nat} {b:Bool} (e:t.freeSlot h=some (j,b)):jaS t j:=by
 unfold SetTable.freeSlot at e;split at e
 . rename_i j' d hp;have q:=jam _ _ _ _ (fun x hx=>by cases hx) hp;have e':=congrArg Prod.fst (Option.some.inj e);dsimp only at e';subst e';cases d with
   | none=>exact q.1
   | some x=>exact q.2 x rfl
 . cases e
theorem jhv {t:SetTable} (es:Array (Int×Value)) (h:Int) (x:Value) (R:Ris t.place):Ris (layNew t es h x).2.1.place/\(layNew t es h x).2.1.led=t.led:=by
 unfold layNew;split
 . rename_i j wd e;dsimp only;unfold SetTable.orStandIn;split
   . exact ⟨jhf R (jgH e),rfl⟩
   . exact ⟨Z1 _,rfl⟩
 . exact ⟨Z1 _,rfl⟩
theorem jfc {t:SetTable} (es:Array (Int×Value)) (n:Nat):Ris (relayAll t es n).2.1.place/\(relayAll t es n).2.1.led=t.led:=by
 unfold relayAll;split
 . rename_i t' o e;dsimp only;split
   . have q:=jlk e;exact ⟨q.1,q.2.1⟩
   . exact ⟨Z1 _,rfl⟩
 . exact ⟨Z1 _,rfl⟩
theorem jar {α:Type}:∀{l:List α} {i:Nat} (h:i<l.length),(l[i]::l.eraseIdx i).Perm l
 | a::l,0,_=>.rfl
 | a::l,i+1,h=>by have ih:=jar (l:=l) (i:=i) (by simpa using h);rw [List.eraseIdx_cons_succ,List.getElem_cons_succ];exact (List.Perm.swap _ _ _).trans (ih.cons a)
theorem jih {α:Type} (next:Nat->Nat):∀(fuel k:Nat) (left:List α) (out:Array α),left.length<=fuel->(pickOrder.go next fuel k left out).toList.Perm (out.toList++left)
 | 0,k,left,out,h=>by have:left=[]:=List.length_eq_zero_iff.mp (by omega);subst this;unfold pickOrder.go;simp
 | fuel+1,k,left,out,h=>by
   unfold pickOrder.go;cases left with
   | nil=>simp
   | cons a l=>
     have hlt:next k%(a::l).length<(a::l).length:=Nat.mod_lt _ (by simp)
     rw [Ya hlt];dsimp only;refine (jih next fuel (k+1) _ _ ?_).trans ?_
     . rw [List.length_eraseIdx_of_lt hlt];simp at h ⊢;omega
     . rw [Array.toList_push,Kl];refine List.Perm.append_left _ ?_;exact (jar hlt)
theorem jjR {α:Type} (next:Nat->Nat) (xs:Array α):(pickOrder next xs).toList.Perm xs.toList:=by
 have:=jih next xs.size 0 xs.toList #[] (by simp)
 simpa [pickOrder] using this
section
variable {prog:Program} {w:World} {A:Around} {E:Value->Shared->Prop} {s:Shared}
theorem jjN {src:Source} {n:Nat} {Q:Nat->Shared->Prop} (hn:n≠0) (h:∀i d,i<n->Q i { s with drawn:=d }):wpAny (model prog w) A (choose src n) Q E s:=fun _ _ _=>⟨hn,h _ _ (Nat.mod_lt _ (Nat.pos_of_ne_zero hn))⟩
theorem jia {α:Type}:∀(n:Nat) (xs:List α) (s:Shared) {Q:List α->Shared->Prop},n=xs.length->(∀ys d,ys.Perm xs->Q ys { s with drawn:=d })->wpAny (model prog w) A (drawOrder n xs) Q E s
 | 0,xs,s,Q,hn,h=>by have:xs=[]:=List.length_eq_zero_iff.mp hn.symm;subst this;unfold drawOrder;exact Yj (h [] s.drawn .rfl)
 | n+1,[],s,Q,hn,h=>by simp at hn
 | n+1,x::xs,s,Q,hn,h=>by unfold drawOrder;refine Yb (jjN (by simp) fun i d hi=>?_);rw [Ya hi];dsimp only;refine Yb (jia n ((x::xs).eraseIdx i) _ (by rw [List.length_eraseIdx_of_lt hi];omega) fun ys d' hp=>Yj ?_);exact h _ d' (((List.Perm.cons _ hp)).trans (jar hi))
def jeT:Value->Int
 | .int k _=>k
 | _=>0
def Z8 (prog:Program) (w:World) (h:Heap) (a:Addr) (ns:List Int):Prop:=
 ∃o es ep t,h.get? a=some o/\o.ExactSet/\o.data=.set es ep t/\ElemsOf ‹"af"› es.toList/\(∀k,k∈ns ↔ ∃e∈es.toList,‹"af"›.is k e.2=true)/\t.fits es.size=true/\es.size<=ns.length /\
   (es.toList.map fun e=>jeT e.2).Nodup ∧ Ris t.place ∧ (w.params.followText "set-order"=false → t.led=true)
theorem jaX {es:List (Int×Value)} (h:ElemsOf ‹"af"› es) {e:Int×Value} (he:e∈es):∃k t,e.2=.int k t:=by obtain ⟨⟨k,hk,_⟩,_⟩:=h e he;obtain ⟨t,q⟩:=Value.isInt_shape (k:=k) (v:=e.2) hk;exact ⟨k,t,q⟩
theorem is_int {k j:Int} {t:Tok}:‹"af"›.is k (.int j t)=true ↔ k=j:=by
 constructor
 . intro h;obtain ⟨t',e⟩:=Value.isInt_shape (k:=k) (v:=.int j t) h;injection e with e1 _;exact e1.symm
 . rintro rfl;exact intKind_is _ _ _ _
theorem jiS {b:Bool} {Q:Unit → Shared → Prop} (h:Q () s):wpAny (model prog w) A (match b with | true=>rule "set.scan.the-table-gave-way" | false=>pure ()) Q E s:=by
 cases b
 . exact Yj h
 . exact kj h
theorem stored {a:Addr} {o:Obj} {es es':Array (Int×Value)} {ep:Nat} {t t':SetTable} {ns:List Int} {h:Heap} (ho:h.get? a=some o) (hex:o.ExactSet) (hd:o.data=.set es ep t) (h1:ElemsOf ‹"af"› es'.toList)
 (h2:∀k,k∈ns ↔ ∃e∈es'.toList,‹"af"›.is k e.2=true) (h3:t'.fits es'.size=true) (h4:es'.size ≤ ns.length) (h5:(es'.toList.map fun e=>jeT e.2).Nodup) (h6:Ris t'.place) (h7:w.params.followText "set-order"=false → t'.led=true) :
 (h.update a (Obj.putSet es' t')).get? a=some { o with data:=.set es' (ep+1) t' }/\Z8 prog w (h.update a (Obj.putSet es' t')) a ns:=by
 have e:(h.update a (Obj.putSet es' t')).get? a=some { o with data:=.set es' (ep+1) t' }:=by
  have q:=YU (Obj.putSet es' t') ho (by rw [putSet_of es' t' hd];rfl)
  rwa [putSet_of es' t' hd] at q
 exact ⟨e,_,es',ep+1,t',e,hex,rfl,h1,h2,h3,h4,h5,h6,h7⟩
theorem jrn {a:Addr} {ns:List Int} {k:Int} {tk:Tok} {Q:Bool->Shared->Prop} (hS:Z8 prog w s.heap a ns) (hroom:ns.length+1<scanBound)
 (h:∀h' b,Heap.SameBut a s.heap h'->Z8 prog w h' a (ns++[k])->Q b { s with heap:=h' }):wpAny (model prog w) A (setAddHashed a (.int k tk) (‹"af"›.hash k)) Q E s:=by
 obtain ⟨o,es,ep,t,ho,hex,hd,hel,hmem,hf,hle,hnd,hris,hled⟩:=hS;have hb:es.size<scanBound:=by omega
 have hkey:‹"af"›.is k (.int k tk)=true:=intKind_is _ _ _ _;have hsc:(Value.int k tk).scannable=true:=rfl;unfold setAddHashed setAddHashedIn;refine Y8 (Yb (yi ho hd hf ?_));dsimp only;rw [byScan_of hsc hb hel,if_pos rfl];unfold setAddByScan;refine Yb (Yb (kj (Yb (wpAny_setScan_of hkey ho hd hf hel ?_))));cases hr:List.findIdx? (fun e=>‹"af"›.is k e.2) es.toList with
 | some j=>
   dsimp only;obtain ⟨hj,hpj,_⟩:=List.findIdx?_eq_some_iff_getElem.mp hr;have hk:k∈ns:=(hmem k).mpr ⟨es.toList[j],Kr hj,hpj⟩;refine Yj (Yj ?_);have:=h s.heap false (Heap.SameBut.refl a s.heap) ⟨o,es,ep,t,ho,hex,hd,hel,fun k'=>by rw [YZ,Yu,<- hmem k'];exact ⟨fun z=>z.elim id fun e=>e ▸ hk,.inl⟩,hf,by rw [YR];omega,hnd,hris,hled⟩
   exact this
 | none=>
   dsimp only;have hno:∀e∈es.toList,‹"af"›.is k e.2=false:=fun e he=>by have:=List.findIdx?_eq_none_iff.mp hr e he;simpa using this
   have hp:=layNew_perm t es (‹"af"›.hash k) (.int k tk);have hfits:=layNew_fits t es (‹"af"›.hash k) (.int k tk);have hR:=jhv es (‹"af"›.hash k) (.int k tk) hris;generalize layNew t es (‹"af"›.hash k) (.int k tk)=L at hp hfits hR ⊢;obtain ⟨es1,t1,wd,gave⟩:=L;dsimp only at hp hfits hR ⊢;rw [Array.toList_push] at hp;have hel1:ElemsOf ‹"af"› es1.toList:=(hel.push hkey hsc).perm hp;have hmem1:∀k',k'∈ns++[k] ↔ ∃e∈es1.toList,‹"af"›.is k' e.2=true:=fun k'=>by
    rw [YZ,Yu,hmem k'];constructor
    . rintro (⟨e,he,q⟩ | rfl)
      . exact ⟨e,hp.mem_iff.mpr (YE _ he),q⟩
      . exact ⟨_,hp.mem_iff.mpr (YM _ (Yu.mpr rfl)),hkey⟩
    . rintro ⟨e,he,q⟩;rcases YZ.mp (hp.mem_iff.mp he) with he | he
      . exact .inl ⟨e,he,q⟩
      . rw [Yu] at he;subst he;exact .inr (is_int.mp q)
   have hsz1:es1.size=es.size+1:=by rw [<-YL,hp.length_eq,YR,YL];rfl
   have hnd1:(es1.toList.map fun e=>jeT e.2).Nodup:=by refine ((hp.map _).nodup_iff).mpr ?_;rw [Y0,KZ];refine ⟨hnd,by simp,fun x hx y hy=>?_⟩;rw [List.map_singleton,Yu] at hy;rw [hy];obtain ⟨e,he,rfl⟩:=Y3.mp hx;obtain ⟨j,tj,q⟩:=jaX hel he;have:=hno e he;rw [q] at this ⊢;intro z;have z':j=k:=z;rw [z',intKind_is] at this;cases this
   refine Yb (jiS ?_);have tail:∀t2:SetTable,t2.fits es1.size=true->Ris t2.place->t2.led=t.led->wpAny (model prog w) A (do
       storeSet a es1 t2
       if (!wd && t2.tooFull)=true then do
           (match (relayAll t2 es1 ‹"az"›).2.2 with | true=>rule "set.scan.the-table-gave-way" | false=>pure ())
           storeSet a (relayAll t2 es1 ‹"az"›).1 (relayAll t2 es1 ‹"az"›).2.1
           pure (some true)
        else pure (some true)) (fun (x:Option Bool) s'=>∃h',x=some true/\s'={ s with heap:=h' }/\Heap.SameBut a s.heap h'/\Z8 prog w h' a (ns++[k])) E s:=by
    intro t2 hf2 hr2 hl2;have hz1:es1.size<scanBound:=by omega
    refine Yb (wpAny_storeSet_of ho hd ?_ (fits_of_scanBound hz1));obtain ⟨ho1,hS1⟩:=stored (prog:=prog) (w:=w) (ns:=ns++[k]) ho hex hd hel1 hmem1 hf2 (by rw [YR,hsz1];simp;omega) hnd1 hr2 (fun q=>hl2.trans (hled q));have sb:=Heap.SameBut.update s.heap a (Obj.putSet es1 t2);split
    . have hp2:=relayAll_perm t2 es1 ‹"az"›;have hf3:=relayAll_fits t2 es1 ‹"az"›;have hR2:=jfc (t:=t2) es1 ‹"az"›;generalize relayAll t2 es1 ‹"az"›=L2 at hp2 hf3 hR2 ⊢;obtain ⟨es2,t3,g2⟩:=L2;dsimp only at hp2 hf3 hR2 ⊢;have hsz2:es2.size=es1.size:=by rw [<-YL,hp2.length_eq,YL]
      refine Yb (jiS ?_);refine Yb (wpAny_storeSet_of ho1 rfl ?_ (fits_of_scanBound (by rw [hsz2];exact hz1)));obtain ⟨_,hS2⟩:=stored (prog:=prog) (w:=w) (ns:=ns++[k]) ho1 hex rfl (hel1.perm hp2) (fun k'=>(hmem1 k').trans ⟨fun ⟨e,he,q⟩=>⟨e,hp2.mem_iff.mpr he,q⟩,fun ⟨e,he,q⟩=>⟨e,hp2.mem_iff.mp he,q⟩⟩) hf3
       (by rw [YR,hsz2,hsz1];simp;omega) (((hp2.map _).nodup_iff).mpr hnd1) hR2.1 (fun q=>(hR2.2.trans hl2).trans (hled q))
      exact Yj ⟨_,rfl,rfl,sb.trans (Heap.SameBut.update _ a _),hS2⟩
    . exact Yj ⟨_,rfl,rfl,sb,hS1⟩
   have fin:∀(x:Option Bool) (s':Shared),(∃h',x=some true/\s'={ s with heap:=h' }/\Heap.SameBut a s.heap h'/\Z8 prog w h' a (ns++[k]))->
       wpAny (model prog w) A (match x with | some added=>pure added | none=>setAddHashedIn a (.int k tk) (‹"af"›.hash k) 99999) Q E s':=by
    rintro _ _ ⟨h',rfl,rfl,sb,hS'⟩;exact Yj (h h' true sb hS')
   split
   . rw [hashByValue_scannable 8 hsc];refine Yb (Yj ?_);exact yj (tail t1 hfits hR.1 hR.2) fin fun _ _ q=>q
   . refine Yb (Yj ?_);exact yj (tail t1 hfits hR.1 hR.2) fin fun _ _ q=>q
theorem jdE {R:Result->Shared->Prop} {S l I:Addr} {items:Array Value} {ns:List Int} (hh:A.handled=none) (hi:IntsAre items.toList ns) (hlI:l≠I) (hSl:S≠l) (hSI:S≠I) (hb:ns.length+1<scanBound) :
 ∀(k i:Nat) (s:Shared),ns.length-i=k->i<=ns.length->s.heap.IsListIter I l i->s.heap.IsList l items->Z8 prog w s.heap S (ns.take i)->
   (∀h' tk,(∀b o,b≠S->b≠I->s.heap.get? b=some o->h'.get? b=some o)->Z8 prog w h' S ns->R (.ok (.ret .none)) { s with heap:=h',toks:=tk })->
   codeAny (model prog w) A (.builtin "set.update.loop" ⟨[.ref S,.ref I],[]⟩) R s:=by
 have hlen:items.size=ns.length:=by have:=hi.length;simpa using this
 have moveS:∀{h h':Heap} {m:List Int},Z8 prog w h S m->(∀o,h.get? S=some o->h'.get? S=some o)->Z8 prog w h' S m:=by rintro h h' m ⟨o,es,ep,t,ho,r⟩ hk;exact ⟨o,es,ep,t,hk o ho,r⟩
 intro k;induction k with
 | zero=>
   intro i s hk hi' st hl hS hR;have e:i=ns.length:=by omega
   subst e;refine yB Kz ?_;rw [yd yR _];show wpAny _ A.in1 (pyNext (.ref I) >>= _) _ _ s;refine Yb (wpAny_pyNext_list_end hh st hl (yp (by omega)) fun h' he=>?_);show wpAny _ A.in1 (ret Value.none) _ _ _;refine Yj (hR h' s.toks (fun b o _ b2 q=>he b o b2 q) (moveS (by rw [List.take_length] at hS;exact hS) fun o q=>he S o hSI q))
 | succ k ih=>
   intro i s hk hi' st hl hS hR;have hlt:i<ns.length:=by omega
   have hlt':i<items.size:=by omega
   obtain ⟨tk,hv⟩:=IntsAre.int_at hi i items[i] (by rw [yb];exact YK hlt');refine yB Kz ?_;rw [yd yR _];show wpAny _ A.in1 (pyNext (.ref I) >>= _) _ _ s;refine Yb (wpAny_pyNext_list_item st hl (x:=items[i]) (YK hlt') fun h1 st1 sb1=>?_);rw [hv];generalize hval:ns.getD i 0=v;show wpAny _ A.in1 (holding [Value.int v tk] (setAdd S (.int v tk)) >>= _) _ _ _;refine Yb (Y8 ?_);unfold setAdd;refine Y8 (Yb (‹"af"›.pyHash (k:=v) (intKind_is _ _ _ _) ?_));have hS1:Z8 prog w h1 S (ns.take i):=moveS hS fun o q=>sb1.extBut S o hSI q;refine jrn (s:={ s with heap:=h1,toks:=s.toks+1 }) hS1 (by rw [kb];omega) fun h2 b sb2 hS2=>?_;have e2:ns.take i++[v]=ns.take (i+1):=by rw [List.take_succ,Ya hlt,<- hval,Yc,Ya hlt];rfl
   rw [e2] at hS2;refine Yj ⟨yt yR _,ih (i+1) _ (by omega) hlt (st1.extBut sb2.extBut (Ne.symm hSI)) ((hl.extBut sb1.extBut hlI).extBut sb2.extBut (Ne.symm hSl)) hS2 fun h' tk' kk hS'=>?_⟩;exact hR h' tk' (fun b o b1 b2 q=>kk b o b1 b2 (sb2.extBut b o b1 (sb1.extBut b o b2 q))) hS'
theorem ji8 (a:Value) {Q₁:Value->Shared->Prop}
 (h:∀led:Bool,led=!w.params.followText "set-order" → Q₁ (.ref s.heap.objs.size) { s with heap:=s.heap.push { cls:=.type "set",dict:=none,data:=.set #[] 0 (.fresh 0 0 led) } }) :
 codeAny (model prog w) A (.call (.builtin "set.__new__") ⟨[.type "set",a],[]⟩) (wants Q₁ E) s:=by
 refine codeAny_of_tree ?_;show wpAny _ A.in1 (do checkBuiltinCall "set.__new__" ⟨[.type "set",a],[]⟩;again (.builtin "set.__new__" ⟨[.type "set",a],[]⟩)) _ _ s;refine Yb (wpAny_of_eq (PySem.F.newCall_set_1 a) (Yj ⟨yt PySem.F.plain_set_new _,yB PySem.F.entry_set_new ?_⟩));rw [yd PySem.F.plain_set_new _];unfold Builtin.«set.__new__» Builtin.Frozenset.newClass;have hsub:=sub_set_self;obtain ⟨hp,g,d,tk,os⟩:=s;dsimp only
 wp_walk
 refine K7 (Yj ?_);dsimp only;simp only [newObj];refine Yb (wpAny_alloc (Yj ?_));exact Yj (h _ rfl)
set_option maxHeartbeats 4000000 in
theorem jha {l:Addr} {items:Array Value} {ns:List Int} {Q:Value->Shared->Prop} (hh:A.handled=none) (hl:s.heap.IsList l items) (hi:IntsAre items.toList ns) (hb:ns.length+1<scanBound)
 (h:∀(h':Heap) (tk:Nat),Z8 prog w h' s.heap.objs.size ns->‹"ai"›->Q (.ref s.heap.objs.size) { s with heap:=h',toks:=tk }) :
 wpAny (model prog w) A (call (.type "set") [.ref l]) Q E s:=by
 obtain ⟨c,tl,hmro⟩:=PySem.F.called_set.mro;have hmade:=PySem.F.called_set.made;have hsub:=PySem.F.called_set.sub;refine wpAny_call (codeAny_of_tree ?_);show wpAny _ _ (callAny (.type "set") _) _ _ _;refine Yj ⟨Code.quiet_builtin _ ‹"aL"›,yB PySem.F.entry_type_call ?_⟩;rw [Around.under_plain (weight_type_call_type "set" [.ref l] []) rfl];have h1:=PySem.F.called_set.notType;have h2:=PySem.F.called_set.canCreate;have hct:=PySem.F.typeCall_set_1 (.ref l)
 repeat (any_goals (first | assumption | wp_step))
 refine kD (ji8 (.ref l) (E:=E) (Q₁:=fun obj s₁=>∃led:Bool,led=(!w.params.followText "set-order") ∧ obj=.ref s.heap.objs.size ∧ s₁={ s with heap:=s.heap.push { cls:=.type "set",dict:=none,data:=.set #[] 0 (.fresh 0 0 led) } }) fun led e=>⟨led,e,rfl,rfl⟩) fun r s₁ hr=>?_;cases r with
 | error e=>exact hr
 | ok fl=>
   cases fl with
   | ret obj=>
     obtain ⟨led,hled,rfl,rfl⟩:=hr;generalize hSd:s.heap.objs.size=S at *
     have hS:‹"Z"›.get? S=some { cls:=.type "set",dict:=none,data:=.set #[] 0 (.fresh 0 0 led) }:=by rw [← hSd];exact Yy _ rfl
     have hGs:‹"Z"›.objs.size=S+1:=by rw [← hSd,yh]
     have up:∀b o,s.heap.get? b=some o → ‹"Z"›.get? b=some o:=fun b o e=>Yh _ e;generalize s.heap.push { cls:=.type "set",dict:=none,data:=.set #[] 0 (.fresh 0 0 led) }=G at *
     have hT:Shared.TypeIs { s with heap:=G } (.ref S) "set":=⟨_,hS,rfl⟩;have hli:=PySem.F.called_set.init.lookup;have hbi:=PySem.F.called_set.init.bind (.ref S)
     repeat (any_goals (first | assumption | wp_step))
     refine kD (codeAny_call_builtin (R:=wants (fun r s₂=>r=.none/\∃h' tk,s₂={ s with heap:=h',toks:=tk }/\Z8 prog w h' S ns/\(∀b o,s.heap.get? b=some o->h'.get? b=some o)) E) PySem.F.called_set.init.plain PySem.F.entry_set_init (check_set_init_1 hT ?_)) fun r₂ s₂ hr₂=>?_
     . obtain ⟨ol,hol,hcl,nl,hdl⟩:=hl;obtain ⟨ocls,odict,odata,oslots⟩:=ol;simp only at hcl hdl;subst hcl;subst hdl;have hol':=up _ _ hol;have hsls:=PySem.F.sub_list_set;have hslf:=PySem.F.sub_list_frozenset;have hne:(Value.type "list" == Value.type "dict")=false:=by decide
       have hl1:G.IsList l items:=⟨_,hol',rfl,nl,rfl⟩;unfold Builtin.«set.__init__» noKeywords Builtin.Frozenset.updateFrom;generalize hPI:pyIter=PI
       wp_walk
       subst hPI;refine wpAny_pyIter_list hl1 ?_;refine Yb (wpAny_runValue ?_);have hlS:@LT.lt Nat instLTNat l S:=by have q:=L2.ltN hol;rwa [hSd] at q
       have hh3:A.in1.in1.in1.handled=none:=by simp [hh]
       refine jdE (A:=A.in1.in1) (S:=S) (l:=l) (items:=items) (ns:=ns) hh3 hi (I:=G.objs.size) ?_ (yn hlS) ?_ hb (ns.length-0) 0 _ rfl (ye _) ⟨_,Yy _ rfl,rfl,rfl⟩ (hl1.push _) ?_ ?_
       . rw [hGs];exact Yv (yJ hlS)
       . rw [hGs];exact Yv (yO _)
       . refine ⟨_,#[],0,.fresh 0 0 led,Yh _ hS,⟨rfl,rfl,rfl⟩,rfl,fun e he=>by simp at he,fun k=>by simp,rfl,by simp,by simp,fun i j _ hj=>by simp [SetTable.fresh] at hj,fun q=>?_⟩;show led=true;rw [hled,q];rfl
       . intro h' tk kk hS';show wpAny _ _ _ _ _ _;refine Yj ?_;show wpAny _ _ (ret Value.none) _ _ _;refine Yj ⟨rfl,h',tk,rfl,hS',fun b o e=>kk b o ?_ ?_ (Yh _ (up b o e))⟩
         . have q:=L2.ltN e;rw [hSd] at q;exact Yv q
         . have q:=L2.ltN e;rw [hSd] at q;rw [hGs];exact Yv (yJ q)
     . cases r₂ with
       | error e=>exact hr₂
       | ok fl₂=>
         cases fl₂ with
         | ret r=>
           obtain ⟨rfl,h',tk,rfl,hS',hk'⟩:=hr₂
           repeat (any_goals (first | assumption | wp_step))
           exact h _ _ hS' hk'
         | _=>exact hr₂.elim
   | _=>exact hr.elim
end
end L2S
namespace L2S
open PySem PySem.Spec PyProof.Rows
theorem slot_setit_next:Slot "set_iterator" "__next__" "set_iterator.__next__":=
 .of (owner := "set_iterator") (n:="__next__") (by rw [KM,Kd];kernel_rfl) ‹"aL"› ‹"aL"› ‹"aL"›
  (by first | exact .inl ‹"aL"› | exact .inr ‹"aL"›) (by rw [isSubtype_type];kernel_rfl)
theorem QX:entryFor table "set_iterator.__next__"=some Builtin.«set_iterator.__next__»:=entryFor_of_tree (by kernel_rfl)
theorem Zp (a:Value):argsOk "set_iterator.__next__" ⟨[a],[]⟩:=by unfold argsOk;kernel_rfl
theorem jc3:entryFor table "set.__iter__"=some Builtin.«frozenset.__iter__»:=entryFor_alias (id' := "frozenset.__iter__") (by kernel_rfl) rfl ‹"aL"› (by kernel_rfl)
abbrev SIt (h:Heap) (it:Addr) (first:Value) (i:Nat) (a:Addr) (n ep:Nat):Prop:=h.get? it=some { cls:=.type "set_iterator",dict:=none,data:=.fields #[first,rawInt i,.ref a,rawInt n,rawInt ep],slots:=#[] }
inductive Mode (w:World) (h:Heap) (a:Addr) (es:Array (Int×Value)) (ep:Nat) (t:SetTable):Value->Nat->List Value->Prop where
 | text {sl i:Nat} (hb:w.params.followText "set-order"=true):Mode w h a es ep t (rawInt sl) i ((pickOrder (w.params.setOrder a ep) es).toList.map (·.2))
 | plain {sl i:Nat} (hb:w.params.followText "set-order"=false) (hd:(!t.plain && decide (es.size>1))=false) (hs:SetTable.below t.place sl=i):Mode w h a es ep t (rawInt sl) i (es.toList.map (·.2))
 | drawn {T:Addr} {i:Nat} {pl:List Nat} (hb:w.params.followText "set-order"=false) (hT:h.get? T=some { cls:=.type "tuple",data:=.seq (pl.map fun (j:Nat)=>rawInt j).toArray }) (hp:pl.Perm (List.range es.size)) :
  Mode w h a es ep t (.ref T) i (pl.filterMap fun j=>(es[j]?).map (·.2))
theorem Mode.perm {w:World} {h:Heap} {a:Addr} {es:Array (Int×Value)} {ep:Nat} {t:SetTable} {f:Value} {i:Nat} {q:List Value} (M:Mode w h a es ep t f i q):q.Perm (es.toList.map (·.2)):=by
 cases M with
 | text hb=>exact (jjR _ es).map _
 | plain hb hd hs=>exact .rfl
 | drawn hb hT hp=>refine (hp.filterMap _).trans ?_;have e:=filterMap_getElem?_range es;rw [<-e,List.map_filterMap]
theorem Mode.at {w:World} {h h':Heap} {a:Addr} {es:Array (Int×Value)} {ep:Nat} {t:SetTable} {f:Value} {i:Nat} {q:List Value} (M:Mode w h a es ep t f i q) (k:∀T o,f=.ref T->h.get? T=some o->h'.get? T=some o):Mode w h' a es ep t f i q:=by
 cases M with
 | text hb=>exact .text hb
 | plain hb hd hs=>exact .plain hb hd hs
 | drawn hb hT hp=>exact .drawn hb (k _ _ rfl hT) hp
theorem jfO {es:Array (Int×Value)}:∀{pl:List Nat} {i j:Nat},(∀x∈pl,x<es.size)->pl[i]?=some j->(pl.filterMap fun j=>(es[j]?).map (·.2))[i]?=(es[j]?).map (·.2)
 | [],i,j,_,e=>by simp at e
 | a::l,i,j,h,e=>by
   have ha:a<es.size:=h a Ye;rw [Kq,YK ha];dsimp only [Option.map];cases i with
   | zero=>
     have:a=j:=by simpa using e
     subst this;rw [YK ha];rfl
   | succ i=>rw [Yp];exact jfO (fun x hx=>h x (Yg _ hx)) (by simpa using e)
section
variable {prog:Program} {w:World} {A:Around} {E:Value->Shared->Prop} {s:Shared}
theorem Jw {Q:Bool → Shared → Prop} (h:Q (w.params.followText "set-order") s):wpAny (model prog w) A setsByText Q E s:=by unfold setsByText;exact Yb (K7 (Yj h))
theorem jaq {a:Addr} {o:Obj} {es:Array (Int×Value)} {ep:Nat} {t:SetTable} {Q:Array (Int×Value)->Shared->Prop} (ho:s.heap.get? a=some o) (hd:o.data=.set es ep t) (hf:t.fits es.size=true) (h:Q es s):wpAny (model prog w) A (setEntries a) Q E s:=by unfold setEntries;exact Yb (yi ho hd hf (Yj h))
structure SetL (w:World) (h:Heap) (a:Addr) (o:Obj) (es:Array (Int×Value)) (ep:Nat) (t:SetTable):Prop where
 ob:h.get? a=some o
 ex:o.ExactSet
 dt:o.data=.set es ep t
 fit:t.fits es.size=true
 ris:Ris t.place
 led:w.params.followText "set-order"=false → t.led=true
theorem SetL.psize {w:World} {h:Heap} {a:Addr} {o:Obj} {es:Array (Int×Value)} {ep:Nat} {t:SetTable} (L:SetL w h a o es ep t):t.place.size=es.size:=by have:=L.fit;simp only [SetTable.fits,KD,kL] at this;exact this.1
theorem jkF {it a:Addr} {o:Obj} {es:Array (Int×Value)} {ep:Nat} {t:SetTable} {f:Value} {i:Nat} {q:List Value} {v:Value} {Q:Option Value->Shared->Prop} (L:SetL w s.heap a o es ep t) (ha:a≠it) (hf:∀T,f=.ref T->T≠it)
 (hi:SIt s.heap it f i a es.size ep) (M:Mode w s.heap a es ep t f i q) (hx:q[i]?=some v)
 (hQ:∀h' f',SIt h' it f' (i+1) a es.size ep->Mode w h' a es ep t f' (i+1) q->(∀T,f'=.ref T->T≠it)->Heap.SameBut it s.heap h'->Q (some v) { s with heap:=h' }):wpAny (model prog w) A (pyNext (.ref it)) Q E s:=by
 have hT:s.TypeIs (.ref it) "set_iterator":=⟨_,hi,rfl⟩;unfold pyNext;refine Yb ‹"at"›;show wpAny _ _ (fieldsOf (.ref it) >>= _) _ _ _;refine Yb (wpAny_fieldsOf hi rfl ?_);show wpAny _ _ (setEntries a >>= _) _ _ _;refine Yb (jaq L.ob L.dt L.fit ?_);rw [if_neg (by simp)];dsimp only
 -- the two stores behind a place in the table or in the given order
 have two:∀(sl nx:Nat) (x:Value),SIt s.heap it (rawInt sl) i a es.size ep->x=v->(∀h',Mode w h' a es ep t (rawInt nx) (i+1) q)->wpAny (model prog w) A.in1 (do
       setField (.ref it) 0 (rawInt (nx:Int))
       setField (.ref it) 1 (rawInt ((i:Int)+1))
       ret x) (fun fin s'=>∃v,fin=.done (.ret v)/\wpAny (model prog w) A (pure (some v)) Q E s') (fun _ _=>False) s:=by
  intro sl nx x hi' hxv hm;refine Yb (yA hi' (by simp) fun h1 e1 s1=>?_);replace e1:SIt h1 it (rawInt nx) i a es.size ep:=e1;refine Yb (yA e1 (by simp) fun h2 e2 s2=>?_);have e3:SIt h2 it (rawInt nx) (i+1) a es.size ep:=by
   have c:((i+1:Nat):Int)=(i:Int)+1:=by omega
   unfold SIt;rw [c];exact e2
  refine Yj ⟨x,rfl,Yj ?_⟩;rw [hxv];exact hQ h2 _ e3 (hm h2) (fun T z=>nomatch z) (s1.trans s2)
 cases M with
 | @text sl _ hb=>
   show wpAny _ _ (setNext a (sl:Int).toNat (i:Int).toNat (ep:Int).toNat >>= _) _ _ _;rw [Yt,Yt,Yt];refine Yb ?_;unfold setNext;refine Yb (yi L.ob L.dt L.fit ?_);dsimp only;refine Yb (Jw ?_);rw [hb,if_pos rfl,if_neg (by simp)];refine Yb ?_;unfold setWalk;refine Yb (yi L.ob L.dt L.fit ?_);dsimp only;refine Yb (Jw ?_);rw [hb,if_pos rfl];refine Yb (K7 (Yj (Yj ?_)));show wpAny _ _ (match ((pickOrder (w.params.setOrder a ep) es)[i]?).map fun e=>(e.2,sl) with | some (x,next)=>_ | none=>_) _ _ _;have hx':((pickOrder (w.params.setOrder a ep) es)[i]?).map (·.2)=some v:=by rw [List.getElem?_map,yb] at hx;exact hx
   cases e:(pickOrder (w.params.setOrder a ep) es)[i]? with
   | none=>rw [e] at hx';cases hx'
   | some p=>rw [e] at hx';exact yj (two sl sl p.2 hi (Option.some.inj hx') fun h'=>.text hb) (fun _ _ z=>z) fun _ _ z=>z.elim
 | @plain sl _ hb hd hs=>
   show wpAny _ _ (setNext a (sl:Int).toNat (i:Int).toNat (ep:Int).toNat >>= _) _ _ _;rw [Yt,Yt,Yt];refine Yb ?_;unfold setNext;refine Yb (yi L.ob L.dt L.fit ?_);dsimp only;refine Yb (Jw ?_);rw [hb,if_neg Yi];show wpAny _ _ (if (!t.plain && decide (es.size>1))=true then _ else _) _ _ _;rw [if_neg (by rw [hd];exact Yi)];show wpAny _ _ ((if (!t.led && !es.isEmpty)=true then _ else _) >>= _) _ _ _;rw [if_neg (by rw [L.led hb];simp)];refine Yb (Yj ?_);have hil:i<es.size:=by
    rcases Y2 i es.size with z | z
    . exact z
    . rw [Yz (by simpa using z)] at hx;cases hx
   have hip:i<t.place.size:=by rw [L.psize];exact hil
   have hx':es[i].2=v:=by rw [List.getElem?_map,yb,YK hil] at hx;exact Option.some.inj hx
   rw [hs,YK hil,YK hip];refine Yj ?_;have g:t.place.getD i 0=t.place[i]:=by simp [Array.getD,hip]
   have nxt:=jh2 L.ris hip;rw [g] at nxt;exact yj (two sl (t.place[i]+1) es[i].2 hi hx' fun h'=>.plain hb hd nxt) (fun _ _ z=>z) fun _ _ z=>z.elim
 | @drawn T _ pl hb hT' hp=>
   have hlen:pl.length=es.size:=by have:=hp.length_eq;simpa using this
   have hall:∀x∈pl,x<es.size:=fun x hx=>KA.mp (hp.mem_iff.mp hx);show wpAny _ _ (seqItems? (.ref T) >>= _) _ _ _;refine Yb (yQ hT' rfl ?_);have hil:i<pl.length:=by
    rcases Y2 i pl.length with z | z
    . exact z
    . have z':(pl.filterMap fun j=>(es[j]?).map (·.2)).length<=i:=YW (List.length_filterMap_le _ _) z;rw [Yz z'] at hx;cases hx
   have hj:pl[i]<es.size:=hall _ (Kr hil);have hx':es[pl[i]].2=v:=by rw [jfO hall (Ya hil),YK hj] at hx;exact Option.some.inj hx
   have e:((pl.map fun (j:Nat)=>rawInt j).toArray)[(i:Int).toNat]?=some (Value.int (pl[i]:Nat) 0):=by rw [Yt,List.getElem?_toArray,List.getElem?_map,Ya hil];rfl
   dsimp only;rw [e];dsimp only;refine Yb ?_;unfold setNextDrawn;refine Yb (yi L.ob L.dt L.fit ?_);dsimp only;rw [if_neg (by simp),Yt,YK hj];refine Yj ?_;refine Yb (yA hi (by simp) fun h2 e2 s2=>?_);have e3:SIt h2 it (.ref T) (i+1) a es.size ep:=by
    have c:((i+1:Nat):Int)=(i:Int)+1:=by omega
    unfold SIt;rw [c];exact e2
   refine Yj ⟨_,rfl,Yj ?_⟩;show Q (some es[pl[i]].2) _;rw [hx'];exact hQ h2 _ e3 (.drawn hb (s2.extBut _ _ (hf T rfl) hT') hp) hf s2
end
end L2S
namespace L2S
open PySem PySem.Spec PyProof.Rows
section
variable {prog:Program} {w:World} {A:Around} {E:Value->Shared->Prop} {s:Shared}
theorem jnG {α:Type} {Q:α → Shared → Prop} (hh:A.handled=none) (h:∀h' e,‹"aa"› → (∃o,h'.get? e=some o ∧ o.cls=.type "StopIteration") → E (.ref e) { s with heap:=h' }) :
 wpAny (model prog w) A (do let x ← newExc (.type "StopIteration") [];raiseNew x:Sem α) Q E s:=by
 refine Yb ?_;simp only [newExc,newTuple];refine Yb (Kh ?_ (by size_fits));refine Yb (m:=firstArgMember _ _) (wpAny_of_eq (a:=Value.none) (by first | rfl | (simp only [firstArgMember];rfl)) ?_);refine Kh ?_ (by size_fits);simp only [raiseNew];refine Yb (wpAny_handled ?_);rw [hh];refine Yb (Yj (wpAny_throw ?_));exact h _ _ (fun b o e=>Yh _ (Yh _ e)) ⟨_,Yy _ rfl,rfl⟩
theorem jnA {it a:Addr} {o:Obj} {es:Array (Int×Value)} {ep:Nat} {t:SetTable} {f:Value} {i:Nat} {q:List Value} {Q:Option Value->Shared->Prop} (hh:A.handled=none) (L:SetL w s.heap a o es ep t)
 (hi:SIt s.heap it f i a es.size ep) (M:Mode w s.heap a es ep t f i q) (hx:i=q.length)
 (hQ:∀h',(∀b o,b≠it->s.heap.get? b=some o->h'.get? b=some o)->Q none { s with heap:=h' }):wpAny (model prog w) A (pyNext (.ref it)) Q E s:=by
 have hT:s.TypeIs (.ref it) "set_iterator":=⟨_,hi,rfl⟩;have hlen:q.length=es.size:=by have:=M.perm.length_eq;simpa using this
 unfold pyNext;refine Yb ‹"at"›;show wpAny _ _ (fieldsOf (.ref it) >>= _) _ _ _;refine Yb (wpAny_fieldsOf hi rfl ?_);show wpAny _ _ (setEntries a >>= _) _ _ _;refine Yb (jaq L.ob L.dt L.fit ?_);rw [if_neg (by simp)];dsimp only;have stop:∀(h1:Heap),(∀b o,b≠it → s.heap.get? b=some o → h1.get? b=some o) → wpAny (model prog w) A.in1 (do let x ← newExc (.type "StopIteration") [];raiseNew x:Sem Fin) (fun fin s'=>∃v,fin=.done (.ret v) ∧ wpAny (model prog w) A (pure (some v)) Q E s')
  (fun e s'=>wpAny (model prog w) A (do let b ← isInstance e (.type "StopIteration");if b=true then pure none else throw e) Q E s') { s with heap:=h1 }:=fun h1 k1=>by
  refine jnG (s:={ s with heap:=h1 }) (by simpa using hh) fun h' e k zz=>?_;obtain ⟨oe,ho,hc⟩:=zz;refine Yb (K6 (T := "StopIteration") (b:=true) ⟨oe,ho,hc⟩ isSubtype_stop ?_);exact Yj (hQ h' fun b o hb e=>k b o (k1 b o hb e))
 cases M with
 | @text sl _ hb=>show wpAny _ _ (setNext a (sl:Int).toNat (i:Int).toNat (ep:Int).toNat >>= _) _ _ _;rw [Yt,Yt,Yt];refine Yb ?_;unfold setNext;refine Yb (yi L.ob L.dt L.fit ?_);dsimp only;refine Yb (Jw ?_);rw [hb,if_pos rfl,if_neg (by simp)];refine Yb ?_;unfold setWalk;refine Yb (yi L.ob L.dt L.fit ?_);dsimp only;refine Yb (Jw ?_);rw [hb,if_pos rfl];refine Yb (K7 (Yj (Yj ?_)));show wpAny _ _ (match ((pickOrder (w.params.setOrder a ep) es)[i]?).map fun e=>(e.2,sl) with | some (x,next)=>_ | none=>_) _ _ _;rw [yp (by rw [hx,Yd,YL];exact Yq _)];refine Yb (yA hi (by simp) fun h1 e1 s1=>?_);exact stop h1 fun b o hb e=>s1.extBut b o hb e
 | @plain sl _ hb hd hs=>show wpAny _ _ (setNext a (sl:Int).toNat (i:Int).toNat (ep:Int).toNat >>= _) _ _ _;rw [Yt,Yt,Yt];refine Yb ?_;unfold setNext;refine Yb (yi L.ob L.dt L.fit ?_);dsimp only;refine Yb (Jw ?_);rw [hb,if_neg Yi];show wpAny _ _ (if (!t.plain && decide (es.size>1))=true then _ else _) _ _ _;rw [if_neg (by rw [hd];exact Yi)];show wpAny _ _ ((if (!t.led && !es.isEmpty)=true then _ else _) >>= _) _ _ _;rw [if_neg (by rw [L.led hb];simp)];refine Yb (Yj ?_);rw [hs,yp (by omega)];refine Yj ?_;dsimp only;refine Yb (yA hi (by simp) fun h1 e1 s1=>?_);exact stop h1 fun b o hb e=>s1.extBut b o hb e
 | @drawn T _ pl hb hT' hp=>
   have hpl:pl.length=es.size:=by have:=hp.length_eq;simpa using this
   show wpAny _ _ (seqItems? (.ref T) >>= _) _ _ _;refine Yb (yQ hT' rfl ?_);have e:((pl.map fun (j:Nat)=>rawInt j).toArray)[(i:Int).toNat]?=none:=by rw [Yt,List.getElem?_toArray];exact Yz (by rw [Yd];omega)
   dsimp only;rw [e];dsimp only;refine Yb (yA hi (by simp) fun h1 e1 s1=>?_);refine Yb (yA e1 (by simp) fun h2 e2 s2=>?_);exact stop h2 fun b o hb e=>s2.extBut b o hb (s1.extBut b o hb e)
theorem jma {a:Addr} {o:Obj} {es:Array (Int×Value)} {ep:Nat} {t:SetTable} {Q:Value->Shared->Prop} (L:SetL w s.heap a o es ep t) (hz:es.size<=sizeLine)
 (hQ:∀h' d it f q,SIt h' it f 0 a es.size ep->Mode w h' a es ep t f 0 q->(∀T,f=.ref T->T≠it)->s.heap.objs.size<=it->‹"ai"›->Q (.ref it) { s with heap:=h',drawn:=d }) :
 wpAny (model prog w) A (pyIter (.ref a)) Q E s:=by
 have hT:s.TypeIs (.ref a) "set":=⟨_,L.ob,L.ex.1⟩;refine wpAny_pyIter_slot hT PySem.F.slot_set_iter (yF PySem.F.slot_set_iter hT jc3 ?_ (PySem.F.args_set_iter_1 _));show wpAny _ _ (Builtin.Frozenset.sizeOf a >>= _) _ _ _;unfold Builtin.Frozenset.sizeOf;refine Yb (Yb (jaq L.ob L.dt L.fit (Yj ?_)));show wpAny _ _ (setDrawn a >>= _) _ _ _;refine Yb ?_;unfold setDrawn;refine Yb (yi L.ob L.dt L.fit ?_);dsimp only;refine Yb (Jw (Yj ?_));show wpAny _ _ (if (!w.params.followText "set-order" && (!t.plain && decide (es.size>1)))=true then _ else _) _ _ _;have fin:∀(g:Heap) (d:Drawn) (f:Value) (q:List Value),(∀b o,s.heap.get? b=some o->g.get? b=some o)->s.heap.objs.size<=g.objs.size->(∀h',(∀b o,g.get? b=some o->h'.get? b=some o)->Mode w h' a es ep t f 0 q)->(∀T,f=.ref T->@LT.lt Nat instLTNat T g.objs.size)->
  wpAny (model prog w) A.in1 (do ret (← newFields "set_iterator" [f,rawInt 0,.ref a,rawInt es.size,rawInt (← setEpoch a)])) (fun fin s'=>∃v,fin=.done (.ret v) ∧ ∃T' r,s'.TypeIs v T' ∧ typeLookup (.type T') "__next__"=pure (some r) ∧ Q v s') E { s with heap:=g,drawn:=d }:=by
  intro g d f q k hle hm hf;refine Yb (wpAny_setEpoch_of (s:={ s with heap:=g,drawn:=d }) (k _ _ L.ob) L.dt L.fit ?_);unfold newFields;refine Yb (Kh ?_ (by size_fits));refine Yj ⟨_,rfl, "set_iterator",_,⟨_,Yy _ rfl,rfl⟩,slot_setit_next.lookup,?_⟩;exact hQ _ d _ f q (Yy _ rfl) (hm _ fun b o e=>Yh _ e) (fun T z=>Yv (hf T z)) hle fun b o e=>Yh _ (k b o e)
 cases hb:w.params.followText "set-order" with
 | true=>rw [if_neg (by simp)];exact fin s.heap s.drawn (rawInt (0:Nat)) _ (fun b o e=>e) (Yq _) (fun h' _=>.text hb) fun T z=>nomatch z
 | false=>
   cases hd:(!t.plain && decide (es.size>1)) with
   | false=>rw [if_neg (by simp)];exact fin s.heap s.drawn (rawInt (0:Nat)) _ (fun b o e=>e) (Yq _) (fun h' _=>.plain hb hd (jhE L.ris)) fun T z=>nomatch z
   | true=>
     rw [if_pos (by simp)];refine Yb (jia es.size (List.range es.size) s (by simp) fun ys d hp=>?_);have hyl:ys.length=es.size:=by have:=hp.length_eq;simpa using this
     refine Yb (wpAny_newTuple (hsz:=by rw [Yd,hyl];exact hz) ?_);refine fin _ d (.ref s.heap.objs.size) _ (fun b o e=>Yh _ e) (by rw [yh];exact KG _) (fun h' k=>.drawn hb (k _ _ (Yy _ rfl)) hp) fun T z=>?_;injection z with z;rw [<-z,yh];exact yO _
theorem jl7 {a:Addr} {Q:Bool → Shared → Prop} (hT:s.TypeIs (.ref a) "set") (h:Q false s):wpAny (model prog w) A (Builtin.List.listLengthHint (.ref a)) Q E s:=by
 unfold Builtin.List.listLengthHint;refine Yb (yW hT PySem.F.slot_set_len.lookup ?_);generalize hid:("set.__len__":String)=id0
 wp_delta
 rw [show splitId id0=some ("set","__len__") from by subst hid;decide +kernel];subst hid;refine Yb (K6 (T := "set") (b:=true) hT (by rw [isSubtype_type];kernel_rfl) ?_);refine Ki (fun hab=>absurd hab (by decide)) (fun _=>?_);refine Ki (fun _=>?_) (fun hab=>absurd ‹"aL"› hab);refine Yb (wpAny_typeOf hT ?_);exact Yj h
theorem jgC {a:Addr} {o:Obj} {es:Array (Int×Value)} {ep:Nat} {t:SetTable} {Q:List Value->Shared->Prop} (hh:A.handled=none) (L:SetL w s.heap a o es ep t) (hz:es.size<sizeLine)
 (h:∀h' d tk (vs:List Value),‹"ai"›->s.heap.objs.size<=h'.objs.size->vs.Perm (es.toList.map (·.2))->Q vs { s with heap:=h',drawn:=d,toks:=tk }):wpAny (model prog w) A (collect (.ref a)) Q E s:=by
 unfold collect;refine Yb (wpAny_runValue (yB entry_proto_collect' ?_));rw [yd PySem.F.plain_proto_collect _];show wpAny _ A.in1 (newList [] >>= fun l=>again (.builtin "list.__iadd__" ⟨[l,.ref a],[]⟩)) _ _ s;refine Yb (Kh ?_);refine Yj ⟨yt PySem.F.plain_list_iadd _,yB entry_list_iadd' ?_⟩;rw [yd PySem.F.plain_list_iadd _];generalize hSd:s.heap.objs.size=S at *
 have hS:‹"ab"›.get? S=some { cls:=.type "list",data:=.seq #[] }:=by rw [← hSd];exact Yy _ rfl
 have up:∀b o,s.heap.get? b=some o → ‹"ab"›.get? b=some o:=fun b o e=>Yh _ e;have hGs:‹"ab"›.objs.size=S+1:=by rw [← hSd,yh]
 generalize s.heap.push { cls:=.type "list",data:=.seq ([]:List Value).toArray }=G at *
 have nS:∀b o,s.heap.get? b=some o->b≠S:=fun b o e=>by have q:=L2.ltN e;rw [hSd] at q;exact Yv q
 have aS:=nS _ _ L.ob;have L1:SetL w G a o es ep t:=⟨up _ _ L.ob,L.ex,L.dt,L.fit,L.ris,L.led⟩;have hT:Shared.TypeIs { s with heap:=G } (.ref a) "set":=⟨_,L1.ob,L.ex.1⟩;show wpAny _ A.in1 (Builtin.List.listExtendWith (.ref S) (.ref a) (.ref S)) _ _ _;unfold Builtin.List.listExtendWith;refine Yb (wpAny_typeOf (T := "set") hT ?_);have e1:Builtin.List.listSameRef (.ref S) (.ref a)=false:=by simp [Builtin.List.listSameRef,Ne.symm aS]
 have e2:(Value.type "set" == Value.type "list")=false:=by decide
 have e3:(Value.type "set" == Value.type "tuple")=false:=by decide
 simp only [e1,e2,e3,Bool.or_false,YY,yu];refine Yb (jma (s:={ s with heap:=G }) L1 (yL hz) fun G1 d it f q hit M hf hle k1=>?_);have itS:it≠S:=by
  have z:S+1<=it:=by have:=hle;show S+1<=it;rw [<-hGs];exact this
  exact yn z
 have ait:a≠it:=by
  have z:S+1<=it:=by have:=hle;show S+1<=it;rw [<-hGs];exact this
  have z2:=L2.ltN L.ob;rw [hSd] at z2;exact Yv (Yo (yJ z2) z)
 have hT1:Shared.TypeIs { s with heap:=G1,drawn:=d } (.ref a) "set":=⟨_,k1 _ _ L1.ob,L.ex.1⟩;refine Yb (Y8 (jl7 hT1 ?_));have hlen:q.length=es.size:=by have:=M.perm.length_eq;simpa using this
 have key:∀(h1:Heap) (c:Nat),Heap.SameBut S G1 h1 → h1.get? S=some { cls:=.type "list",data:=.seq #[] c } →
  codeAny (model prog w) A (.builtin "list.extend.loop" ⟨[.ref S,.ref it,.ref S],[]⟩) (fun r s'=>match r with
    | .ok (.ret v)=>wpAny (model prog w) A (match v with
     | .ref a=>do
       let o <- load a
       match o.data with
         | .seq xs _=>pure xs.toList
         | _=>unsupported "internal:collect"
     | _=>unsupported "internal:collect") Q E s'
    | .ok _=>False
    | .error e=>E e s') { s with heap:=h1,drawn:=d }:=by
  intro h1 c sb hS1;have nT:∀(g:Heap) (acc:Array Value) (c:Nat),g.get? S=some { cls:=.type "list",data:=.seq acc c } → ∀(f:Value) (i:Nat) (q:List Value),Mode w g a es ep t f i q → ∀T,f=.ref T → T≠S:=by
   rintro g acc c e f i q Mg T rfl z;cases Mg with
   | drawn hb hT hp=>rw [z,e] at hT;have y:(Value.type "list")=Value.type "tuple":=congrArg Obj.cls (Option.some.inj hT);injection y with y;exact absurd y (by decide)
  refine L2.jbT (fun n acc s'=>∃(i c:Nat) (g:Heap) (f:Value),s'={ s with heap:=g,drawn:=d } ∧ n=es.size+1-i ∧ i ≤ es.size ∧ acc=(q.take i).toArray ∧ g.get? S=some { cls:=.type "list",data:=.seq acc c } ∧ SIt g it f i a es.size ep ∧ Mode w g a es ep t f i q ∧ SetL w g a o es ep t ∧
      (∀T,f=.ref T->T≠it)/\∀b o,s.heap.get? b=some o->g.get? b=some o) ?_ (es.size+1) #[] _
   ⟨0,c,h1,f,rfl,rfl,ye _,rfl,hS1,sb.extBut _ _ itS hit,M.at fun T o z e=>sb.extBut _ _ (nT G1 #[] 0 (k1 _ _ hS) f 0 q M T z) e,⟨sb.extBut _ _ aS (k1 _ _ L1.ob),L.ex,L.dt,L.fit,L.ris,L.led⟩,hf,fun b o e=>sb.extBut _ _ (nS b o e) (k1 _ _ (up b o e))⟩
  rintro n acc s' ⟨i,c,g,f,rfl,rfl,hi,rfl,hSg,sit,Mg,Lg,hfg,kg⟩;refine ⟨by simp;omega,?_⟩;rcases Y2 i es.size with hlt | hge
  . have hx:q[i]?=some q[i]:=Ya (by omega);refine jkF (s:={ s with heap:=g,drawn:=d }) Lg ait hfg sit Mg hx fun h' f' sit' M' hf' sb'=>?_;have hS':=sb'.extBut _ _ (Ne.symm itS) hSg;refine ⟨⟨c,hS'⟩,fun h'' c' e'' sb''=>⟨es.size+1-(i+1),by omega,i+1,c',h'',f',rfl,rfl,hlt,?_,e'',sb''.extBut _ _ itS sit',M'.at fun T o z e=>sb''.extBut _ _ (nT h' _ c hS' f' (i+1) q M' T z) e,⟨sb''.extBut _ _ aS (sb'.extBut _ _ ait Lg.ob),L.ex,L.dt,L.fit,L.ris,L.led⟩,hf',fun b o e=>sb''.extBut _ _ (nS b o e) (sb'.extBut _ _ ?_ (kg b o e))⟩⟩
    . rw [List.take_succ,hx];simp
    . have z:=L2.ltN e;rw [hSd] at z;have z2:S+1<=it:=by have:=hle;show S+1<=it;rw [<-hGs];exact this
      exact Yv (Yo (yJ z) z2)
  . have e:i=q.length:=by omega
    refine jnA (s:={ s with heap:=g,drawn:=d }) (by simpa using hh) Lg sit Mg e fun h' k'=>?_;have hS':=k' _ _ (Ne.symm itS) hSg;show wpAny _ A (load S >>= _) _ _ _;refine Yb (wpAny_load hS' ?_);refine Yj ?_;have e2:q.take i=q:=by rw [e,List.take_length]
    have:((q.take i).toArray).toList=q:=by rw [e2]
    rw [this];refine h h' d s.toks q (fun b o e=>k' _ _ ?_ (kg b o e)) (yL (L2.ltN hS')) M.perm;have z:=L2.ltN e;rw [hSd] at z;have z2:S+1<=it:=by have:=hle;show S+1<=it;rw [<-hGs];exact this
    exact Yv (Yo (yJ z) z2)
 have hS1:=k1 _ _ hS;refine Ki (fun _=>?_) (fun _=>Yj ⟨yt Ke _,key G1 0 (Heap.SameBut.refl _ _) hS1⟩);refine Yb (kj ?_);refine Yb ?_;show wpAny _ _ (updateSeq S (·.push .none) >>= fun _=>updateSeq S (·.pop)) _ _ _;refine Yb (yg hS1 rfl ?_);have hS2:=YU (Obj.mapSeq (·.push Value.none)) hS1 rfl;refine yg (hz:=by seq_fits) hS2 rfl ?_;have hS3:=YU (Obj.mapSeq (·.pop)) hS2 rfl;exact Yj ⟨yt Ke _,key _ _ ((Heap.SameBut.update ..).trans (Heap.SameBut.update ..)) hS3⟩
theorem jhb {a:Addr} {ns:List Int} {Q:Value->Shared->Prop} (hh:A.handled=none) (hS:Z8 prog w s.heap a ns) (h64:ns.length<64)
 (h:∀h' d tk l out c ks,‹"aa"› → s.heap.objs.size ≤ l → h'.get? l=some { cls:=.type "list",data:=.seq out c } → IntsAre out.toList ks → ks.Pairwise (· < ·) → (∀k,k∈ks ↔ k∈ns) → ks.length ≤ ns.length →
  Q (.ref l) { s with heap:=h',drawn:=d,toks:=tk }):wpAny (model prog w) A (call (.builtin "sorted") [.ref a]) Q E s:=by
 obtain ⟨o,es,ep,t,ho,hex,hd,hel,hmem,hf,hle,hnd,hris,hled⟩:=hS;have L:SetL w s.heap a o es ep t:=⟨ho,hex,hd,hf,hris,hled⟩;refine Calls.call_function_entry kind_sorted plain_sorted entry_sorted (args_sorted1 _) ?_;unfold Builtin.«sorted»;refine Yb (m:=checkCount "sorted" 1 1 _) (Yj ?_);refine Yb (jgC (by simpa using hh) L (Yo (by omega:es.size<64) (by decide)) fun h1 d tk vs k1 sz1 hp=>?_);have hvl:vs.length=es.size:=by have:=hp.length_eq;simpa using this
 refine Yb (wpAny_newList (hsz:=YW (by omega:vs.length<=64) (by decide)) ?_);have allI:∀{us:List Value},(∀v∈us,∃k t,v=Value.int k t)->IntsAre us (us.map jeT):=by
  intro us;induction us with
  | nil=>intro _;exact .nil
  | cons v us ih=>intro hv;obtain ⟨k,t,rfl⟩:=hv v Ye;exact .cons k t (ih fun x hx=>hv x (Yg _ hx))
 have hI:IntsAre vs (vs.map jeT):=allI fun v hv=>by obtain ⟨e,he,rfl⟩:=Y3.mp (hp.mem_iff.mp hv);exact jaX hel he
 have hkp:(vs.map jeT).Perm (es.toList.map fun e=>jeT e.2):=by
  have:=hp.map jeT
  rwa [YG] at this
 have hoL:(h1.push (seqObj "list" vs.toArray 0)).get? h1.objs.size=some (seqObj "list" vs.toArray 0):=Yy _ rfl;refine Yb (Y8 (yF slot_list_sort ⟨_,hoL,rfl⟩ entry_list_sort (list_sort_tree (s:={ s with heap:=h1.push (seqObj "list" vs.toArray 0),drawn:=d,toks:=tk }) hoL hI (by omega) fun out ks q1 q2 q3=>⟨_,rfl,?_⟩) (args_list_sort _)));refine Yj ⟨_,rfl,?_⟩;have hlt:h1.objs.size<(h1.push (seqObj "list" vs.toArray 0)).objs.size:=by rw [size_push'];exact yO _
 obtain ⟨c,hc⟩:=sortedHeap_at (out:=out) hoL;have hk2:(vs.map jeT).Nodup:=(hkp.nodup_iff).mpr hnd;have hk3:ks.Nodup:=(q2.nodup_iff).mpr hk2;refine h _ d tk h1.objs.size out c ks (fun b o e=>?_) sz1 hc q1 ?_ (fun k=>?_) ?_
 . have hb:b≠h1.objs.size:=Yv (Yw (k1 b o e));rw [sortedHeap_old hb (yK (Yw (k1 b o e)) hlt)];exact Yh _ (k1 b o e)
 . refine List.Pairwise.imp₂ (fun a b (x:a<=b) (y:a≠b)=>?_) q3 hk3;omega
 . rw [q2.mem_iff,hkp.mem_iff,Y3,hmem k];constructor
   . rintro ⟨e,he,rfl⟩;obtain ⟨j,tj,q⟩:=jaX hel he;refine ⟨e,he,?_⟩;rw [q];exact is_int.mpr rfl
   . rintro ⟨e,he,q⟩;obtain ⟨j,tj,q'⟩:=jaX hel he;refine ⟨e,he,?_⟩;rw [q'] at q ⊢;exact (is_int.mp q).symm
 . have:=q2.length_eq;rw [Yd] at this;omega
end
end L2S
namespace L2
open PySem PySem.Spec PyProof.Rows
def jde (cells:List (Str×Addr)):List (Str×NameKind)->List (Str×Addr)->List (Str×Addr)
 | [],acc=>acc
 | (n,k)::r,acc=>jde cells r (if (k == NameKind.free)=true then (match cells.lookup n with | some c=>(n,c)::acc | none=>acc) else acc)
theorem jcA {α β:Type} {f:α->β->Sem (ForInStep β)} {g:α->β->β}:∀(l:List α) (b:β),(∀x∈l,∀b,f x b=pure (.yield (g x b)))->forIn l b f=pure (l.foldl (fun b x=>g x b) b)
 | [],b,_=>rfl
 | x::l,b,h=>by rw [List.forIn_cons,h x Ye,pure_bind];exact jcA l _ fun y hy=>h y (Yg _ hy)
theorem jdb (cells:List (Str×Addr)):∀(names:List (Str×NameKind)) (acc:List (Str×Addr)),
 names.foldl (fun b x=>if (x.2 == NameKind.free)=true then (match cells.lookup x.1 with | some c=>(x.1,c)::b | none=>b) else b) acc=jde cells names acc
 | [],_=>rfl
 | (n,k)::r,acc=>by rw [List.foldl_cons,jdb cells r];rfl
theorem jah {scope:Scope} {env:Env} (h:∀n,(n,NameKind.free)∈scope.names->∃c,env.cells.lookup n=some c):closureFor scope env=pure (jde env.cells scope.names []):=by
 unfold closureFor;rw [<-jdb];have key:=jcA (f:=fun (x:Str×NameKind) (cs:List (Str×Addr))=>match x with
  | (name,kind)=>if (kind == NameKind.free)=true then (do let c <- cellOf env name;pure (ForInStep.yield ((name,c)::cs))) else pure (ForInStep.yield cs))
  (g:=fun x b=>if (x.2 == NameKind.free)=true then (match env.cells.lookup x.1 with | some c=>(x.1,c)::b | none=>b) else b) scope.names [] (by
   rintro ⟨n,k⟩ hx b;dsimp only;by_cases hk:(k == NameKind.free)=true
   . have e:k=NameKind.free:=by simpa using hk
     subst e;obtain ⟨c,hc⟩:=h n hx;rw [if_pos hk,if_pos hk];unfold cellOf;rw [hc];rfl
   . rw [if_neg hk,if_neg hk])
 first
  | exact key
  | (refine Eq.trans ?_ key;rfl)
  | (simp only [key];rfl)
  | (show (forIn scope.names [] _ >>= fun cs=>pure cs)=_;rw [bind_pure];exact key)
theorem jfX {cells:List (Str×Addr)}:∀{names:List (Str×NameKind)} {acc:List (Str×Addr)} {n:Str} {c:Addr},(∀n c,(n,c)∈acc->cells.lookup n=some c)->(n,c)∈jde cells names acc->cells.lookup n=some c
 | [],acc,n,c,h,q=>h n c q
 | (m,k)::r,acc,n,c,h,q=>by
   refine jfX (names:=r) ?_ q;intro n' c' q';by_cases hk:(k == NameKind.free)=true
   . rw [if_pos hk] at q';cases e:cells.lookup m with
     | none=>rw [e] at q';exact h n' c' q'
     | some d=>
       rw [e] at q';rcases Yn.mp q' with z | z
       . cases z;exact e
       . exact h n' c' z
   . rw [if_neg hk] at q';exact h n' c' q'
theorem Z0 {α:Type}:∀{l:List (Str×α)} {n:Str} {c:α},l.lookup n=some c->(n,c)∈l
 | [],_,_,h=>by simp at h
 | (m,d)::r,n,c,h=>by
   rw [YT] at h;cases e:n == m with
   | true=>
     rw [e] at h;have e':n=m:=by simpa using e
     subst e';cases h;exact Ye
   | false=>rw [e] at h;exact Yg _ (Z0 h)
theorem jd2 {α:Type}:∀{l:List (Str×α)} {n:Str} {c:α},(n,c)∈l->∃d,l.lookup n=some d
 | (m,d)::r,n,c,h=>by
   rw [YT];cases e:n == m with
   | true=>exact ⟨d,rfl⟩
   | false=>
     rcases Yn.mp h with z | z
     . cases z;simp at e
     . exact jd2 z
theorem J9 {cells:List (Str×Addr)} {names:List (Str×NameKind)} {n:Str} {c:Addr} (q:(jde cells names []).lookup n=some c):cells.lookup n=some c:=jfX (acc:=[]) (fun _ _ z=>absurd z YD) (Z0 q)
theorem jdY {cells:List (Str×Addr)}:∀{names:List (Str×NameKind)} {acc:List (Str×Addr)} {p:Str×Addr},p∈acc->p∈jde cells names acc
 | [],acc,p,h=>h
 | (m,k)::r,acc,p,h=>by
   refine jdY (names:=r) ?_;by_cases hk:(k == NameKind.free)=true
   . rw [if_pos hk];cases e:cells.lookup m with
     | none=>exact h
     | some d=>exact Yg _ h
   . rw [if_neg hk];exact h
theorem jgd {cells:List (Str×Addr)}:∀{names:List (Str×NameKind)} {acc:List (Str×Addr)} {n:Str} {c:Addr},(n,NameKind.free)∈names->cells.lookup n=some c->(n,c)∈jde cells names acc
 | (m,k)::r,acc,n,c,h,q=>by
   rcases Yn.mp h with z | z
   . have z1:n=m:=congrArg Prod.fst z;have z2:NameKind.free=k:=congrArg Prod.snd z;subst z1 z2;show (n,c)∈jde cells r (if (NameKind.free == NameKind.free)=true then _ else _);rw [if_pos (show (NameKind.free == NameKind.free)=true from rfl),q];exact jdY Ye
   . exact jgd (names:=r) z q
theorem jfZ {cells:List (Str×Addr)} {names:List (Str×NameKind)} {n:Str} {c:Addr} (h:(n,NameKind.free)∈names) (q:cells.lookup n=some c):(jde cells names []).lookup n=some c:=by obtain ⟨d,e⟩:=jd2 (jgd (acc:=[]) h q);have:=J9 e;rw [q] at this;cases this;exact e
theorem jaR {env:Env}:∀{names:List (Str×NameKind)} {x:Str},names.lookup x=some .free->
 ((names.map fun (n,k)=>if ‹"y"› then (n,NameKind.cell) else (n,k)).lookup x=some .cell \/
  (names.map fun (n,k)=>if (k == NameKind.free && env.scope.kind == .function && env.kindOf n == some .cell) then (n,NameKind.cell) else (n,k)).lookup x=some .free)
 | [],_,h=>by simp at h
 | (n,k)::r,x,h=>by
   rw [List.map_cons];rw [YT] at h;cases hx:x == n with
   | true=>
     rw [hx] at h;have h:k=.free:=by simpa using h
     subst h;by_cases hk:(NameKind.free == NameKind.free && env.scope.kind == .function && env.kindOf n == some .cell)=true
     . left;simp only [hk,yq,YT,hx]
     . right;simp only [hk,YY,yu,YT,hx]
   | false=>
     rw [hx] at h;have ih:=jaR (env:=env) (names:=r) (x:=x) h;by_cases hk:‹"y"›=true
     . simpa only [hk,yq,YT,hx] using ih
     . simpa only [hk,YY,yu,YT,hx] using ih
theorem jdi {x:Str}:∀(names:List (Str×NameKind)) (n:Nat) (acc:List (Str×Addr)) (c:Addr),acc.lookup x=some c->∃d,(cellsFrom n names acc).lookup x=some d
 | [],n,acc,c,h=>⟨c,h⟩
 | (m,k)::r,n,acc,c,h=>by
   unfold cellsFrom;split
   . cases e:x == m with
     | true=>exact jdi r (n+1) _ n (by rw [YT,e])
     | false=>exact jdi r (n+1) _ c (by rw [YT,e];exact h)
   . exact jdi r n acc c h
theorem jeV {x:Str}:∀(names:List (Str×NameKind)) (n:Nat) (acc:List (Str×Addr)),(x,NameKind.cell)∈names->∃d,(cellsFrom n names acc).lookup x=some d
 | (m,k)::r,n,acc,h=>by
   rcases Yn.mp h with z | z
   . have z1:x=m:=congrArg Prod.fst z;have z2:NameKind.cell=k:=congrArg Prod.snd z;subst z1 z2;unfold cellsFrom;rw [if_pos (show (NameKind.cell == NameKind.cell)=true from rfl)];exact jdi r (n+1) _ n (by rw [YT,K8])
   . unfold cellsFrom;split
     . exact jeV r (n+1) _ z
     . exact jeV r n acc z
theorem jc1 {x:Str}:∀(names:List (Str×NameKind)) (n:Nat) (acc:List (Str×Addr)),(x,NameKind.cell)∉names->(cellsFrom n names acc).lookup x=acc.lookup x
 | [],n,acc,h=>rfl
 | (m,k)::r,n,acc,h=>by
   have hr:(x,NameKind.cell)∉r:=fun z=>h (Yg _ z);unfold cellsFrom;split
   . rename_i hk;have hk':k=.cell:=by simpa using hk
     rw [jc1 r (n+1) _ hr,YT];have:(x == m)=false:=by rw [Ko];intro e;subst e hk';exact h Ye
     rw [this]
   . exact jc1 r n acc hr
theorem jeH {x:Str} {c:Addr}:∀(names:List (Str×NameKind)) (n:Nat) (acc:List (Str×Addr)),(x,NameKind.cell)∈names->(cellsFrom n names acc).lookup x=some c->n<=c
 | (m,k)::r,n,acc,h,q=>by
   unfold cellsFrom at q;by_cases hr:(x,NameKind.cell)∈r
   . split at q
     . exact Nat.le_of_succ_le (jeH r (n+1) _ hr q)
     . exact jeH r n acc hr q
   . rcases Yn.mp h with z | z
     . have z1:x=m:=congrArg Prod.fst z;have z2:NameKind.cell=k:=congrArg Prod.snd z;subst z1 z2;rw [if_pos (show (NameKind.cell == NameKind.cell)=true from rfl),jc1 r (n+1) _ hr,YT,K8] at q;cases q;exact Yq _
     . exact absurd z hr
theorem jko {x:Str} {c:Addr}:∀(names:List (Str×NameKind)) (h:Heap) (acc:List (Str×Addr)),(cellsFrom h.objs.size names acc).lookup x=some c->acc.lookup x=some c\/((pushCells h names).IsCell c none/\h.objs.size<=c)
 | [],h,acc,q=>.inl q
 | (m,k)::r,h,acc,q=>by
   unfold cellsFrom at q;unfold pushCells;split at q
   . rename_i hk;rw [if_pos hk];rw [← yh h { cls:=.type "cell",data:=.cell none }] at q;rcases jko r _ _ q with z | ⟨z1,z2⟩
     . rw [YT] at z;cases e:x == m with
       | true=>rw [e] at z;cases z;exact .inr ⟨(show (h.push { cls:=.type "cell",data:=.cell none }).IsCell h.objs.size none from ⟨_,Yy _ rfl,rfl⟩).keeps (ko r _),Yq _⟩
       | false=>rw [e] at z;exact .inl z
     . rw [yh] at z2;exact .inr ⟨z1,Nat.le_of_succ_le z2⟩
   . rename_i hk;rw [if_neg hk];exact jko r h acc q
theorem jhO:∀(names:List (Str×NameKind)) (n:Nat) (acc:List (Str×Addr)),(∀x c,acc.lookup x=some c->c<n)->(∀x y c,acc.lookup x=some c->acc.lookup y=some c->x=y)->
 ∀x y c,(cellsFrom n names acc).lookup x=some c->(cellsFrom n names acc).lookup y=some c->x=y
 | [],n,acc,_,h=>h
 | (m,k)::r,n,acc,hl,h=>by
   unfold cellsFrom;split
   . refine jhO r (n+1) _ (fun x c q=>?_) fun x y c q1 q2=>?_
     . rw [YT] at q;cases e:x == m with
       | true=>rw [e] at q;cases q;exact yO _
       | false=>rw [e] at q;exact yJ (hl x c q)
     . rw [YT] at q1 q2;cases e1:x == m with
       | true=>
         cases e2:y == m with
         | true=>rw [kL.mp e1,kL.mp e2]
         | false=>rw [e1] at q1;rw [e2] at q2;cases q1;exact absurd (hl y _ q2) (Y1 _)
       | false=>
         cases e2:y == m with
         | true=>rw [e1] at q1;rw [e2] at q2;cases q2;exact absurd (hl x _ q1) (Y1 _)
         | false=>rw [e1] at q1;rw [e2] at q2;exact h x y c q1 q2
   . exact jhO r n acc hl h
theorem jbR {env:Env}:∀{names:List (Str×NameKind)} {x:Str},
 ((names.map fun (n,k)=>if ‹"y"› then (n,NameKind.cell) else (n,k)).lookup x=some .cell \/
  (names.map fun (n,k)=>if (k == NameKind.free && env.scope.kind == .function && env.kindOf n == some .cell) then (n,NameKind.cell) else (n,k)).lookup x=some .free)->(x,NameKind.free)∈names\/(x,NameKind.cell)∈names
 | [],_,h=>by simp at h
 | (n,k)::r,x,h=>by
   have ih:=jbR (env:=env) (names:=r) (x:=x);rw [List.map_cons] at h;by_cases hx:x=n
   . subst hx;by_cases hk:(k == NameKind.free && env.scope.kind == .function && env.kindOf x == some .cell)=true
     . have:k=NameKind.free:=by simp only [KD] at hk;simpa using hk.1.1
       subst this;exact .inl Ye
     . simp only [hk,YT,K8] at h;rcases h with h | h
       . have:k=NameKind.cell:=by simpa using h
         subst this;exact .inr Ye
       . have:k=NameKind.free:=by simpa using h
         subst this;exact .inl Ye
   . have hb:(x == n)=false:=by simpa using hx
     have ih':=ih (by
       by_cases hk:‹"y"›=true
       . simpa only [hk,yq,YT,hb] using h
       . simpa only [hk,YY,yu,YT,hb] using h)
     rcases ih' with z | z
     . exact .inl (Yg _ z)
     . exact .inr (Yg _ z)
def jap (scope:Scope) (x:Str):Bool:=match scope.names.lookup x with
 | some .cell=>true
 | _=>false
theorem jc2 {scope:Scope} {x:Str} (h:jap scope x=true):(x,NameKind.cell)∈scope.names:=by
 unfold jap at h;split at h
 . rename_i e;exact Z0 e
 . cases h
def bcl (C:Addr) (scope:Scope) (cells:List (Str×Addr)):List (Str×Addr):=cellsFrom (C+1) scope.names (jde cells scope.names [])
section
variable {M:Model} {A:Around} {E:Value->Shared->Prop} {s:Shared}
theorem QC {scope:Scope} {globals:Addr} {closure:List (Str×Addr)} {qual:Str} {func:Option Addr} {code:Value} {outer:Env} {builtins:Addr} {Q:Env->Shared->Prop}
 (hQ:Q (newEnv scope s.heap.objs.size globals (cellsFrom (s.heap.objs.size+1) scope.names closure) qual func code (some outer) builtins) { s with heap:=pushCells (s.heap.push { cls:=.type "dict",data:=.dict #[] }) scope.names }) :
 wpAny M A (newFunctionEnv scope globals closure [] qual func code (some outer) builtins) Q E s:=by
 simp only [newFunctionEnv,Option.isSome_some,yq];refine Yb (wpAny_alloc ?_);refine Yb (wpAny_layCells _ (fun name kind cells=>by cases hkc:kind == NameKind.cell <;> simp [hkc]) _ _ _ _ ?_);rw [show ({ s with heap:=s.heap.push { cls:=.type "dict",data:=.dict #[] } }:Shared).heap.objs.size=s.heap.objs.size+1 from yh ..];rw [List.forIn_nil];exact Yb (Yj (Yj hQ))
end
def Cx.blk (X:Cx) (N:List Str) (scope:Scope) (C:Addr) (s:Shared) (H:Hp) (fp:List Addr):Cx:={ X with N:=N,s₀:=s,H₀:=H,env:=compEnvC scope (bcl C scope X.env.cells) C X.env,outer:=X.stack,stack:=X.stack,ex:=fp,fn:=jap scope,pn:=[],xe:=fun _ _=>False }
def capt (σ:St) (ix:List Nat):St:=ix.map fun k=>(σ[k]?).getD none
def JT (n:Nat) (σ:St) (ix:List Nat):St:=List.replicate n none++capt σ ix
def jg9 (n:Nat) (g:TG):Prop:=∀x σ H Q,g x σ H Q->g x σ H fun σ2 H2=>Q σ2 H2/\σ2.length=σ.length/\∀j,n<=j->σ2[j]?=σ[j]?
theorem jjJ {n i:Nat} (h:i<n):jg9 n (jaf i):=fun x σ H Q q=>⟨q,by simp,fun j hj=>by rw [YS (by omega)]⟩
def PTs (X:Cx) (ifs:List Expr) (t:TT):Prop:=
 ∀(pins:List (Addr×Obj)) (s:Shared) (σ:St) (H:Hp) (Q:Bool->Hp->Prop) (E:Value->Shared->Prop),(∀e s',X.xe e s'->E e s')->Inv X pins σ H s->t σ H Q->
   wpAny ‹"d"› X.A (forIn ifs true fun c r=>if r=true then do let ok <- isTrue c X.env (eval c X.env);pure (ForInStep.yield ok) else pure (ForInStep.yield r)) (TP X pins σ Q) E s
def joB:TT:=fun _ H Q=>Q true H
theorem jmL {X:Cx}:PTs X [] joB:=fun _ _ _ H _ _ _ I h=>wpAny_tests_nil ⟨H,I,h⟩
theorem jnK {X:Cx} {c:Expr} {t:TT} (h:PT X c t):PTs X [c] t:=fun pins s σ H Q E hE I q=>wpAny_tests_one (yj (h pins s σ H Q I q) (fun _ _ z=>z) hE)
def tLC (wi:TI) (g:TG) (tt:TT) (te:TE) (n:Nat) (ix:List Nat):TE:=fun σ H Q=>wi σ H fun J H1=>∃W:Nat->Nat->List V->Hp->Prop,(∃m,W 0 m [] H1)/\∀i m ys H,W i m ys H->
 (J.stop i H/\ys.length<=sizeLine/\∀p,H p=none->Q (.ref p) (upd H p (.lst ys))) \/
 (J.go i H/\ys.length<sizeLine/\∃N:List V->Hp->Prop,(∀ys' H',N ys' H'->∃m',m'<m/\W (i+1) m' ys' H')/\∀x H',J.yld i H x H'->g x (JT n σ ix) H' fun σ2 H2=>tt σ2 H2 fun b H3=>if b=true then te σ2 H3 fun v H4=>N (ys++[v]) H4 else N ys H3)
section
variable {prog:Program} {w:World} {A:Around} {E:Value->Shared->Prop} {R:Result->Shared->Prop} {s:Shared}
theorem ZJ {elt target iter:Expr} {ifs:List Expr} {scope:Scope} {pos:Pos} {it acc:Value} {env:Env} (I:Nat->Shared->Prop)
 (turn:∀n s,I n s->wpAny (model prog w) A (pyNext it) (fun r s₁=>match r with
  | none=>R (.ok .next) s₁
  | some v=>wpAny (model prog w) A (letOwnedTupleGo target it v) (fun _ s₁'=>wpAny (model prog w) A (assign target env v) (fun _ s₂=>
      wpAny (model prog w) A (forIn ifs true fun c r=>if r=true then do let ok <- isTrue c env (eval c env);pure (ForInStep.yield ok) else pure (ForInStep.yield r)) (fun ok s₃=>
        if ok=true then wpAny (model prog w) A (eval elt env) (fun x s₄=>wpAny (model prog w) A (call (.builtin "list.append") [acc,x]) (fun _ s₅=>∃m,m<n ∧ I m s₅) (fun _ _=>False) s₄) (fun _ _=>False) s₃
        else ∃m,m<n/\I m s₃) (fun _ _=>False) s₂) (fun _ _=>False) s₁') (fun _ _=>False) s₁) (fun _ _=>False) s)
 (n:Nat) (h:I n s) :
 codeAny (model prog w) A (.compLoop (.ListComp elt [⟨target,iter,ifs,0⟩] scope pos) 0 it acc env) R s:=by
 refine codeAny_loop rfl I (fun n s hI=>?_) n h;show wpAny _ A ((compTurn (.ListComp elt [⟨target,iter,ifs,0⟩] scope pos) 0 it acc env).onRaise (fun x=>do noteFrame x env;theTreesLotGoes x)) _ _ s;refine wpAny_noted ?_;rw [compTurn_list];refine Yb (wpAny_standAt (Yb (yj (turn n s hI) (fun r s₁ h₁=>?_) fun _ _ h'=>h'.elim)));cases r with
 | none=>exact Yj h₁
 | some v=>
   refine Yb (yj h₁ (fun _ s₁' h₁'=>?_) fun _ _ h'=>h'.elim);refine Yb (yj h₁' (fun _ s₂ h₂=>Yb (yj h₂ (fun ok s₃ h₃=>?_) fun _ _ h'=>h'.elim)) fun _ _ h'=>h'.elim);cases ok with
   | false=>exact Yj ⟨rfl,h₃⟩
   | true=>exact Yb (Yb (yj h₃ (fun x s₄ h₄=>Yb (yj h₄ (fun _ s₅ h₅=>Yj (Yj ⟨rfl,h₅⟩)) fun _ _ h'=>h'.elim)) fun _ _ h'=>h'.elim))
end
section
variable {X:Cx} {pins:List (Addr×Obj)} {σ:St} {H:Hp} {s:Shared} {scope:Scope} {C:Addr} {fp:List Addr}
theorem Inv.bclOld (I:Inv X pins σ H s) (hC:s.heap.objs.size<=C) {x:Str} {c:Addr} (e:(bcl C scope X.env.cells).lookup x=some c):X.env.cells.lookup x=some c\/C<c:=by
 by_cases h:(x,NameKind.cell)∈scope.names
 . exact .inr (jeH _ _ _ h e)
 . unfold bcl at e;rw [jc1 _ _ _ h] at e;exact .inl (J9 e)
theorem Inv.blkOk (I:Inv X pins σ H s) (N:List Str) (hC:s.heap.objs.size<=C) (hkind:scope.kind=.function)
 (hfree:∀n,(n,NameKind.free)∈scope.names->X.env.scope.names.lookup n=some .cell\/X.env.scope.names.lookup n=some .free)
 (hf:∀b∈fp,jda X pins H b) (hfl:∀b∈fp,b<s.heap.objs.size):(X.blk N scope C s H fp).Ok where
 mod:=I.ok.mod
 kind:=hkind
 glob:=I.ok.glob
 blt:=I.ok.blt
 above:=hC
 inj:=jhO _ _ _ (fun x c e=>by obtain ⟨v,q⟩:=I.cell x c (J9 e);exact yJ (Yo q.lt hC)) fun x y c e1 e2=>I.ok.inj x y c (J9 e1) (J9 e2)
 has:=fun x hx=>by
  rcases jbR (env:=X.env) hx with q | q
  . obtain ⟨c,e⟩:=I.ok.has x (hfree x q);exact jdi _ _ _ c (jfZ q e)
  . exact jeV _ _ _ q
 cab:=fun x c e q=>YW hC (yL (jeH _ _ _ (jc2 e) q))
 hd:=I.ok.hd
 frames:=I.ok.frames
 stk:=.inl rfl
 exf:=fun b hb=>⟨Yv (Yo (hfl b hb) hC),fun x c e=>by
  rcases I.bclOld hC e with z | z
  . exact (hf b hb).2.2.2.2.1 x c z
  . exact yn (Yo (hfl b hb) (YW hC (yL z)))⟩
 bs:=I.bs
 bsz:=YW I.ok.bsz I.sz
 noex:=fun b o e hb=>by
  rcases (hf b hb).2.2.2.1 with z | z
  . exact I.ok.noex b o e z
  . exact absurd (Yo (Yw (I.ok.bs b o e).1) z) (Y1 _)
 exfs:=fun b hb z=>by
  rcases Yn.mp (I.stkSub b z) with q | q
  . exact (hf b hb).2.1 q
  . exact (hf b hb).2.2.1 q
 funs:=I.stack
 frf:=I.stkFree
theorem Inv.unblk {σ':St} {H':Hp} {s':Shared} {N:List Str} {D:Addr} {ys:List V} {its:List Value} {n:Nat} {pl:List (Addr×Obj)} (I:Inv X pins σ H s) (hf:∀b∈fp,jda X pins H b) (hD:s.heap.objs.size<=D)
 (J:Inv (X.blk N scope C s H fp) pl σ' H' s') (hv:Vals ys its) (hz:ys.length ≤ sizeLine) (hl:s'.heap.get? D=some { cls:=.type "list",data:=.seq its.toArray n }) (hn:H' D=none):Inv X pins σ (upd H' D (.lst ys)) s':=by
 have u:Un (frs X.stack) fp H H' s.heap s'.heap:=J.base;have neD:∀b o,s.heap.get? b=some o->b≠D:=fun b o e=>Yv (Yo (Yw e) hD);refine I.call' (ch:=fp) J.os (u:=⟨u.keep,u.slot,fun b o e n' hx=>?_,u.there,fun b xs e=>?_,fun b o x e=>?_,fun b ps e=>?_⟩) ?_ J.bare fun b hb=>⟨(hf b hb).2.2.2.1,(hf b hb).2.1,(hf b hb).2.2.2.2.1,(hf b hb).2.2.2.2.2⟩
 . rw [jC (neD b o e)];exact u.free b o e n' hx
 . rw [jC (jH (u.tups b xs e) hn)];exact u.tups b xs e
 . rw [jC (jH (u.frzs b o x e) hn)];exact u.frzs b o x e
 . obtain ⟨more,q⟩:=u.tbls b ps e;exact ⟨more,by rw [jC (jH q hn)];exact q⟩
 . intro b o e;by_cases hb:b=D
   . subst hb;rw [jB] at e;cases e;exact ⟨hz,its,n,hv,hl⟩
   . rw [jC hb] at e;exact (J.hok b o e).stay (fun c v _ q=>q) (fun c q=>by rw [jC (jH q hn)];exact q) fun c xs q=>by rw [jC (jH q hn)];exact q
end
section
variable {X:Cx} {elt iter tg:Expr} {ifs:List Expr} {scope:Scope} {pos:Pos} {Lc F:List Str} {ix:List Nat} {wi:TI} {g:TG} {tt:TT} {te:TE}
theorem jlf {σ:St} {ix:List Nat} {j:Nat} {v:V} (h:(capt σ ix)[j]?=some (some v)):∃k,ix[j]?=some k/\σ[k]?=some (some v):=by
 unfold capt at h;rw [List.getElem?_map] at h;cases e:ix[j]? with
 | none=>rw [e] at h;cases h
 | some k=>
   rw [e] at h;have h':(σ[k]?).getD none=some v:=Option.some.inj h;refine ⟨k,rfl,?_⟩;cases q:σ[k]? with
   | none=>rw [q] at h';cases h'
   | some o=>rw [q] at h';rw [show o=some v from h']
theorem jf3 {pins:List (Addr×Obj)} {σ:St} {H:Hp} {s:Shared} {it:Addr} {fp:List Addr} {tn:Nat->Heap->Prop} {J:It} {E:Value->Shared->Prop} {Qv:List V->Hp->Prop} {RR:Value->Addr->Result->Shared->Prop}
 (hc:X.calm=true) (hkind:scope.kind=.function) (hcell:∀y∈scope.names,y.2=.cell->scope.names.lookup y.1=some .cell)
 (hfree:∀n,(n,NameKind.free)∈scope.names->X.env.scope.names.lookup n=some .cell\/X.env.scope.names.lookup n=some .free)
 (hix:ix.length=F.length) (hF:∀(j:Nat) (x:Str) (k:Nat),F[j]?=some x->ix[j]?=some k->X.N[k]?=some x/\(X.env.scope.names.lookup x=some .cell\/X.env.scope.names.lookup x=some .free)/\scope.names.lookup x=some .free)
 (hg:∀C s H fp,PG ‹"e"› tg g) (hloc:jg9 Lc.length g) (ht:∀C s H fp,PTs ‹"e"› ifs tt) (he:∀C s H fp,PE ‹"e"› elt te)
 (I:Inv X pins σ H s) (T:Turn X.prog X.w X.K tg J fp it tn) (st0:tn 0 s.heap) (hf:∀b∈fp,jda X pins H b)
 (W:Nat->Nat->List V->Hp->Prop) (w0:∃m,W 0 m [] H)
 (turn:∀i m ys H,W i m ys H->(J.stop i H/\ys.length<=sizeLine/\Qv ys H) \/
  (J.go i H/\ys.length<sizeLine/\∃N:List V->Hp->Prop,(∀ys' H',N ys' H'->∃m',m'<m/\W (i+1) m' ys' H')/\∀x H',J.yld i H x H'->g x (JT Lc.length σ ix) H' fun σ2 H2=>tt σ2 H2 fun b H3=>if b=true then te σ2 H3 fun v H4=>N (ys++[v]) H4 else N ys H3))
 (hRR:∀(D C:Addr) (H':Hp) (s':Shared) (ys:List V) (m:Str->Option Value),D≠C->s.heap.objs.size<=D->s.heap.objs.size<=C->H' D=none->H' C=none->s'.heap.Ns C m->Inv X pins σ (upd H' D (.lst ys)) s'->Qv ys H'->RR (.ref D) C (.ok .next) s') :
 wpAny ‹"d"› X.A (newList []) (fun acc s₃=>wpAny ‹"d"› X.A (newFunctionEnv scope X.env.globals (jde X.env.cells scope.names []) [] X.env.qual none .none (some X.env)) (fun cenv s₄=>codeAny ‹"d"› X.A (.compStart ‹"o"› 0 (.ref it) acc { cenv with scope:=relabel scope X.env }) (RR acc cenv.locals) s₄) E s₃) E s:=by
 refine Kh (QC ?_);dsimp only;generalize hH2:s.heap.push { cls:=.type "list",dict:=none,data:=.seq ([]:List Value).toArray }=G;have hCs:G.objs.size=s.heap.objs.size+1:=by rw [<-hH2,yh]
 have hDC:s.heap.objs.size≠G.objs.size:=by rw [hCs];exact Yv (yO _)
 have hCle:s.heap.objs.size<=G.objs.size:=by rw [hCs];exact KG _
 have hns₁:‹"H"›.Ns G.objs.size fun _=>none:=(Heap.Ns.new G (.type "dict")).keeps (ko _ _);have old:∀b o,s.heap.get? b=some o → ‹"H"›.get? b=some o:=fun b o e=>ko _ _ _ _ (Yh _ (hH2 ▸ Yh _ e));have hacc:‹"H"›.get? s.heap.objs.size=some { cls:=.type "list",data:=.seq ([]:List Value).toArray }:=ko _ _ _ _ (Yh _ (hH2 ▸ Yy _ rfl));have hcs:∀x c,(bcl G.objs.size scope X.env.cells).lookup x=some c → X.env.cells.lookup x=some c ∨ (‹"H"›.IsCell c none ∧ G.objs.size<c):=fun x c e=>by
  unfold bcl at e;rw [← yh G { cls:=.type "dict",data:=.dict #[] }] at e;rcases jko _ _ _ e with z | ⟨z1,z2⟩
  . exact .inl (J9 z)
  . rw [yh] at z2;exact .inr ⟨z1,z2⟩
 generalize hh1:pushCells (G.push { cls:=.type "dict",data:=.dict #[] }) scope.names=h₁ at hns₁ old hacc hcs ⊢;generalize hD:s.heap.objs.size=D at *
 generalize hC:G.objs.size=C at *
 have hfl:∀b∈fp,b<D:=fun b hb=>by obtain ⟨o,e,_⟩:=T.obj 0 _ st0 b hb;rw [<-hD];exact Yw e
 have hfl':∀b∈fp,b<s.heap.objs.size:=fun b hb=>by rw [hD];exact hfl b hb
 have ok:‹"e"›.Ok:=I.blkOk (Lc++F) (by rw [hD];exact hCle) hkind hfree hf hfl';have hσl:(JT Lc.length σ ix).length=(Lc++F).length:=by unfold JT capt;rw [YR,YR,List.length_replicate,Yd,hix]
 have fpB:∀{H':Hp} {pl:List (Addr×Obj)},(∀b∈fp,H' b=none)->(∀p∈pl,p.1=D)->∀b∈fp,jda ‹"e"› pl H' b:=fun {H' pl} hn hp b hb=>
  ⟨hn b hb,Yv (Yo (hfl b hb) hCle),ok.exfs b hb,.inl hb,(ok.exf b hb).2,fun p hp'=>by
   have hp2:p∈pl:=by simpa [Cx.blk] using hp'
   rw [hp p hp2];exact yn (hfl b hb)⟩
 have HD:H D=none:=I.hok.fresh (by rw [hD];exact Yq _);have HC:H C=none:=I.hok.fresh (by rw [hD];exact hCle);have nfsD:∀b,D<=b->b∉frs X.stack:=fun b hb z=>by obtain ⟨_,o,ho,_⟩:=I.stack.mem z;have:=Yw ho;rw [hD] at this;exact absurd (Yo this hb) (Y1 _)
 have nD:∀x c,(bcl C scope X.env.cells).lookup x=some c->c≠D:=fun x c e z=>by
  rcases hcs x c e with e | ⟨_,e⟩
  . obtain ⟨v,q⟩:=I.cell x c e;have:=q.lt;rw [hD,z] at this;exact absurd this (Y1 _)
  . rw [z] at e;exact absurd (yN hCle e) (Y1 _)
 have jak:∀s3:Shared,s3={ s with heap:=h₁ } → Inv ‹"e"› [(D,{ cls:=.type "list",data:=.seq ([]:List Value).toArray })] (JT Lc.length σ ix) H s3:=by
  rintro s3 rfl;refine ⟨ok,rfl,I.bare,Un.kept old,⟨_,hns₁,fun i x v e1 e2 e3=>?_⟩,fun x c e=>?_,HC,fun x c e=>?_,fun p hp=>?_,I.hok.kept old,hσl⟩
  . have hi:Lc.length<=i:=by
      rcases Y2 i Lc.length with q | q
      . unfold JT at e2;rw [YF (by simpa using q),List.getElem?_replicate] at e2;rw [if_pos q] at e2;cases e2
      . exact q
    have e2':(capt σ ix)[i-Lc.length]?=some (some v):=by
      unfold JT at e2
      rwa [YC ‹"as"›,List.length_replicate] at e2
    have e1':F[i-Lc.length]?=some x:=by
      have e1'':(Lc++F)[i]?=some x:=e1
      rwa [YC hi] at e1''
    obtain ⟨k,hk,hσ⟩:=jlf e2';obtain ⟨hN,hcl,hfr⟩:=hF _ x k e1' hk;obtain ⟨m,hn,hl⟩:=I.loc;obtain ⟨u,r,lk⟩:=hl k x v hN hσ (by rcases hcl with z | z;exact .inr (.inl z);exact .inr (.inr z));refine ⟨u,r,.inr ⟨?_,?_⟩⟩
    . exact jaR (env:=X.env) hfr
    . rcases lk with ⟨hk1,_⟩ | ⟨_,c,hc1,hc2⟩
      . have hk1':X.env.scope.names.lookup x=some .local:=hk1;rcases hcl with z | z <;> · rw [hk1'] at z;cases z
      . refine ⟨c,(jc1 _ _ _ fun z=>?_).trans (jfZ (Z0 hfr) hc1),?_⟩
        . have:=hcell _ z rfl;rw [hfr] at this;cases this
        obtain ⟨o,ho,hd⟩:=hc2;exact ⟨o,old c o ho,hd⟩
  . rcases hcs x c e with e | ⟨e,_⟩
    . obtain ⟨v,o,ho,hd⟩:=I.cell x c e;exact ⟨v,o,old c o ho,hd⟩
    . exact ⟨none,e⟩
  . rcases hcs x c e with e | ⟨_,e⟩
    . exact I.freeC x c e
    . exact I.hok.fresh (by rw [hD];exact YW hCle (yL e))
  . have:p=(D,{ cls:=.type "list",data:=.seq ([]:List Value).toArray }):=by simpa [Cx.blk] using hp
    subst this;exact ⟨hacc,HD,hDC,nfsD D (Yq _),fun v z=>nomatch z⟩
 have loop:∀s3:Shared,s3={ s with heap:=h₁ }->
  codeAny ‹"d"› X.A (.compLoop ‹"o"› 0 (.ref it) (.ref D) ‹"e"›.env) (RR (.ref D) C) s3:=by
  intro s3 hs3;obtain ⟨m0,w0⟩:=w0;have st3:tn 0 s3.heap:=by subst hs3;exact T.keep 0 _ _ st0 fun b _ o e=>old b o e
  refine ZJ (fun n s'=>∃i ys its k H',Inv ‹"e"› [(D,{ cls:=.type "list",data:=.seq its.toArray k })] (JT Lc.length σ ix) H' s' ∧ Vals ys its ∧ tn i s'.heap ∧ (∀b∈fp,H' b=none) ∧ W i n ys H')
   ?_ m0 ⟨0,[],[],0,H,jak s3 hs3,.nil,st3,fun b hb=>(hf b hb).1,w0⟩
  rintro n s4 ⟨i,ys,its,k,H4,I4,rv,st4,fr4,w4⟩;have pD:∀p∈[((D,{ cls:=.type "list",data:=.seq its.toArray k }):Addr×Obj)],p.1=D:=fun p hp=>by simp at hp;rw [hp]
  rcases turn i n ys H4 w4 with ⟨stop,hz,q⟩ | ⟨go,hz,N,hN,step⟩
  . refine qr (T.done ‹"e"› rfl rfl rfl hc i _ s4 _ H4 _ I4 (fpB fr4 pD) st4 stop) fun r s5 zz=>?_;obtain ⟨hr,I5⟩:=zz;subst hr;obtain ⟨p1,p2,p3,p4,p5⟩:=I5.pin _ (YM _ Ye);obtain ⟨m,hn,_⟩:=I5.loc;exact hRR D C H4 s5 ys m hDC (Yq _) hCle p2 I5.free hn (I.unblk (C:=C) (scope:=scope) hf (by rw [hD];exact Yq _) I5 rv hz p1 p2) q
  . refine qr (T.item ‹"e"› rfl rfl rfl hc i _ s4 _ H4 _ I4 (fpB fr4 pD) st4 go) fun r s5 zz=>?_;obtain ⟨u,hr,h5⟩:=zz;subst hr;refine qr h5 fun _ s6 zz=>?_;obtain ⟨x,H6,I6,r6,y6,st6,fr6⟩:=zz;have I6':=I6.pinned (fpB fr6 pD) (T.obj _ _ st6);refine qr (hg C s H fp _ s6 _ H6 x u _ I6' r6 (hloc _ _ _ _ (step x H6 y6))) fun _ s7 zz=>?_;obtain ⟨σ7,H7,I7,q7,l7,k7⟩:=zz;have weak:∀(j:Nat) v,(JT Lc.length σ ix)[j]?=some (some v)->σ7[j]?=some (some v):=fun j v e=>by
      rw [k7 j ?_];exact e;rcases Y2 j Lc.length with z | z
      . unfold JT at e;rw [YF (by simpa using z),List.getElem?_replicate,if_pos z] at e;cases e
      . exact z
    have fin:∀{s':Shared} {H':Hp} {i':Nat} {ys':List V} {its':List Value} {k':Nat},Inv ‹"e"› [] σ7 H' s' → s'.heap.get? D=some { cls:=.type "list",data:=.seq its'.toArray k' } → H' D=none → Inv ‹"e"› [(D,{ cls:=.type "list",data:=.seq its'.toArray k' })] (JT Lc.length σ ix) H' s':=fun {s' H' i' ys' its' k'} I' e n'=>
      (I'.weak (by rw [l7]) weak).pins_of fun p hp=>by
       have:p=(D,{ cls:=.type "list",data:=.seq its'.toArray k' }):=by simpa using hp
       subst this;exact ⟨e,n',hDC,nfsD D (Yq _),fun v z=>nomatch z⟩
    refine qr (ht C s H fp _ s7 σ7 H7 _ _ (fun _ _ z=>z) I7 q7) fun b s8 zz=>?_;obtain ⟨H8,I8,q8⟩:=zz;have keepS:∀{s':Shared} {H':Hp},Inv ‹"e"› ([((D,{ cls:=.type "list",data:=.seq its.toArray k }):Addr×Obj)]++jdx fp s6.heap) σ7 H' s' → tn (i+1) s'.heap ∧ (∀b∈fp,H' b=none) ∧ s'.heap.get? D=some { cls:=.type "list",data:=.seq its.toArray k } ∧ H' D=none:=fun {s' H'} I'=>by
      refine ⟨T.keep _ _ _ st6 fun b hb o e=>(I'.pin (b,o) (YM _ (YM _ (Zc hb e)))).1,fun b hb=>?_,?_⟩
      . obtain ⟨o,e,d⟩:=T.obj _ _ st6 b hb;exact (I'.pin (b,o) (YM _ (YM _ (Zc hb e)))).2.1
      . have:=I'.pin (D,{ cls:=.type "list",data:=.seq its.toArray k }) (YM _ (YE _ Ye));exact ⟨this.1,this.2.1⟩
    cases b with
    | false=>rw [if_neg Yi] at q8 ⊢;obtain ⟨m',hm,w8⟩:=hN _ _ q8;obtain ⟨a1,a2,a3,a4⟩:=keepS I8;exact ⟨m',hm,i+1,ys,its,k,H8,fin (i':=i) (ys':=ys) (I8.pins_of fun p hp=>nomatch hp) a3 a4,rv,a1,a2,w8⟩
    | true=>
      rw [if_pos rfl] at q8 ⊢;refine qr (he C s H fp _ s8 σ7 H8 _ I8 q8) fun xv s9 zz=>?_;obtain ⟨v,H9,I9,r9,q9⟩:=zz;obtain ⟨m',hm,w9⟩:=hN _ _ q9;obtain ⟨a1,a2,a3,a4⟩:=keepS I9;have hlen:=rv.length;refine wpAny_list_append_plain (hsz:=by simp;omega) ⟨k,a3⟩ fun h10 hl10 hs10=>?_;obtain ⟨k10,e10⟩:=hl10;have I9':Inv ‹"e"› [] σ7 H9 s9:=I9.pins_of fun p hp=>nomatch hp;have I10:Inv ‹"e"› [] σ7 H9 { s9 with heap:=h10,toks:=s9.toks }:=I9'.turned (it:=D) (fun b o hb e=>(hs10.2 b hb).trans e) a4 hDC (.inr (by show s.heap.objs.size<=D;rw [hD];exact Yq _)) nD (fun p hp=>nomatch hp);have e10':h10.get? D=some { cls:=.type "list",data:=.seq (its++[xv]).toArray k10 }:=by rw [e10,List.push_toArray]
      refine ⟨m',hm,i+1,ys++[v],its++[xv],k10,H9,fin (i':=i) (ys':=ys) I10 e10' a4,Paired.snoc rv r9,?_,a2,w9⟩;exact T.keep _ _ _ a1 fun b hb o e=>(hs10.2 b (Yv (hfl b hb))).trans e
 exact codeAny_compStart_list (loop _ rfl) (T.self _ 0 _ _ _ (T.keep 0 _ _ st0 fun b _ o e=>old b o e) (loop _ rfl))
theorem jr6 (hc:X.calm=true) (hkind:scope.kind=.function) (hnames:∀x∈scope.names,x.2=.local->scope.names.lookup x.1=some .local) (hcell:∀y∈scope.names,y.2=.cell->scope.names.lookup y.1=some .cell)
 (hfree:∀n,(n,NameKind.free)∈scope.names->X.env.scope.names.lookup n=some .cell\/X.env.scope.names.lookup n=some .free)
 (hix:ix.length=F.length) (hF:∀(j:Nat) (x:Str) (k:Nat),F[j]?=some x->ix[j]?=some k->X.N[k]?=some x/\(X.env.scope.names.lookup x=some .cell\/X.env.scope.names.lookup x=some .free)/\scope.names.lookup x=some .free)
 (hi:PI X tg iter wi) (hg:∀C s H fp,PG ‹"e"› tg g) (hloc:jg9 Lc.length g) (ht:∀C s H fp,PTs ‹"e"› ifs tt) (he:∀C s H fp,PE ‹"e"› elt te)
 (hs:autoParam ‹"Y"› QA.a3._auto_1):PE X ‹"o"› (tLC wi g tt te Lc.length ix):=by
 intro pins s σ H Q I h;rw [eval_ListComp];refine wpAny_comprehension_free (use:=none) rfl hs (jah fun n hn=>I.ok.has n (hfree n hn)) hkind hnames (qr (hi pins s σ H _ I h) fun xv s₁ h₁=>qr h₁ fun itv s₂ h₂=>?_);obtain ⟨it,fp,tn,J,H2,rfl,I2,T,st2,f2,W,w0,turn⟩:=h₂;refine jf3 (RR:=fun acc C=>compPost ‹"d"› X.A X.xe none (EP X pins σ Q) acc C) (Qv:=fun ys H'=>∀p,H' p=none->Q (.ref p) (upd H' p (.lst ys))) hc hkind hcell hfree hix hF hg hloc ht he I2 T st2 f2 W w0 turn ?_;intro D C H' s' ys m hDC hD hC nD nC hn I' q;refine ⟨m,hn,fun h' hsb=>⟨.ref D,upd H' D (.lst ys),?_,rfl,q D nD⟩⟩;refine I'.turned (it:=C) (t':=s'.toks) (fun b o hb e=>(hsb.2 b hb).trans e) (by rw [jC (Ne.symm hDC)];exact nC) (fun z=>?_) (.inr (YW I2.sz hC)) (fun x c e z=>?_) fun p hp z=>?_
 . exact absurd (Yo (by rw [z];exact I2.lt) hC) (Y1 _)
 . obtain ⟨v,w⟩:=I2.cell x c e;exact absurd (Yo w.lt (by rw [z];exact hC)) (Y1 _)
 . have:=Yw (I2.pin p hp).1;rw [z] at this;exact absurd (Yo this hC) (Y1 _)
theorem jjl {i:Nat} {y:Str} {py spos:Pos} (hN:X.N.Nodup) (hy:X.N[i]?=some y) (hyl:X.env.scope.names.lookup y=some .local)
 (hc:X.calm=true) (hkind:scope.kind=.function) (hnames:∀x∈scope.names,x.2=.local->scope.names.lookup x.1=some .local) (hcell:∀y∈scope.names,y.2=.cell->scope.names.lookup y.1=some .cell)
 (hfree:∀n,(n,NameKind.free)∈scope.names->X.env.scope.names.lookup n=some .cell\/X.env.scope.names.lookup n=some .free)
 (hix:ix.length=F.length) (hF:∀(j:Nat) (x:Str) (k:Nat),F[j]?=some x->ix[j]?=some k->X.N[k]?=some x/\(X.env.scope.names.lookup x=some .cell\/X.env.scope.names.lookup x=some .free)/\scope.names.lookup x=some .free)
 (hi:PI X tg iter wi) (hg:∀C s H fp,PG ‹"e"› tg g) (hloc:jg9 Lc.length g) (ht:∀C s H fp,PTs ‹"e"› ifs tt) (he:∀C s H fp,PE ‹"e"› elt te)
 (hsw:swapsWith ‹"o"› (some (.Name y py)) spos.line X.env=pure true)
 (hs:autoParam ‹"Y"› QA.a3._auto_1):PS X (.Assign [.Name y py] ‹"o"› spos) (jdK (tLC wi g tt te Lc.length ix) (jaf i)):=by
 intro pins s σ H D₀ I h;rw [exec_Assign_Name_used _ _ _ _ hsw];refine Yb (wpAny_standAt (Yb ?_));show wpAny _ X.A (do let _ <- comprehension ‹"o"› scope X.env _ (newList []) false (eval iter X.env) (some (assign (.Name y py) X.env))) _ _ s;refine Yb (yj (wpAny_comprehension_free (use:=some (assign (.Name y py) X.env)) (Q:=fun _ s'=>SP X pins D₀ .next s') rfl hs (jah fun n hn=>I.ok.has n (hfree n hn)) hkind hnames
  (qr (hi pins s σ H _ I h) fun xv s₁ h₁=>qr h₁ fun itv s₂ h₂=>?_)) (fun _ s' hq=>Yj (Yj hq)) fun _ _ e=>e)
 obtain ⟨it,fp,tn,J,H2,rfl,I2,T,st2,f2,W,w0,turn⟩:=h₂;refine jf3 (RR:=fun acc C=>compPost ‹"d"› X.A X.xe (some (assign (.Name y py) X.env)) (fun _ s'=>SP X pins D₀ .next s') acc C) (Qv:=fun ys H'=>∀p,H' p=none->D₀.nx (σ.set i (some (.ref p))) (upd H' p (.lst ys)))
  hc hkind hcell hfree hix hF hg hloc ht he I2 T st2 f2 W w0 turn ?_
 intro D C H' s' ys m hDC hD hC nD nC hn I' q;show wpAny _ X.A (assign (.Name y py) X.env (.ref D)) _ _ s';refine wpAny_assign_Name (jd9 I' hN hy (.inl hyl) (v:=.ref D) rfl (fun s2 I2' zz=>?_) (.inr hyl));obtain ⟨a,hsb,ha⟩:=zz;have hCL:C≠X.env.locals:=fun z=>absurd (Yo (by rw [z];exact I2.lt) hC) (Y1 _);have hCc:∀x c,X.env.cells.lookup x=some c->c≠C:=fun x c e z=>by obtain ⟨v,w⟩:=I2.cell x c e;exact absurd (Yo w.lt (by rw [z];exact hC)) (Y1 _)
 have hCa:C≠a:=by
  rcases ha with z | z
  . rw [z];exact hCL
  . exact fun w=>hCc y a z w.symm
 refine ⟨m,hn.sameBut hsb hCa,fun h' hsb'=>⟨σ.set i (some (.ref D)),upd H' D (.lst ys),?_,q D nD⟩⟩;refine I2'.turned (it:=C) (t':=s2.toks) (fun b o hb e=>(hsb'.2 b hb).trans e) (by rw [jC (Ne.symm hDC)];exact nC) hCL (.inr (YW I2.sz hC)) hCc fun p hp z=>?_;have:=Yw (I2.pin p hp).1;rw [z] at this;exact absurd (Yo this hC) (Y1 _)
end
end L2
namespace L2
open PySem PySem.Spec PyProof.Rows
section
variable {X:Cx}
def jis (i j:Int):Prop:=0<j/\j<2 ^ 200
theorem jl8:OpR X (binaryOp .FloorDiv) (rI jis fun i j=>.int (i/j)):=opI fun i j _ _ _ _ _ hc q=>by
 have h1:(0:Int)<j:=hc.1;have h2:j<2 ^ 200:=hc.2;refine floordiv_int (by omega) (by rw [Int.fdiv_eq_ediv_of_nonneg i (by omega)];exact q) (.inl (PyProof.noPylong_of_log2 ?_));have h3:j.natAbs<2 ^ 200:=by omega
 have h4:j.natAbs≠0:=by omega
 have h5:=(Nat.log2_lt h4).mpr h3;omega
def IsT (K:PySem.W.Frag) (H:Hp) (x:V) (T:String) (b:Bool):Prop:=∃t,TyOf K H x t/\PySem.W.kitOne K t (.type T)=some b
theorem jgN:CallR X (.builtin "isinstance") (fun xs H Q=>∃x T b,xs=[x,.ty T] ∧ IsT X.K H x T b ∧ Q (.bl b) H):=by intro pins s σ H xs us Q I r h;obtain ⟨x,T,b,rfl,⟨t,ty,e⟩,q⟩:=h;obtain ⟨u,v,rfl,rx,ry⟩:=Vals.two r;have:v=Value.type T:=ry;subst this;exact jkg I rx ty e fun tk=>⟨.bl b,H,I.tok _,rfl,q⟩
theorem jk1 (hc:X.calm=true):CallR X (.builtin "sum") (fun xs H Q=>∃(p:Addr) (ns:List Int),xs=[.ref p] ∧ Jp X.K H p (ns.map V.int) ∧ Q (.int ns.sum) H):=by
 intro pins s σ H xs us Q I r h;obtain ⟨p,ns,rfl,hq,q⟩:=h;obtain ⟨u,rfl,rx⟩:=Vals.one r;cases rx;obtain ⟨its,rv,pl,hz⟩:=I.list hq;have hi:IntsAre its ns:=Qj rv;obtain ⟨ys,hx⟩:=hi.allInts.items;have hl':s.heap.IsList p (intItems ys):=hx ▸ pl.isList;refine sum_intListG (I.ok.hd hc) hl' fun h' tk t' hk=>?_;have e1:ns=ys.toList.map (·.1):=by rw [<-nums_intItems,<- hx];exact (show numsOf its.toArray.toList=ns from hi.numsOf).symm
 have e2:preSum (numAt ys) ys.size=ns.sum:=by rw [preSum_eq,List.take_of_length_le (by simp),e1]
 rw [e2];exact ⟨.int ns.sum,H,I.kept hk,⟨_,rfl⟩,q⟩
theorem jl0 (hc:X.calm=true):CallR X (.builtin "all") (fun xs H Q=>∃(p:Addr) (bs:List Bool),xs=[.ref p] ∧ Jp X.K H p (bs.map V.bl) ∧ Q (.bl (bs.all id)) H):=by
 intro pins s σ H xs us Q I r h;obtain ⟨p,bs,rfl,hq,q⟩:=h;obtain ⟨u,rfl,rx⟩:=Vals.one r;cases rx;obtain ⟨its,rv,pl,hz⟩:=I.list hq;have hl:=pl.isList;have hlt:p<s.heap.objs.size:=by obtain ⟨_,e,_⟩:=hl;exact Yw e
 have hlen:its.length=bs.length:=by have:=rv.length;rw [Yd] at this;exact this.symm
 refine call_all_walk (wpAny_pyIter_list hl ?_);refine ⟨s.heap.objs.size,[s.heap.objs.size,p],[s.heap.objs.size],its.toArray.size,_,_,fun i=>(bs[i]?).getD true,rfl,Walks.list (A:=X.A.in1) (I.ok.hd hc) _ p (Yv hlt) its.toArray,
  ⟨⟨_,Yy _ rfl,rfl,rfl⟩,hl.push _⟩,fun i v s' Q' E' hP hQ=>?_,fun h' tk hk=>?_⟩
 . have hP':its[i]?=some v:=by simpa using hP
   cases e:bs[i]? with
   | none=>have:bs.length<=i:=Y4.mp e;have:its[i]?=none:=Y4.mpr (by omega);rw [this] at hP';cases hP'
   | some b=>obtain ⟨u,e1,e2⟩:=rv.get (i:=i) (x:=V.bl b) (by rw [List.getElem?_map,e];rfl);rw [hP'] at e1;cases e1;have:v=Value.bool b:=e2;subst this;simp only [e,K9] at hQ;exact yH hQ
 . have e:((List.range its.toArray.size).all fun i=>(bs[i]?).getD true)=bs.all id:=by rw [YI,hlen];exact LSm.range_all bs
   rw [e];exact ⟨.bl (bs.all id),H,I.kept (LSm.kept_iter hk),rfl,q⟩
end
theorem jnp {X:Cx} {x:Str} {i:Int} {t:Tok} {pos:Pos} (hg:Gl X x) (hm:X.mg x=some (.int i t)) (hd:autoParam ‹"i"› QA.a1._auto_1):PE X (.Name x pos) (tC (.int i)):=jmu hg hm ⟨t,rfl⟩ hd
theorem jsk {X:Cx} {x:Str} {T:String} {pos:Pos} (hg:Gl X x) (hm:X.mg x=none) (hv:bootBuiltins x=some (.type T)) (hn:autoParam (x ≠ "__name__") QA.a1._auto_1) (hd:autoParam ‹"i"› QA.a1._auto_1):PE X (.Name x pos) (tC (.ty T)):=jn0 hg hm hv rfl hn hd
section
variable {t u:TS} {te ta tb tc:TE} {nx bk ct:St->Hp->Prop} {rt:VK} {σ:St} {H:Hp} {i:Nat} {v:V} {Q:VK} {r r':R2} {c c':TT} {QB:Bool->Hp->Prop} {QA:List V->Hp->Prop} {A B:TA}
end
theorem Same.seqT {K:PySem.W.Frag} {H H':Hp} {a:Addr} {xs:List V} (e:Same H H') (h:SqT K H a xs):SqT K H' a xs:=by
 rcases h with (h | ⟨o,h⟩) | h
 . exact .inl (.inl (e _ _ h))
 . exact .inl (.inr ⟨o,e _ _ h⟩)
 . exact .inr h
theorem Same.upd {H:Hp} {p:Addr} {o:HO} (h:H p=none):Same H (upd H p o):=fun b u e=>by rw [jC (jH e h)];exact e
end L2
namespace L2
open PySem PySem.Spec PyProof.Rows
theorem HOk.grow {P:Program} {w:World} {H H':Hp} {h h':Heap} (x:HOk P w H h) (k:∀b u,h.get? b=some u->h'.get? b=some u) (same:∀b,@LT.lt Nat instLTNat b h.objs.size->H' b=H b)
 (new:∀b o,h.objs.size<=b->H' b=some o->ObjOk P w H' h' b o):HOk P w H' h':=fun b o e=>by
 rcases Y2 b h.objs.size with z | z
 . rw [same b z] at e;exact (x b o e).stay (fun c v _ q=>k c v q) (fun c q=>by rw [same c (x.lt q)];exact q) fun c xs q=>by rw [same c (x.lt q)];exact q
 . exact new b o z e
section
variable {X:Cx} {pins:List (Addr×Obj)} {σ:St} {H H':Hp} {s:Shared} {h':Heap}
theorem Inv.grow {t':Nat} {d':Drawn} (I:Inv X pins σ H s) (k:∀b u,s.heap.get? b=some u->h'.get? b=some u) (same:∀b,@LT.lt Nat instLTNat b s.heap.objs.size->H' b=H b)
 (new:∀b o,s.heap.objs.size<=b->H' b=some o->ObjOk X.prog X.w H' h' b o):Inv X pins σ H' { s with heap:=h',drawn:=d',toks:=t' }:=
 I.step (g':=s.gens) (d':=d') (ch:=[]) (fun _ z=>nomatch z) (fun b o _ _ _ e _=>k b o e) (fun b o _ _ _ e _=>⟨o.slots,k b o e⟩) (fun b o _ e n=>by rw [same b (Yw e)];exact n) (fun b o _ e=>⟨o,k b o e⟩)
  (fun b xs e=>by rw [same b (I.hok.lt e)];exact e) (fun b o u e=>by rw [same b (I.hok.lt e)];exact e) (fun b ps e=>⟨#[],by rw [same b (I.hok.lt e),e];simp⟩) (fun m hm=>hm.keeps k) (I.hok.grow k same new) I.bare
theorem Inv.turnNew {ch:List Addr} {t:Addr} {o:HO} {tk:Nat} (I:Inv X pins σ H s) (hf:∀b∈ch,jda X pins H b) (k:∀b u,b∉ch->s.heap.get? b=some u->h'.get? b=some u) (ht:s.heap.objs.size<=t)
 (new:ObjOk X.prog X.w (upd H t o) h' t o):Inv X pins σ (upd H t o) { s with heap:=h',toks:=tk }:=by
 have hn:H t=none:=I.hok.fresh ht;have lt:∀b u,s.heap.get? b=some u->b≠t:=fun b u e=>Yv (Yo (Yw e) ht);have nch:∀b u,H b=some u->b∉ch:=fun b u e z=>by rw [(hf b z).1] at e;cases e
 refine I.step (g':=s.gens) (d':=s.drawn) (ch:=ch) ‹"a0"› (fun b u _ _ hc e _=>k b u hc e) (fun b u _ _ hc e _=>⟨u.slots,k b u hc e⟩)
  (fun b u _ e n=>by rw [jC (lt b u e)];exact n) (fun b u hc e=>⟨u,k b u hc e⟩) (fun b xs e=>by rw [jC (jH e hn)];exact e) (fun b u v e=>by rw [jC (jH e hn)];exact e) (fun b ps e=>⟨#[],by rw [jC (jH e hn),e];simp⟩)
  (fun m hm=>?_) (fun b u e=>?_) I.bare
 . obtain ⟨ol,es,ep,ho,r⟩:=hm;exact ⟨ol,es,ep,k _ ol (fun z=>(hf _ z).2.1 rfl) ho,r⟩
 . by_cases hb:b=t
   . subst hb;rw [jB] at e;cases e;exact new
   . rw [jC hb] at e;refine (I.hok b u e).stay (fun c v hc q=>k c v ?_ q) (fun c q=>by rw [jC (jH q hn)];exact q) fun c xs q=>by rw [jC (jH q hn)];exact q
     rcases hc with z | z
     . rw [z];exact nch b u e
     . exact nch c _ z
end
def Itz (K:PySem.W.Frag) (p q:Addr):It:=
 ⟨fun i H=>∃xs ys x y,Jp K H p xs/\Jp K H q ys/\xs[i]?=some x/\ys[i]?=some y,
  fun i H v H'=>∃t x y,H t=none/\v=.ref t/\H'=upd H t (.tup [x,y])/\(∀xs,Jp K H p xs->xs[i]?=some x)/\∀ys,Jp K H q ys->ys[i]?=some y,
  fun i H=>∃xs ys,Jp K H p xs/\Jp K H q ys/\(xs.length<=i\/ys.length<=i)⟩
theorem jds {h:Heap} {T:Addr} {a b:Value} (e:IsPair h T a b):IsTup h T [a,b].toArray:=⟨_,e,rfl,0,rfl⟩
theorem jmd {P:Program} {w:World} {K:PySem.W.Frag} {elts:List Expr} {x1:Nat} {tpos:Pos} {z TI TO i1 i2 p q:Addr} (D:ZipApart z TI TO i1 i2 p q) :
 Turn P w K (.Tuple elts x1 tpos) (Itz K p q) [z,TI,TO,i1,i2] z (fun i h=>IsZip h z TI TO .none/\IsPair h TI (.ref i1) (.ref i2)/\(∃a b,IsPair h TO a b)/\h.IsListIter i1 p i/\h.IsListIter i2 q i) where
 mem:=by simp
 obj:=fun i h st b hb=>by
  obtain ⟨hz,hTI,⟨a,c,hTO⟩,⟨o1,e1,_,d1⟩,⟨o2,e2,_,d2⟩⟩:=st;simp only [Yn,YD,Kv] at hb;rcases hb with rfl | rfl | rfl | rfl | rfl
  . exact ⟨_,hz,fun v y=>nomatch y⟩
  . exact ⟨_,hTI,fun v y=>nomatch y⟩
  . exact ⟨_,hTO,fun v y=>nomatch y⟩
  . exact ⟨o1,e1,fun v y=>by rw [d1] at y;cases y⟩
  . exact ⟨o2,e2,fun v y=>by rw [d2] at y;cases y⟩
 keep:=fun i h h' st k=>by obtain ⟨hz,hTI,⟨a,c,hTO⟩,h1,h2⟩:=st;exact ⟨k _ (by simp) _ hz,k _ (by simp) _ hTI,⟨a,c,k _ (by simp) _ hTO⟩,h1.at fun o e=>k _ (by simp) o e,h2.at fun o e=>k _ (by simp) o e⟩
 item:=by
  intro X hP hw hK hc i pins s σ H E I hf st hg;subst hP hw hK;obtain ⟨xs,ys,x,y,hp,hq,hx,hy⟩:=hg;obtain ⟨its,rv,pl,_⟩:=I.list hp;obtain ⟨its2,rv2,pl2,_⟩:=I.list hq;obtain ⟨u,hu,ru⟩:=rv.get hx;obtain ⟨u2,hu2,ru2⟩:=rv2.get hy;obtain ⟨hz,hTI,⟨a,c,hTO⟩,h1,h2⟩:=st;refine wpAny_pyNext_zip_item D hz hTI hTO h1 h2 pl.isList pl2.isList (x:=u) (y:=u2) (by simpa using hu) (by simpa using hu2) fun h' r1 r2 r3 r4 r5 r6 r7=>?_;have kk:∀b o,b∉[z,TI,TO,i1,i2]->s.heap.get? b=some o->h'.get? b=some o:=fun b o hb e=>by simp only [Yn,YD,Kv,not_or] at hb;exact r7 b o hb.1 hb.2.2.1 hb.2.2.2.1 hb.2.2.2.2 e
  have I1:Inv X pins σ (upd H s.heap.objs.size (.tup [x,y])) { s with heap:=h',toks:=s.toks }:=I.turnNew hf kk (Yq _) ⟨by show 2<=sizeLine;decide,[u,u2],.cons ru (.cons ru2 .nil),jds r5⟩;have hTI':IsPair h' TI (.ref i1) (.ref i2):=r7 _ _ D.TIz D.TITO D.TIi1 D.TIi2 hTI;have nt:∀b∈[z,TI,TO,i1,i2],b≠s.heap.objs.size:=fun b hb=>by
   simp only [Yn,YD,Kv] at hb;rcases hb with rfl | rfl | rfl | rfl | rfl
   . exact Yv (ltN hz)
   . exact Yv (ltN hTI)
   . exact Yv (ltN hTO)
   . obtain ⟨_,e,_⟩:=h1;exact Yv (ltN e)
   . obtain ⟨_,e,_⟩:=h2;exact Yv (ltN e)
  refine ⟨_,rfl,wpAny_letOwnedTupleGo_zip (s:={ s with heap:=h' }) r1 fun h'' z' sb=>?_⟩;obtain ⟨f0,f1,f2,f3,f4,f5⟩:=hf z (by simp);have hn:H s.heap.objs.size=none:=I.hok.fresh (Yq _);have I2:Inv X pins σ (upd H s.heap.objs.size (.tup [x,y])) { s with heap:=h'',toks:=s.toks }:=Inv.turned (s:={ s with heap:=h',toks:=s.toks }) (h':=h'') I1 (t':=s.toks) (it:=z) (fun b o hb e=>(sb.2 b hb).trans e) (by rw [jC (nt z (by simp))];exact f0) f1 f3 f4 f5;refine ⟨.ref s.heap.objs.size,_,I2,rfl,⟨_,x,y,hn,rfl,rfl,fun xs' h'=>by rw [I.list_inj h' hp];exact hx,fun ys' h'=>by rw [I.list_inj h' hq];exact hy⟩,⟨z',sb.extBut _ _ D.TIz hTI',⟨_,_,sb.extBut _ _ D.TOz r2⟩,r3.extBut sb.extBut D.i1z,r4.extBut sb.extBut D.i2z⟩,fun b hb=>?_⟩;rw [jC (nt b hb)];exact (hf b hb).1
 done:=by
  intro X hP hw hK hc i pins s σ H E I hf st hg;subst hP hw hK;obtain ⟨xs,ys,hp,hq,he⟩:=hg;obtain ⟨its,rv,pl,_⟩:=I.list hp;obtain ⟨its2,rv2,pl2,_⟩:=I.list hq;obtain ⟨hz,hTI,⟨a,c,hTO⟩,h1,h2⟩:=st;have l1:=rv.length;have l2:=rv2.length;refine wpAny_pyNext_zip_end (I.ok.hd hc) D hz hTI hTO h1 h2 pl.isList pl2.isList (by rcases he with e | e;exact .inl (by simp;omega);exact .inr (by simp;omega)) fun h' kk=>⟨rfl,?_⟩;have J:∀b o,b∉[z,TI,TO,i1,i2]->s.heap.get? b=some o->h'.get? b=some o:=fun b o hb e=>by simp only [Yn,YD,Kv,not_or] at hb;exact kk b o hb.1 hb.2.2.1 hb.2.2.2.1 hb.2.2.2.2 e
  have nch:∀b u,H b=some u->b∉[z,TI,TO,i1,i2]:=fun b u e y=>by rw [(hf b y).1] at e;cases e
  refine I.step (g':=s.gens) (d':=s.drawn) (t':=s.toks) (ch:=[z,TI,TO,i1,i2]) ‹"a0"› (fun b u _ _ hc e _=>J b u hc e) (fun b u _ _ hc e _=>⟨u.slots,J b u hc e⟩)
   (fun _ _ _ _ n=>n) (fun b u hc e=>⟨u,J b u hc e⟩) (fun _ _ e=>e) (fun _ _ _ e=>e) (fun b ps e=>⟨#[],by rw [e];simp⟩) (fun m hm=>?_) (fun b u e=>?_) I.bare
  . obtain ⟨ol,es,ep,ho,r⟩:=hm;exact ⟨ol,es,ep,J _ ol (fun y=>(hf _ y).2.1 rfl) ho,r⟩
  . refine (I.hok b u e).stay (fun c v hc q=>J c v ?_ q) (fun _ q=>q) fun _ _ q=>q;rcases hc with y | y
    . rw [y];exact nch b u e
    . exact nch c _ y
 self:=fun _ _ _ _ _ st h=>wpAny_pyIter_zip st.1 h
section
variable {X:Cx}
def jpZ (K:PySem.W.Frag) (ta:TA):TI:=fun σ H R=>ta σ H fun vs H1=>∃p q xs ys,vs=[.ref p,.ref q]/\Jp K H1 p xs/\Jp K H1 q ys/\R (Itz K p q) H1
theorem jqm {a b:Expr} {ta:TA} {p pos:Pos} {elts:List Expr} {x1:Nat} {tpos:Pos} (hg:Gl X "zip") (hm:X.mg "zip"=none) (ha:PA X [a,b] ta) (hs:autoParam (starEach [a,b] X.env=[(false,eval a X.env),(false,eval b X.env)]) QA.a4._auto_1) (hs2:autoParam (starEach [b] X.env=[(false,eval b X.env)]) QA.a4._auto_1) :
 PI X (.Tuple elts x1 tpos) (.Call (.Name "zip" p) [a,b] [] pos) (jpZ X.K ta):=by
 intro pins s σ H R I h;refine Call_ (JN I hg hm boot_zip (Y5 (qr (ha pos pins s σ H _ I h) fun us s1 zz=>?_) (by rw [hs,hs2]) (by rw [hs2];rfl)));obtain ⟨vs,H1,I1,r1,q1⟩:=zz;obtain ⟨pa,pb,xs,ys,e,hp,hq,q⟩:=q1;subst e;obtain ⟨u,v,rfl,ru,rv⟩:=Vals.two r1;cases ru;cases rv;obtain ⟨its,rx,pl,_⟩:=I1.list hp;obtain ⟨its2,ry,pl2,_⟩:=I1.list hq;have lta:@LT.lt Nat instLTNat pa s1.heap.objs.size:=by obtain ⟨_,e,_⟩:=pl.isList;exact ltN e
 have ltb:@LT.lt Nat instLTNat pb s1.heap.objs.size:=by obtain ⟨_,e,_⟩:=pl2.isList;exact ltN e
 refine call_zip_2 pl.isList pl2.isList fun h' r1 r2 r3 r4 r5 r6 r7=>wpAny_pyIter_zip (s:={ s1 with heap:=h' }) r1 ?_;have I2:Inv X pins σ H1 { s1 with heap:=h',toks:=s1.toks }:=I1.kept (t':=s1.toks) r7;refine ⟨_,[s1.heap.objs.size+4,s1.heap.objs.size+2,s1.heap.objs.size+3,s1.heap.objs.size,s1.heap.objs.size+1],_,_,H1,rfl,I2,jmd (zipApart_new lta ltb),⟨r1,r2,⟨_,_,r3⟩,r4,r5⟩,fun b hb=>?_,q⟩;have ge:s1.heap.objs.size<=b:=by
  simp only [Yn,YD,Kv] at hb;rcases hb with rfl | rfl | rfl | rfl | rfl
  . exact yG _ 4
  . exact yG _ 2
  . exact yG _ 3
  . exact Yq _
  . exact yG _ 1
 exact I1.fpOk ge (I1.hok.fresh ge)
end
def Ite (K:PySem.W.Frag) (p:Addr):It:=
 ⟨fun i H=>∃xs x,Jp K H p xs/\xs[i]?=some x,
  fun i H v H'=>∃t x,H t=none/\v=.ref t/\H'=upd H t (.tup [.int i,x])/\∀xs,Jp K H p xs->xs[i]?=some x,
  fun i H=>∃xs,Jp K H p xs/\xs.length<=i⟩
theorem jja {P:Program} {w:World} {K:PySem.W.Frag} {elts:List Expr} {x1:Nat} {tpos:Pos} {e it p:Addr} (hei:e≠it) :
 Turn P w K (.Tuple elts x1 tpos) (Ite K p) [e,it] e (fun i h=>(∃old,IsEnum h e it i old)/\h.IsListIter it p i) where
 mem:=by simp
 obj:=fun i h st b hb=>by
  obtain ⟨⟨old,he⟩,⟨o1,e1,_,d1⟩⟩:=st;simp only [Yn,YD,Kv] at hb;rcases hb with rfl | rfl
  . exact ⟨_,he,fun v y=>nomatch y⟩
  . exact ⟨o1,e1,fun v y=>by rw [d1] at y;cases y⟩
 keep:=fun i h h' st k=>by obtain ⟨⟨old,he⟩,h1⟩:=st;exact ⟨⟨old,k _ (by simp) _ he⟩,h1.at fun o e=>k _ (by simp) o e⟩
 item:=by
  intro X hP hw hK hc i pins s σ H E I hf st hg;subst hP hw hK;obtain ⟨xs,x,hp,hx⟩:=hg;obtain ⟨its,rv,pl,_⟩:=I.list hp;obtain ⟨u,hu,ru⟩:=rv.get hx;obtain ⟨⟨old,he⟩,h1⟩:=st;refine wpAny_pyNext_enum_item he h1 pl.isList (x:=u) (by simpa using hu) hei fun h' r1 r2 r3 r4 r5=>?_;have kk:∀b o,b∉[e,it]->s.heap.get? b=some o->h'.get? b=some o:=fun b o hb q=>by simp only [Yn,YD,Kv,not_or] at hb;exact r5 b o hb.1 hb.2 q
  have I1:Inv X pins σ (upd H s.heap.objs.size (.tup [.int i,x])) { s with heap:=h',toks:=s.toks+1 }:=I.turnNew hf kk (Yq _) ⟨by show 2<=sizeLine;decide,[.int i s.toks,u],.cons ⟨_,rfl⟩ (.cons ru .nil),⟨_,r3,rfl,0,rfl⟩⟩;have nt:∀b∈[e,it],b≠s.heap.objs.size:=fun b hb=>by
   simp only [Yn,YD,Kv] at hb;rcases hb with rfl | rfl
   . exact Yv (ltN he)
   . obtain ⟨_,q,_⟩:=h1;exact Yv (ltN q)
  refine ⟨_,rfl,wpAny_letOwnedTupleGo_enum (s:={ s with heap:=h',toks:=s.toks+1 }) r1 fun h'' z' sb=>?_⟩;obtain ⟨f0,f1,f2,f3,f4,f5⟩:=hf e (by simp);have hn:H s.heap.objs.size=none:=I.hok.fresh (Yq _);have I2:Inv X pins σ (upd H s.heap.objs.size (.tup [.int i,x])) { s with heap:=h'',toks:=s.toks+1 }:=Inv.turned (s:={ s with heap:=h',toks:=s.toks+1 }) (h':=h'') I1 (t':=s.toks+1) (it:=e) (fun b o hb q=>(sb.2 b hb).trans q) (by rw [jC (nt e (by simp))];exact f0) f1 f3 f4 f5;refine ⟨.ref s.heap.objs.size,_,I2,rfl,⟨_,x,hn,rfl,rfl,fun xs' h'=>by rw [I.list_inj h' hp];exact hx⟩,⟨⟨_,z'⟩,r2.extBut sb.extBut (Ne.symm hei)⟩,fun b hb=>?_⟩;rw [jC (nt b hb)];exact (hf b hb).1
 done:=by intro X hP hw hK hc i pins s σ H E I hf st hg;subst hP hw hK;obtain ⟨xs,hp,hle⟩:=hg;obtain ⟨its,rv,pl,_⟩:=I.list hp;obtain ⟨⟨old,he⟩,h1⟩:=st;have l1:=rv.length;obtain ⟨f0,f1,f2,f3,f4,f5⟩:=hf it (by simp);exact wpAny_pyNext_enum_end (I.ok.hd hc) he h1 pl.isList (by simp;omega) fun h' kk=>⟨rfl,I.turned (t':=s.toks) (it:=it) (fun b o hb q=>kk b o hb q) f0 f1 f3 f4 f5⟩
 self:=fun _ _ s _ _ st h=>by obtain ⟨⟨old,he⟩,_⟩:=st;have hT:s.TypeIs (.ref e) "enumerate":=⟨_,he,rfl⟩;refine wpAny_pyIter_slot hT yX (yF yX hT PySem.F.entry_enumerate_iter ?_ (PySem.F.args_enumerate_iter_1 _));show wpAny _ _ (ret (.ref e)) _ _ s;exact Yj ⟨_,rfl, "enumerate",_,hT,PySem.F.slot_enumerate_next.lookup,h⟩
section
variable {X:Cx}
def jk3 (K:PySem.W.Frag) (ta:TA):TI:=fun σ H R=>ta σ H fun vs H1=>∃p xs,vs=[.ref p]/\Jp K H1 p xs/\R (Ite K p) H1
theorem jmw {a:Expr} {ta:TA} {p pos:Pos} {elts:List Expr} {x1:Nat} {tpos:Pos} (hg:Gl X "enumerate") (hm:X.mg "enumerate"=none) (ha:PA X [a] ta) (hs:autoParam (starEach [a] X.env=[(false,eval a X.env)]) QA.a4._auto_1) :
 PI X (.Tuple elts x1 tpos) (.Call (.Name "enumerate" p) [a] [] pos) (jk3 X.K ta):=by
 intro pins s σ H R I h;refine Call_ (JN I hg hm boot_enumerate (Y5 (qr (ha pos pins s σ H _ I h) fun us s1 zz=>?_) hs rfl));obtain ⟨vs,H1,I1,r1,q1⟩:=zz;obtain ⟨pa,xs,e,hp,q⟩:=q1;subst e;obtain ⟨u,rfl,ru⟩:=Vals.one r1;cases ru;obtain ⟨its,rx,pl,_⟩:=I1.list hp;refine call_enumerate_list pl.isList fun h' r1 r2 r3 r4=>?_;have hT:Shared.TypeIs { s1 with heap:=h' } (.ref (s1.heap.objs.size+1)) "enumerate":=⟨_,r1,rfl⟩;refine wpAny_pyIter_slot hT yX (yF yX hT PySem.F.entry_enumerate_iter ?_ (PySem.F.args_enumerate_iter_1 _));show wpAny _ _ (ret (.ref (s1.heap.objs.size+1))) _ _ _;refine Yj ⟨_,rfl, "enumerate",_,hT,PySem.F.slot_enumerate_next.lookup,?_⟩;have I2:Inv X pins σ H1 { s1 with heap:=h',toks:=s1.toks }:=I1.kept (t':=s1.toks) r4;refine ⟨_,[s1.heap.objs.size+1,s1.heap.objs.size],_,_,H1,rfl,I2,jja (yn (yO _)),⟨⟨_,r1⟩,r2⟩,fun b hb=>?_,q⟩;have ge:s1.heap.objs.size<=b:=by
  simp only [Yn,YD,Kv] at hb;rcases hb with rfl | rfl
  . exact yG _ 1
  . exact Yq _
 exact I1.fpOk ge (I1.hok.fresh ge)
def jcR (K:PySem.W.Frag) (ta:TA):TE:=fun σ H Q=>ta σ H fun vs H1=>∃p q xs ys,vs=[.ref p,.ref q]/\Jp K H1 p xs/\Jp K H1 q ys/\xs.length<sizeLine /\
 ∀(l:Addr) (ts:List Addr) (H':Hp),H1 l=none->(∀t∈ts,H1 t=none)->l∉ts->ts.Nodup->ts.length=min xs.length ys.length->(∀b,b≠l->b∉ts->H' b=H1 b)->H' l=some (.lst (ts.map V.ref))->
   (∀(i:Nat) t x y,ts[i]?=some t->xs[i]?=some x->ys[i]?=some y->H' t=some (.tup [x,y]))->Q (.ref l) H'
theorem jbl:∀ts:List Addr,Vals (ts.map V.ref) (ts.map Value.ref)
 | []=>.nil
 | _::ts=>.cons rfl (jbl ts)
theorem jaT {ts:List Addr} {b:Addr} (h:b∈ts):ts.idxOf b<ts.length/\ts[ts.idxOf b]?=some b:=by have h1:=List.idxOf_lt_length_of_mem h;exact ⟨h1,by rw [Ya h1,List.getElem_idxOf h1]⟩
theorem jg3 {a b:Expr} {ta:TA} {p1 p2 pos1 pos2:Pos} (hc:X.calm=true) (hg1:Gl X "list") (hm1:X.mg "list"=none) (hg2:Gl X "zip") (hm2:X.mg "zip"=none) (ha:PA X [a,b] ta)
 (hs:autoParam (starEach [a,b] X.env=[(false,eval a X.env),(false,eval b X.env)]) QA.a4._auto_1) (hs2:autoParam (starEach [b] X.env=[(false,eval b X.env)]) QA.a4._auto_1)
 (hs3:autoParam (starEach [.Call (.Name "zip" p2) [a,b] [] pos2] X.env=[(false,eval (.Call (.Name "zip" p2) [a,b] [] pos2) X.env)]) QA.a4._auto_1) :
 PE X (.Call (.Name "list" p1) [.Call (.Name "zip" p2) [a,b] [] pos2] [] pos1) (jcR X.K ta):=by
 intro pins s σ H Q I h;refine Call_ (JN I hg1 hm1 boot_list (Y5 ?_ hs3 rfl));rw [hs3];show wpAny _ _ (spliced ((false,eval (.Call (.Name "zip" p2) [a,b] [] pos2) X.env)::backTo pos1 [])) _ _ s;refine yE (Call_ (JN I hg2 hm2 boot_zip (Y5 (qr (ha pos2 pins s σ H _ I h) fun us s1 zz=>?_) (by rw [hs,hs2]) (by rw [hs2];rfl))));obtain ⟨vs,H1,I1,r1,q1⟩:=zz;obtain ⟨pa,pb,xs,ys,e,hp,hq,hxl,q⟩:=q1;subst e;obtain ⟨u,v,rfl,ru,rv⟩:=Vals.two r1;cases ru;cases rv;obtain ⟨its,rx,pl,hz1⟩:=I1.list hp;obtain ⟨its2,ry,pl2,hz2⟩:=I1.list hq;have lx:=rx.length;have ly:=ry.length;have lta:@LT.lt Nat instLTNat pa s1.heap.objs.size:=by obtain ⟨_,e,_⟩:=pl.isList;exact ltN e
 have ltb:@LT.lt Nat instLTNat pb s1.heap.objs.size:=by obtain ⟨_,e,_⟩:=pl2.isList;exact ltN e
 refine call_zip_2 pl.isList pl2.isList fun h' r1 r2 r3 r4 r5 r6 r7=>?_;refine yV ?_;refine jlo (h₀:=s1.heap) (xs:=its.toArray) (ys:=its2.toArray) (I.ok.hd hc) (zipApart_new lta ltb) r1 r2 ⟨_,_,r3⟩ r4 r5 pl.isList pl2.isList r7 ⟨yG _ 4,yG _ 3,Yq _,yG _ 1⟩ (by show s1.heap.objs.size<=h'.objs.size;rw [r6];exact yG _ 5) (by simp;omega) fun S g acc c hS eS M=>?_
 -- the tuples' addresses
 have hmin:min its.toArray.size its2.toArray.size=min xs.length ys.length:=by simp;omega
 have hts:∃ts:List Addr,acc.toList=ts.map Value.ref:=by
  have:∀v∈acc.toList,∃t,v=Value.ref t:=fun v hv=>by
   obtain ⟨j,hj,e⟩:=yx hv;have hj':j<acc.size:=by simpa using hj
   obtain ⟨T,x,y,e1,_⟩:=M.pair j (by rw [<-M.size];exact hj');rw [YK hj'] at e1;exact ⟨T,by rw [<-e];simpa using Option.some.inj e1⟩
  generalize acc.toList=l at this;clear eS M;induction l with
  | nil=>exact ⟨[],rfl⟩
  | cons v l ih=>obtain ⟨t,rfl⟩:=this v Ye;obtain ⟨ts,e⟩:=ih fun x hx=>this x (Yg _ hx);exact ⟨t::ts,by rw [e];rfl⟩
 obtain ⟨ts,hts⟩:=hts;have tl:ts.length=min xs.length ys.length:=by have:=congrArg List.length hts;rw [Yd,YL,M.size,hmin] at this;exact this.symm
 have at_:∀(j:Nat) (t:Addr),ts[j]?=some t->acc[j]?=some (.ref t):=fun j t e=>by rw [<-yb,hts,List.getElem?_map,e];rfl
 have info:∀(j:Nat) (t:Addr),ts[j]?=some t->∃x y,its[j]?=some x/\its2[j]?=some y/\IsPair g t x y/\s1.heap.objs.size<=t/\t≠S/\∀k,k<j->acc[k]?≠some (.ref t):=fun j t e=>by
  have hj:j<ts.length:=(Ym.mp e).1;obtain ⟨T,x,y,e1,e2,e3,e4,e5,e6,_,e7⟩:=M.pair j (by rw [hmin,<- tl];exact hj);rw [at_ j t e] at e1;have:t=T:=by injection (Option.some.inj e1)
  subst this;exact ⟨x,y,by simpa using e2,by simpa using e3,e4,e5,e6,e7⟩
 have nd:ts.Nodup:=by rw [List.nodup_iff_pairwise_ne,Kf];intro i j hi hj hij e;obtain ⟨_,_,_,_,_,_,_,q7⟩:=info j ts[j] (Ya hj);exact q7 i hij (by rw [<-e];exact at_ i _ (Ya hi))
 have fresh:∀t∈ts,s1.heap.objs.size<=t/\t≠S:=fun t ht=>by obtain ⟨h1,h2⟩:=jaT ht;obtain ⟨_,_,_,_,_,q5,q6,_⟩:=info _ t h2;exact ⟨q5,q6⟩
 let H':Hp:=fun b=>if b=S then some (.lst (ts.map V.ref)) else if b∈ts then some (.tup [(xs[ts.idxOf b]?).getD .non,(ys[ts.idxOf b]?).getD .non]) else H1 b
 have HS:H' S=some (.lst (ts.map V.ref)):=if_pos rfl;have HT:∀(i:Nat) t x y,ts[i]?=some t->xs[i]?=some x->ys[i]?=some y->H' t=some (.tup [x,y]):=fun i t x y e e1 e2=>by
  have hi:i<ts.length:=(Ym.mp e).1;have ht:t∈ts:=YB e;have hix:ts.idxOf t=i:=by obtain ⟨h1,h2⟩:=jaT ht;exact (KC (h₀:=h1) (h₁:=hi) nd).mp ((Ym.mp h2).2.trans (Ym.mp e).2.symm)
  show (if t=S then _ else if t∈ts then _ else _)=_;rw [if_neg (fresh t ht).2,if_pos ht,hix,e1,e2];rfl
 have HO':∀b,b≠S->b∉ts->H' b=H1 b:=fun b h1 h2=>by show (if b=S then _ else if b∈ts then _ else _)=_;rw [if_neg h1,if_neg h2]
 have I2:Inv X pins σ H' { s1 with heap:=g,drawn:=s1.drawn,toks:=s1.toks }:=by
  refine I1.grow M.keep (fun b hb=>HO' b (fun z=>?_) (fun z=>?_)) fun b o hb e=>?_
  . rw [z] at hb;exact KY.mpr hS hb
  . exact KY.mpr (fresh b z).1 hb
  . by_cases hbS:b=S
    . subst hbS;rw [HS] at e;cases e;refine ⟨by rw [Yd,tl];omega,acc.toList,c,?_,by simpa using eS⟩;rw [hts];exact jbl ts
    . by_cases hbt:b∈ts
      . obtain ⟨h1,h2⟩:=jaT hbt;obtain ⟨x,y,e1,e2,e3,_⟩:=info _ b h2;have hxi:ts.idxOf b<xs.length:=by omega
        have hyi:ts.idxOf b<ys.length:=by omega
        rw [HT _ b _ _ h2 (Ya hxi) (Ya hyi)] at e;cases e;obtain ⟨u1,g1,g2⟩:=rx.get (Ya hxi);obtain ⟨u2,g3,g4⟩:=ry.get (Ya hyi);rw [e1] at g1;rw [e2] at g3;cases g1;cases g3;exact ⟨by show 2<=sizeLine;decide,[x,y],.cons g2 (.cons g4 .nil),jds e3⟩
      . rw [HO' b hbS hbt] at e;exact absurd (I1.hok.lt e) (KY.mpr hb)
 have nS:H1 S=none:=I1.hok.fresh hS;exact ⟨.ref S,H',I2,rfl,q S ts H' nS (fun t ht=>I1.hok.fresh (fresh t ht).1) (fun z=>(fresh S z).2 rfl) nd tl HO' HS HT⟩
def je1 (X:Cx) (a:Addr) (ns:List Int):HO:=.ext fun h=>L2S.Z8 X.prog X.w h a ns
theorem jjQ {P:Program} {w:World} {a:Addr} {ns:List Int} {h1 h2:Heap} (r:L2S.Z8 P w h1 a ns) (k:∀o,h1.get? a=some o->h2.get? a=some o):L2S.Z8 P w h2 a ns:=by obtain ⟨o,es,ep,t,ho,q⟩:=r;exact ⟨o,es,ep,t,k o ho,q⟩
theorem jhK (hc:X.calm=true):CallR X (.type "set") (fun xs H Q=>∃(p:Addr) (ns:List Int),xs=[.ref p] ∧ Jp X.K H p (ns.map V.int) ∧ ns.length<64 ∧ ∀a,H a=none → Q (.ref a) (upd H a (je1 X a ns))):=by intro pins s σ H xs us Q I r h;obtain ⟨p,ns,rfl,hq,hl,q⟩:=h;obtain ⟨u,rfl,rx⟩:=Vals.one r;cases rx;obtain ⟨its,rv,pl,hz⟩:=I.list hq;have hi:IntsAre its ns:=Qj rv;refine L2S.jha (I.ok.hd hc) pl.isList ‹"as"› (by show ns.length+1<4096;omega) fun h' tk hS hk=>?_;refine ⟨.ref s.heap.objs.size,upd H s.heap.objs.size (je1 X s.heap.objs.size ns),?_,rfl,q _ (I.hok.fresh (Yq _))⟩;refine I.laid hk (Yq _) ⟨hS,?_,fun h1 h2 r k=>jjQ r k⟩;obtain ⟨o,es,ep,t,ho,_⟩:=hS;exact ⟨o,ho⟩
theorem jcj (hc:X.calm=true):CallR X (.builtin "sorted") (fun xs H Q=>∃(a:Addr) (ns:List Int),xs=[.ref a] ∧ H a=some (je1 X a ns) ∧ ns.length<64 ∧
 ∀(l:Addr) (ks:List Int),H l=none->ks.Pairwise (· < ·)->(∀k,k∈ks ↔ k∈ns)->ks.length<=ns.length->Q (.ref l) (upd H l (.lst (ks.map V.int)))):=by
 intro pins s σ H xs us Q I r h;obtain ⟨a,ns,rfl,ha,hl,q⟩:=h;obtain ⟨u,rfl,rx⟩:=Vals.one r;cases rx;obtain ⟨hS,_,_⟩:=I.hok a _ ha;refine L2S.jhb (I.ok.hd hc) hS hl fun h' d tk l out c ks hk hle he hi hp hm hn=>?_;have nl:H l=none:=I.hok.fresh hle;refine ⟨.ref l,upd H l (.lst (ks.map V.int)),?_,rfl,q l ks nl hp hm hn⟩;refine I.grow hk (fun b hb=>jC (Yv (Yo hb hle))) fun b o hb e=>?_;by_cases hbl:b=l
 . subst hbl;rw [jB] at e;cases e;refine ⟨by rw [Yd];exact YW (by omega:ks.length<=64) (by decide),out.toList,c,jbt hi,by simpa using he⟩
 . rw [jC hbl] at e;exact absurd (I.hok.lt e) (KY.mpr hb)
end
end L2
namespace L2
open PySem PySem.Spec PyProof.Rows
section
variable {X:Cx}
theorem jjG (hc:X.calm=true):CallR X (.builtin "min") (fun xs H Q=>∃(p:Addr) (ns:List Int),xs=[.ref p] ∧ Jp X.K H p (ns.map V.int) ∧ 0<ns.length ∧ ∀M,M∈ns → (∀a∈ns,M ≤ a) → Q (.int M) H):=by
 intro pins s σ H xs us Q I r h;obtain ⟨p,ns,rfl,hq,hne,q⟩:=h;obtain ⟨u,rfl,rx⟩:=Vals.one r;cases rx;obtain ⟨its,rv,pl,hz⟩:=I.list hq;have hi:IntsAre its ns:=Qj rv;obtain ⟨ys,hx⟩:=hi.allInts.items;have hl':s.heap.IsList p (intItems ys):=hx ▸ pl.isList;have e1:ns=ys.toList.map (·.1):=by rw [<-nums_intItems,<- hx];exact (show numsOf its.toArray.toList=ns from hi.numsOf).symm
 have hsz:0<ys.size:=by rw [e1] at hne;simpa using hne
 refine min_intList (I.ok.hd hc) hl' hsz fun v h' tk hv hk=>?_;obtain ⟨t,rfl⟩:=intItems_at hv;obtain ⟨h1,h2⟩:=argBest_lt (numAt ys) (ys.size-1);refine ⟨.int _,H,I.kept hk,⟨t,rfl⟩,q _ ?_ fun a ha=>?_⟩
 . rw [numAt_eq,e1];exact getD_mem (by rw [Yd,YL];omega)
 . rw [e1] at ha;obtain ⟨j,hj,rfl⟩:=mem_getD ha;rw [Yd,YL] at hj;rw [<-numAt_eq];exact h2 j (by omega)
end
end L2
namespace L2
open PySem PySem.Spec PyProof.Rows
section
variable {K:PySem.W.Frag} {g:TG} {tt:TT} {te:TE} {σ0:St} {H:Hp} {Q:VK}
end
section
variable {K:PySem.W.Frag} {g:TG} {tb:TS} {D:Ends} {σ:St} {H:Hp}
end
end L2
namespace L2
open PySem PySem.Spec PyProof.Rows
def ins (k:Int):List Int->List Int
 | []=>[k]
 | x::l=>if k<x then k::x::l else if k=x then x::l else x::ins k l
def srt (l:List Int):List Int:=l.foldr ins []
theorem mem_ins {k j:Int}:∀{l:List Int},j∈ins k l ↔ j=k\/j∈l
 | []=>by simp [ins]
 | x::l=>by
   unfold ins;split
   . simp
   . split
     . rename_i h;subst h;simp
     . rw [Yn,mem_ins (l:=l),Yn];constructor
       . rintro (h | h | h) <;> simp [h]
       . rintro (h | h | h) <;> simp [h]
theorem jcL {k:Int}:∀{l:List Int},l.Pairwise (· < ·)->(ins k l).Pairwise (· < ·)
 | [],_=>by simp [ins]
 | x::l,h=>by
   have h':=Yx.mp h;unfold ins;split
   . rename_i hk;exact Yx.mpr ⟨fun y hy=>by
       rcases Yn.mp hy with rfl | hy
       . exact hk
       . exact kH hk (h'.1 y hy),h⟩
   . split
     . exact h
     . rename_i h1 h2;refine Yx.mpr ⟨fun y hy=>?_,jcL h'.2⟩;rcases mem_ins.mp hy with rfl | hy
       . omega
       . exact h'.1 y hy
theorem jcg {j:Int}:∀{l:List Int},j∈srt l ↔ j∈l
 | []=>by simp [srt]
 | x::l=>by show j∈ins x (srt l) ↔ _;rw [mem_ins,jcg (l:=l),Yn]
theorem Zk:∀{l:List Int},(srt l).Pairwise (· < ·)
 | []=>by simp [srt]
 | x::l=>jcL (Zk (l:=l))
theorem jav:∀{l m:List Int},l.Pairwise (· < ·)->m.Pairwise (· < ·)->(∀k,k∈l ↔ k∈m)->l=m
 | [],[],_,_,_=>rfl
 | [],y::m,_,_,h=>absurd ((h y).mpr Ye) (by simp)
 | x::l,[],_,_,h=>absurd ((h x).mp Ye) (by simp)
 | x::l,y::m,h1,h2,h=>by
   have p1:=Yx.mp h1;have p2:=Yx.mp h2;have e:x=y:=by
     rcases Yn.mp ((h x).mp Ye) with z | z
     . exact z
     . rcases Yn.mp ((h y).mpr Ye) with z' | z'
       . exact z'.symm
       . have:=p2.1 x z;have:=p1.1 y z';omega
   subst e;rw [jav p1.2 p2.2 fun k=>⟨fun hk=>?_,fun hk=>?_⟩]
   . rcases Yn.mp ((h k).mp (Yg _ hk)) with z | z
     . have:=p1.1 k hk;omega
     . exact z
   . rcases Yn.mp ((h k).mpr (Yg _ hk)) with z | z
     . have:=p2.1 k hk;omega
     . exact z
structure Ship where
 b:Int
 e:Int
 n:Int
 m:Int
structure Ship.Ok (s:Ship):Prop where
 lt:s.b<s.e
 long:s.e-s.b<=300000000000000
 lo:-500000000000000<=s.b
 hi:s.b<=500000000000000
 m0:0<=s.m
 m1:s.m<=1000000000000000
 n0:0<=s.n
 n1:s.n<=s.m*(s.e-s.b)
def hrs (fl:List Ship):List Int:=fl.map (·.b)++fl.map (·.e)
def Jr (fl:List Ship):List Int:=srt (hrs fl)
def jt (fl:List Ship):List (Int×Int):=(Jr fl).zip (Jr fl).tail
section
variable {K:PySem.W.Frag} {H H':Hp}
def ShipV (K:PySem.W.Frag) (H:Hp) (v:V) (s:Ship):Prop:=∃a,v=.ref a/\SqT K H a [.int s.b,.int s.e,.int s.n,.int s.m]
def SpanV (K:PySem.W.Frag) (H:Hp) (v:V) (p:Int×Int):Prop:=∃a,v=.ref a/\SqT K H a [.int p.1,.int p.2]
def FleetAt (K:PySem.W.Frag) (H:Hp) (a:Addr) (fl:List Ship):Prop:=∃vs,Jp K H a vs/\Paired (ShipV K H) vs fl
def SpansAt (K:PySem.W.Frag) (H:Hp) (a:Addr) (sp:List (Int×Int)):Prop:=∃vs,Jp K H a vs/\Paired (SpanV K H) vs sp
theorem ShipV.same {v:V} {s:Ship} (h:ShipV K H v s) (e:Same H H'):ShipV K H' v s:=let ⟨a,h1,h2⟩:=h;⟨a,h1,e.seqT h2⟩
theorem SpanV.same {v:V} {p:Int×Int} (h:SpanV K H v p) (e:Same H H'):SpanV K H' v p:=let ⟨a,h1,h2⟩:=h;⟨a,h1,e.seqT h2⟩
theorem FleetAt.same {a:Addr} {fl:List Ship} (h:FleetAt K H a fl) (e:Same H H'):FleetAt K H' a fl:=let ⟨vs,h1,h2⟩:=h;⟨vs,e.seq h1,Paired.mapP h2 fun _ _ q=>q.same e⟩
theorem SpansAt.same {a:Addr} {sp:List (Int×Int)} (h:SpansAt K H a sp) (e:Same H H'):SpansAt K H' a sp:=let ⟨vs,h1,h2⟩:=h;⟨vs,e.seq h1,Paired.mapP h2 fun _ _ q=>q.same e⟩
theorem Paired.get {α β:Type} {F:α->β->Prop} {xs:List α} {ys:List β} {i:Nat} {x:α} (h:Paired F xs ys) (e:xs[i]?=some x):∃y,ys[i]?=some y/\F x y:=by
 induction h generalizing i with
 | nil=>rw [Kw] at e;cases e
 | cons r _ ih=>
   cases i with
   | zero=>cases e;exact ⟨_,rfl,r⟩
   | succ i=>exact ih (i:=i) e
theorem Paired.of {α β:Type} {F:α->β->Prop}:∀{xs:List α} {ys:List β},xs.length=ys.length->(∀(i:Nat) x y,xs[i]?=some x->ys[i]?=some y->F x y)->Paired F xs ys
 | [],[],_,_=>.nil
 | x::xs,y::ys,hl,h=>.cons (h 0 x y rfl rfl) (Paired.of (by simpa using hl) fun i a b e1 e2=>h (i+1) a b (by simpa using e1) (by simpa using e2))
 | [],y::ys,hl,_=>by simp at hl
 | x::xs,[],hl,_=>by simp at hl
end
end L2
namespace L2
open PySem PySem.Spec PyProof.Rows
set_option genInjectivity true in
inductive D where
 | int (i:Int) | bl (b:Bool) | non | str (x:Str) | lst (l:List D) | tup (l:List D)
 /-- the script -/
 | scr (ns:List Int)
 /-- a dict: its keys, whole numbers, and what stands at each -/
 | dic (ks:List Int) (ds:List D)
theorem bind_some {α β:Type} {o:Option α} {f:α->Option β} {b:β} (h:o.bind f=some b):∃a,o=some a/\f a=some b:=by
 cases o with
 | none=>cases h
 | some a=>exact ⟨a,rfl,h⟩
theorem map_some {α β:Type} {o:Option α} {f:α->β} {b:β} (h:o.map f=some b):∃a,o=some a/\f a=b:=by
 cases o with
 | none=>cases h
 | some a=>exact ⟨a,rfl,Option.some.inj h⟩
theorem jnx {α β:Type} {f:α->β} {l:List α} {i:Int}:L2.atI (l.map f) i=(L2.atI l i).map f:=by
 unfold L2.atI;rw [Yd];cases ixN l.length i with
 | none=>rfl
 | some j=>simp
instance (i j:Int):Decidable (CMul i j):=inferInstanceAs (Decidable (_\/_))
def CMulB (i j:Int):Prop:=CMul i j\/(i.natAbs<2 ^ 400/\j.natAbs<2 ^ 400)
instance (i j:Int):Decidable (CMulB i j):=inferInstanceAs (Decidable (_\/_))
theorem CMulB.ok {i j:Int} (h:CMulB i j):IntMulOk i j:=by
 rcases h with h | ⟨h1,h2⟩
 . exact h.ok
 . exact IntMulOk.of_bits (YW (intBits_le h1) (by decide)) (YW (intBits_le h2) (by decide))
theorem jng {X:Cx}:OpR X (binaryOp .Mult) (rI CMulB fun i j=>.int (i*j)):=opI fun _ _ _ _ _ _ _ hc q=>mul_int q hc.ok
class Fr where
 K:PySem.W.Frag
section
variable [Fr]
def Jj:D->Bool
 | .lst _=>false
 | .tup _=>false
 | .scr _=>false
 | .dic _ _=>false
 | _=>true
def qK (ks:List Int) (vs:List V):List (zw×V):=(ks.map Sum.inl).zip vs
mutual
/-- the value v stands for the data d in the heap G -/
inductive Rep (G:Hp):V->D->Prop where
 | int (i:Int):Rep G (.int i) (.int i)
 | bl (b:Bool):Rep G (.bl b) (.bl b)
 | non:Rep G .non .non
 | str (x:Str):Rep G (.str x) (.str x)
 | lst {a:Addr} {vs:List V} {ds:List D} (h:Rd G a (.lst vs)) (r:Reps G vs ds):Rep G (.ref a) (.lst ds)
 | tup {a:Addr} {vs:List V} {ds:List D} (h:G a=some (.tup vs)) (r:Reps G vs ds):Rep G (.ref a) (.tup ds)
 | scr {a:Addr} {ns:List Int} (h:Jp Fr.K G a (ns.map V.int)):Rep G (.ref a) (.scr ns)
 | dic {a:Addr} {o:Obj} {ks:List Int} {vs:List V} {ds:List D} (h:G a=some (.frz o (.dK (qK ks vs)))) (hl:ks.length=vs.length) (r:Reps G vs ds):Rep G (.ref a) (.dic ks ds)
inductive Reps (G:Hp):List V->List D->Prop where
 | nil:Reps G [] []
 | cons {v:V} {d:D} {vs:List V} {ds:List D}:Rep G v d->Reps G vs ds->Reps G (v::vs) (d::ds)
end
theorem Rd.same {G H:Hp} {a:Addr} {u:HO} (e:Same G H) (h:Rd G a u):Rd H a u:=by
 rcases h with h | ⟨o,h⟩
 . exact .inl (e _ _ h)
 . exact .inr ⟨o,e _ _ h⟩
theorem Rep.mono {G G':Hp} (e:Same G G') {v:V} {d:D} (h:Rep G v d):Rep G' v d:=Rep.rec (motive_1:=fun v d _=>Rep G' v d) (motive_2:=fun vs ds _=>Reps G' vs ds) .int .bl .non .str (fun h _ i=>.lst (h.same e) i) (fun h _ i=>.tup (e _ _ h) i) (fun h=>.scr (e.seq h)) (fun h hl _ i=>.dic (e _ _ h) hl i) .nil (fun _ _ i j=>.cons i j) h
theorem Reps.ind {G:Hp} {P:List V->List D->Prop} (h0:P [] []) (h1:∀{v:V} {d:D} {vs:List V} {ds:List D},Rep G v d->Reps G vs ds->P vs ds->P (v::vs) (d::ds)) {vs:List V} {ds:List D} (h:Reps G vs ds):P vs ds:=Reps.rec (motive_1:=fun _ _ _=>True) (motive_2:=fun vs ds _=>P vs ds) (fun _=>trivial) (fun _=>trivial) trivial (fun _=>trivial) (fun _ _ _=>trivial) (fun _ _ _=>trivial) (fun _=>trivial) (fun _ _ _ _=>trivial) h0 (fun r t _ i=>h1 r t i) h
theorem Reps.mono {G G':Hp} (e:Same G G') {vs:List V} {ds:List D} (h:Reps G vs ds):Reps G' vs ds:=h.ind (P:=fun vs ds=>Reps G' vs ds) .nil fun r _ i=>.cons (r.mono e) i
theorem Rep.flat {G G':Hp} {v:V} {d:D} (h:Rep G v d) (f:Jj d=true):Rep G' v d:=by
 cases h with
 | int i=>exact .int i
 | bl i=>exact .bl i
 | non=>exact .non
 | str i=>exact .str i
 | lst h r=>cases f
 | tup h r=>cases f
 | scr h=>cases f
 | dic h hl r=>cases f
section
variable {G G':Hp} {vs us:List V} {ds es:List D} {v:V} {d:D}
theorem Reps.length {vs:List V} {ds:List D} (h:Reps G vs ds):vs.length=ds.length:=h.ind (P:=fun vs ds=>vs.length=ds.length) rfl fun _ _ i=>congrArg (· + 1) i
theorem Reps.get {vs:List V} {ds:List D} {i:Nat} {d:D} (h:Reps G vs ds):ds[i]?=some d->∃v,vs[i]?=some v/\Rep G v d:=
 h.ind (P:=fun vs ds=>∀i d,ds[i]?=some d->∃v,vs[i]?=some v/\Rep G v d) (fun _ _ e=>by rw [Kw] at e;cases e) (fun r _ ih i _ e=>by
  cases i with
  | zero=>cases e;exact ⟨_,rfl,r⟩
  | succ i=>exact ih i _ e) i d
theorem Reps.getV {vs:List V} {ds:List D} {i:Nat} {v:V} (h:Reps G vs ds):vs[i]?=some v->∃d,ds[i]?=some d/\Rep G v d:=
 h.ind (P:=fun vs ds=>∀i v,vs[i]?=some v->∃d,ds[i]?=some d/\Rep G v d) (fun _ _ e=>by rw [Kw] at e;cases e) (fun r _ ih i _ e=>by
  cases i with
  | zero=>cases e;exact ⟨_,rfl,r⟩
  | succ i=>exact ih i _ e) i v
theorem Reps.append {vs us:List V} {ds es:List D} (h:Reps G vs ds) (s:Reps G us es):Reps G (vs++us) (ds++es):=h.ind (P:=fun vs ds=>Reps G (vs++us) (ds++es)) s fun r _ i=>.cons r i
theorem Reps.snoc (r:Reps G vs ds) (q:Rep G v d):Reps G (vs++[v]) (ds++[d]):=r.append (.cons q .nil)
theorem Reps.set (q:Rep G v d) {vs:List V} {ds:List D} (i:Nat) (h:Reps G vs ds):Reps G (vs.set i v) (ds.set i d):=
 h.ind (P:=fun vs ds=>∀i,Reps G (vs.set i v) (ds.set i d)) (fun _=>.nil) (fun r t ih i=>by
  cases i with
  | zero=>exact .cons q t
  | succ i=>exact .cons r (ih i)) i
theorem Reps.take {vs:List V} {ds:List D} (n:Nat) (h:Reps G vs ds):Reps G (vs.take n) (ds.take n):=
 h.ind (P:=fun vs ds=>∀n,Reps G (vs.take n) (ds.take n)) (fun n=>by cases n <;> exact .nil) (fun r t ih n=>by
  cases n with
  | zero=>exact .nil
  | succ n=>exact .cons r (ih n)) n
theorem Reps.drop {vs:List V} {ds:List D} (n:Nat) (h:Reps G vs ds):Reps G (vs.drop n) (ds.drop n):=
 h.ind (P:=fun vs ds=>∀n,Reps G (vs.drop n) (ds.drop n)) (fun n=>by cases n <;> exact .nil) (fun r t ih n=>by
  cases n with
  | zero=>exact .cons r t
  | succ n=>exact ih n) n
theorem Reps.reverse (h:Reps G vs ds):Reps G vs.reverse ds.reverse:=h.ind (P:=fun vs ds=>Reps G vs.reverse ds.reverse) .nil fun r _ i=>by rw [List.reverse_cons,List.reverse_cons];exact i.snoc r
theorem Reps.one_inv {vs:List V} {d:D} {ds:List D} (h:Reps G vs (d::ds)):∃v us,vs=v::us/\Rep G v d/\Reps G us ds:=by cases h with | cons r t=>exact ⟨_,_,rfl,r,t⟩
theorem Reps.ints {ns:List Int} {vs:List V} (h:Reps G vs (ns.map D.int)):vs=ns.map V.int:=by
 induction ns generalizing vs with
 | nil=>cases h;rfl
 | cons n ns ih=>obtain ⟨v,us,rfl,r,t⟩:=h.one_inv;cases r;rw [ih t];rfl
theorem Reps.of_ints:∀(ns:List Int),Reps G (ns.map V.int) (ns.map D.int)
 | []=>.nil
 | n::ns=>.cons (.int n) (Reps.of_ints ns)
theorem Reps.bls {ns:List Bool} {vs:List V} (h:Reps G vs (ns.map D.bl)):vs=ns.map V.bl:=by
 induction ns generalizing vs with
 | nil=>cases h;rfl
 | cons n ns ih=>obtain ⟨v,us,rfl,r,t⟩:=h.one_inv;cases r;rw [ih t];rfl
end
inductive RepT (G H:Hp):V->D->Prop where
 | int (i:Int):RepT G H (.int i) (.int i)
 | bl (b:Bool):RepT G H (.bl b) (.bl b)
 | non:RepT G H .non .non
 | str (x:Str):RepT G H (.str x) (.str x)
 | lst {a:Addr} {vs:List V} {ds:List D} (h:Rd H a (.lst vs)) (r:Reps G vs ds):RepT G H (.ref a) (.lst ds)
 | tup {a:Addr} {vs:List V} {ds:List D} (h:H a=some (.tup vs)) (r:Reps G vs ds):RepT G H (.ref a) (.tup ds)
 | scr {a:Addr} {ns:List Int} (h:Jp Fr.K H a (ns.map V.int)):RepT G H (.ref a) (.scr ns)
 | dic {a:Addr} {ks:List Int} {vs:List V} {ds:List D} (h:Rd H a (.dK (qK ks vs))) (hl:ks.length=vs.length) (r:Reps G vs ds):RepT G H (.ref a) (.dic ks ds)
inductive RepTs (G H:Hp):List V->List D->Prop where
 | nil:RepTs G H [] []
 | cons {v:V} {d:D} {vs:List V} {ds:List D}:RepT G H v d->RepTs G H vs ds->RepTs G H (v::vs) (d::ds)
theorem Rep.top {G H:Hp} {v:V} {d:D} (h:Rep G v d) (e:Same G H):RepT G H v d:=by
 cases h with
 | int i=>exact .int i
 | bl i=>exact .bl i
 | non=>exact .non
 | str i=>exact .str i
 | lst h r=>exact .lst (h.same e) r
 | tup h r=>exact .tup (e _ _ h) r
 | scr h=>exact .scr (e.seq h)
 | dic h hl r=>exact .dic (.inr ⟨_,e _ _ h⟩) hl r
theorem RepT.of_int {G H:Hp} {v:V} {i:Int} (h:RepT G H v (.int i)):v=.int i:=by cases h;rfl
theorem RepT.of_bl {G H:Hp} {v:V} {i:Bool} (h:RepT G H v (.bl i)):v=.bl i:=by cases h;rfl
theorem RepT.of_non {G H:Hp} {v:V} (h:RepT G H v .non):v=.non:=by cases h;rfl
theorem RepT.of_str {G H:Hp} {v:V} {i:Str} (h:RepT G H v (.str i)):v=.str i:=by cases h;rfl
theorem RepT.of_lst {G H:Hp} {v:V} {ds:List D} (h:RepT G H v (.lst ds)):∃a vs,v=.ref a/\Rd H a (.lst vs)/\Reps G vs ds:=by cases h;exact ⟨_,_,rfl,by assumption,by assumption⟩
theorem RepT.of_tup {G H:Hp} {v:V} {ds:List D} (h:RepT G H v (.tup ds)):∃a vs,v=.ref a/\H a=some (.tup vs)/\Reps G vs ds:=by cases h;exact ⟨_,_,rfl,by assumption,by assumption⟩
theorem RepT.of_scr {G H:Hp} {v:V} {ns:List Int} (h:RepT G H v (.scr ns)):∃a,v=.ref a/\Jp Fr.K H a (ns.map V.int):=by cases h;exact ⟨_,rfl,by assumption⟩
theorem RepT.of_dic {G H:Hp} {v:V} {ks:List Int} {ds:List D} (h:RepT G H v (.dic ks ds)):∃a vs,v=.ref a/\Rd H a (.dK (qK ks vs))/\ks.length=vs.length/\Reps G vs ds:=by cases h;exact ⟨_,_,rfl,by assumption,by assumption,by assumption⟩
theorem Rep.tt {G:Hp} {v:V} {d:D} (h:Rep G v d):RepT G G v d:=h.top fun _ _ e=>e
theorem Rep.of_int {G:Hp} {v:V} {i:Int} (h:Rep G v (.int i)):v=.int i:=h.tt.of_int
theorem Rep.of_bl {G:Hp} {v:V} {i:Bool} (h:Rep G v (.bl i)):v=.bl i:=h.tt.of_bl
theorem Rep.of_lst {G:Hp} {v:V} {ds:List D} (h:Rep G v (.lst ds)):∃a vs,v=.ref a/\Rd G a (.lst vs)/\Reps G vs ds:=h.tt.of_lst
theorem Rep.of_tup {G:Hp} {v:V} {ds:List D} (h:Rep G v (.tup ds)):∃a vs,v=.ref a/\G a=some (.tup vs)/\Reps G vs ds:=h.tt.of_tup
theorem RepT.mono {G H G' H':Hp} {v:V} {d:D} (h:RepT G H v d) (e:Same G G') (e':Same H H'):RepT G' H' v d:=by
 cases h with
 | int i=>exact .int i
 | bl i=>exact .bl i
 | non=>exact .non
 | str i=>exact .str i
 | lst h r=>exact .lst (h.same e') (r.mono e)
 | tup h r=>exact .tup (e' _ _ h) (r.mono e)
 | scr h=>exact .scr (e'.seq h)
 | dic h hl r=>exact .dic (h.same e') hl (r.mono e)
theorem RepTs.mono {G H G' H':Hp} (e:Same G G') (e':Same H H') {vs:List V} {ds:List D} (h:RepTs G H vs ds):RepTs G' H' vs ds:=by
 induction h with
 | nil=>exact .nil
 | cons r _ ih=>exact .cons (r.mono e e') ih
structure Ext (G H G' H':Hp):Prop where
 hh:Same H H'
 gg:Same G G'
 gh:Same G' H'
 nw:∀a o,G' a=some o->G a=some o\/H a=none
section
variable {G H G' H' G'' H'':Hp} {a:Addr} {o:HO}
theorem Ext.refl (h:Same G H):Ext G H G H:=⟨.refl _,.refl _,h,fun _ _ e=>.inl e⟩
theorem Ext.trans (x:Ext G H G' H') (y:Ext G' H' G'' H''):Ext G H G'' H'':=
 ⟨x.hh.trans y.hh,x.gg.trans y.gg,y.gh,fun a o e=>by
  rcases y.nw a o e with z | z
  . exact x.nw a o z
  . exact .inr (x.hh.free z)⟩
theorem Ext.new (h:Same G H) (hn:H a=none):Ext G H G (upd H a o):=⟨.upd hn,.refl _,fun b u e=>by rw [jC (jH (h b u e) hn)];exact h b u e,fun _ _ e=>.inl e⟩
theorem Ext.freeze (x:Ext G H G' H') (hn:H a=none) (hg:G' a=none) (ho:H' a=some o):Ext G H (upd G' a o) H':=
 ⟨x.hh,x.gg.trans (.upd hg),fun b u e=>by
  by_cases hb:b=a
  . subst hb;rw [jB] at e;cases e;exact ho
  . rw [jC hb] at e;exact x.gh b u e,fun b u e=>by
  by_cases hb:b=a
  . subst hb;exact .inr hn
  . rw [jC hb] at e;exact x.nw b u e⟩
theorem Ext.gone (x:Ext G H G' H') (hg:G a=none) (hh:H a=some o):G' a=none:=by
 cases e:G' a with
 | none=>rfl
 | some u=>
   rcases x.nw a u e with z | z
   . rw [hg] at z;cases z
   . rw [hh] at z;cases z
end
inductive Slot where
 | un | sh (d:D) | ow (ds:List D)
 /-- a dict of one's own -/
 | od (ks:List Int) (ds:List D)
 /-- a list of one's own, of lists of one's own -/
 | oo (dss:List (List D))
abbrev Env:=List Slot
inductive Rows (G H:Hp):List Addr->List (List D)->Prop where
 | nil:Rows G H [] []
 | cons {b:Addr} {us:List V} {ds:List D} {bs:List Addr} {dss:List (List D)} (h:H b=some (.lst us)) (r:Reps G us ds) (t:Rows G H bs dss):Rows G H (b::bs) (ds::dss)
def QI (H:Hp):Option V->Slot->Addr->Prop
 | some (.ref a),.ow _,b=>b=a
 | some (.ref a),.od _ _,b=>b=a
 | some (.ref a),.oo _,b=>b=a\/∃vs,H a=some (.lst vs)/\V.ref b∈vs
 | _,_,_=>False
inductive SlotOk (H0 G H:Hp):Option V->Slot->Prop where
 | un (o:Option V):SlotOk H0 G H o .un
 | sh {v:V} {d:D} (r:Rep G v d):SlotOk H0 G H (some v) (.sh d)
 | ow {a:Addr} {vs:List V} {ds:List D} (h0:H0 a=none) (hg:G a=none) (h:H a=some (.lst vs)) (r:Reps G vs ds):SlotOk H0 G H (some (.ref a)) (.ow ds)
 | od {a:Addr} {ks:List Int} {vs:List V} {ds:List D} (h0:H0 a=none) (hg:G a=none) (h:H a=some (.dK (qK ks vs))) (hl:ks.length=vs.length) (r:Reps G vs ds):SlotOk H0 G H (some (.ref a)) (.od ks ds)
 | oo {a:Addr} {bs:List Addr} {dss:List (List D)} (h:H a=some (.lst (bs.map V.ref))) (nd:(a::bs).Nodup) (own:∀b∈a::bs,H0 b=none/\G b=none) (rows:Rows G H bs dss):SlotOk H0 G H (some (.ref a)) (.oo dss)
structure EnvOk (G0 H0 G H:Hp) (σ:St) (ρ:L2.Env):Prop where
 ext:Ext G0 H0 G H
 len:σ.length=ρ.length
 slot:∀(i:Nat) o s,σ[i]?=some o->ρ[i]?=some s->SlotOk H0 G H o s
 dist:∀(i j:Nat) o o' s s' b,σ[i]?=some o->ρ[i]?=some s->σ[j]?=some o'->ρ[j]?=some s'->QI H o s b->QI H o' s' b->i=j
section
variable {G0 H0 G H G' H':Hp} {σ:St} {ρ:L2.Env} {i:Nat} {d:D} {ds:List D} {v:V} {vs:List V} {a:Addr}
theorem Rows.there {bs:List Addr} {dss:List (List D)} (h:Rows G H bs dss):∀b∈bs,∃us,H b=some (.lst us):=by
 induction h with
 | nil=>intro b hb;cases hb
 | cons h r t ih=>
   intro b hb;rcases Yn.mp hb with rfl | hb
   . exact ⟨_,h⟩
   . exact ih b hb
theorem Rows.keep {bs:List Addr} {dss:List (List D)} (h:Rows G H bs dss) (gg:Same G G') (k:∀b∈bs,H' b=H b):Rows G' H' bs dss:=by
 induction h with
 | nil=>exact .nil
 | cons h r t ih=>exact .cons (by rw [k _ Ye];exact h) (r.mono gg) (ih fun b hb=>k b (Yg _ hb))
theorem Rows.length {bs:List Addr} {dss:List (List D)} (h:Rows G H bs dss):bs.length=dss.length:=by
 induction h with
 | nil=>rfl
 | cons h r t ih=>simp [ih]
theorem Rows.get {bs:List Addr} {dss:List (List D)} (h:Rows G H bs dss):∀{j:Nat} {ds:List D},dss[j]?=some ds->∃b us,bs[j]?=some b/\H b=some (.lst us)/\Reps G us ds:=by
 induction h with
 | nil=>intro j ds e;simp at e
 | cons h r t ih=>
   intro j ds e;cases j with
   | zero=>simp at e;subst e;exact ⟨_,_,rfl,h,r⟩
   | succ j=>obtain ⟨b,us,h1,h2,h3⟩:=ih (j:=j) (ds:=ds) (by simpa using e);exact ⟨b,us,by simpa using h1,h2,h3⟩
theorem Rows.put {bs:List Addr} {dss:List (List D)} {us:List V} (h:Rows G H bs dss) (r:Reps G us ds):∀{j:Nat} {b:Addr},bs.Nodup->bs[j]?=some b->Rows G (upd H b (.lst us)) bs (dss.set j ds):=by
 induction h with
 | nil=>intro j b _ e;simp at e
 | @cons c us' ds' bs dss h q t ih=>
   intro j b nd e;have nd':=yc.mp nd;cases j with
   | zero=>simp at e;subst e;exact .cons jB r (t.keep (.refl _) fun b' hb'=>jC fun z=>nd'.1 (z ▸ hb'))
   | succ j=>
     have e':bs[j]?=some b:=by simpa using e
     have hb:c≠b:=fun z=>nd'.1 (z ▸ YB e');exact .cons (by rw [jC hb];exact h) q (ih nd'.2 e')
theorem Rows.frozen {bs:List Addr} {dss:List (List D)} (h:Rows G H bs dss) (gg:Same G G') (k:∀b∈bs,G' b=H b):Reps G' (bs.map V.ref) (dss.map D.lst):=by
 induction h with
 | nil=>exact .nil
 | cons h r t ih=>exact .cons (.lst (.inl ((k _ Ye).trans h)) (r.mono gg)) (ih fun b hb=>k b (Yg _ hb))
theorem EnvOk.same (e:EnvOk G0 H0 G H σ ρ):Same G H:=e.ext.gh
theorem SlotOk.foot {o:Option V} {s:Slot} {b:Addr} (h:SlotOk H0 G H o s) (f:QI H o s b):H0 b=none/\G b=none/\∃u,H b=some u:=by
 cases h with
 | un=>cases o with | none=>exact f.elim | some v=>cases v <;> exact f.elim
 | @sh v d r=>cases v <;> exact f.elim
 | ow h0 hg h r=>cases (show b=_ from f);exact ⟨h0,hg,_,h⟩
 | od h0 hg h hl r=>cases (show b=_ from f);exact ⟨h0,hg,_,h⟩
 | @oo a bs dss h nd own rows=>
   have f':b=a\/∃vs,H a=some (.lst vs)/\V.ref b∈vs:=f;rcases f' with rfl | ⟨vs,q,hb⟩
   . exact ⟨(own b Ye).1,(own b Ye).2,_,h⟩
   . rw [h] at q;cases q;obtain ⟨c,hc,e⟩:=Y3.mp hb;injection e with e;subst e;obtain ⟨us,hu⟩:=rows.there c hc;exact ⟨(own c (Yg _ hc)).1,(own c (Yg _ hc)).2,_,hu⟩
theorem J2 {bs:List Addr} {dss:List (List D)} {b:Addr} (h:H a=some (.lst (bs.map V.ref))):QI H (some (.ref a)) (.oo dss) b ↔ b∈a::bs:=by
 show (b=a\/∃vs,H a=some (.lst vs)/\V.ref b∈vs) ↔ _;rw [Yn];constructor
 . rintro (z | ⟨vs,q,hb⟩)
   . exact .inl z
   . rw [h] at q;cases q;obtain ⟨c,hc,e⟩:=Y3.mp hb;injection e with e;subst e;exact .inr hc
 . rintro (z | z)
   . exact .inl z
   . exact .inr ⟨_,h,KI z⟩
theorem SlotOk.keep {o:Option V} {s:Slot} (h:SlotOk H0 G H o s) (gg:Same G G') (k:∀b,QI H o s b->H' b=H b/\G' b=none):SlotOk H0 G' H' o s/\∀b,QI H' o s b->QI H o s b:=by
 cases h with
 | un=>exact ⟨.un _,fun b f=>by cases o with | none=>exact f.elim | some v=>cases v <;> exact f.elim⟩
 | @sh v d r=>exact ⟨.sh (r.mono gg),fun b f=>by cases v <;> exact f.elim⟩
 | @ow a vs ds h0 hg h r=>have q:=k a rfl;exact ⟨.ow h0 q.2 (by rw [q.1];exact h) (r.mono gg),fun b f=>f⟩
 | @od a ks vs ds h0 hg h hl r=>have q:=k a rfl;exact ⟨.od h0 q.2 (by rw [q.1];exact h) hl (r.mono gg),fun b f=>f⟩
 | @oo a bs dss h nd own rows=>
   have h':H' a=some (.lst (bs.map V.ref)):=by rw [(k a (.inl rfl)).1];exact h
   refine ⟨.oo h' nd (fun b hb=>⟨(own b hb).1,(k b ((J2 h).mpr hb)).2⟩) (rows.keep gg fun b hb=>(k b ((J2 h).mpr (Yg _ hb))).1),fun b f=>?_⟩;exact (J2 h).mpr ((J2 h').mp f)
theorem EnvOk.grow (e:EnvOk G0 H0 G H σ ρ) (x:Ext G H G' H'):EnvOk G0 H0 G' H' σ ρ:=by
 have key:∀(i:Nat) o s,σ[i]?=some o->ρ[i]?=some s->_:=fun i o s h1 h2=>(e.slot i o s h1 h2).keep (H':=H') x.gg fun b f=>by obtain ⟨_,g,u,hu⟩:=(e.slot i o s h1 h2).foot f;exact ⟨by rw [hu];exact x.hh _ _ hu,x.gone g hu⟩
 exact ⟨e.ext.trans x,e.len,fun i o s h1 h2=>(key i o s h1 h2).1,fun i j o o' s s' b h1 h2 h3 h4 f f'=>e.dist i j o o' s s' b h1 h2 h3 h4 ((key i o s h1 h2).2 b f) ((key j o' s' h3 h4).2 b f')⟩
theorem EnvOk.at {s:Slot} (e:EnvOk G0 H0 G H σ ρ) (h:ρ[i]?=some s):∃o,σ[i]?=some o/\SlotOk H0 G H o s:=by
 have hi:i<σ.length:=by rw [e.len];exact (Ym.mp h).1
 exact ⟨σ[i],Ya hi,e.slot i _ _ (Ya hi) h⟩
theorem EnvOk.sh (e:EnvOk G0 H0 G H σ ρ) (h:ρ[i]?=some (.sh d)):∃v,σ[i]?=some (some v)/\Rep G v d:=by
 obtain ⟨o,h1,h2⟩:=e.at h;cases h2 with
 | sh r=>exact ⟨_,h1,r⟩
theorem EnvOk.ow (e:EnvOk G0 H0 G H σ ρ) (h:ρ[i]?=some (.ow ds)):∃a vs,σ[i]?=some (some (.ref a))/\H0 a=none/\G a=none/\H a=some (.lst vs)/\Reps G vs ds:=by
 obtain ⟨o,h1,h2⟩:=e.at h;cases h2 with
 | ow h0 hg h r=>exact ⟨_,_,h1,h0,hg,h,r⟩
theorem EnvOk.od {ks:List Int} (e:EnvOk G0 H0 G H σ ρ) (h:ρ[i]?=some (.od ks ds)):∃a vs,σ[i]?=some (some (.ref a))/\H0 a=none/\G a=none/\H a=some (.dK (qK ks vs))/\ks.length=vs.length/\Reps G vs ds:=by
 obtain ⟨o,h1,h2⟩:=e.at h;cases h2 with
 | od h0 hg h hl r=>exact ⟨_,_,h1,h0,hg,h,hl,r⟩
theorem EnvOk.oo {dss:List (List D)} (e:EnvOk G0 H0 G H σ ρ) (h:ρ[i]?=some (.oo dss)):∃a bs,σ[i]?=some (some (.ref a))/\H a=some (.lst (bs.map V.ref))/\(a::bs).Nodup/\(∀b∈a::bs,H0 b=none/\G b=none)/\Rows G H bs dss:=by
 obtain ⟨o,h1,h2⟩:=e.at h;cases h2 with
 | oo h nd own rows=>exact ⟨_,_,h1,h,nd,own,rows⟩
theorem EnvOk.change {o':Option V} {s':Slot} (e:EnvOk G0 H0 G H σ ρ) (x:Ext G0 H0 G' H') (gg:Same G G')
 (keep:∀j,j≠i->∀o s,σ[j]?=some o->ρ[j]?=some s->∀b,QI H o s b->H' b=H b/\G' b=none) (new:SlotOk H0 G' H' o' s')
 (foot:∀b,QI H' o' s' b->H b=none\/∃o s,σ[i]?=some o/\ρ[i]?=some s/\QI H o s b):EnvOk G0 H0 G' H' (σ.set i o') (ρ.set i s'):=by
 have key:∀(j:Nat) o s,j≠i->σ[j]?=some o->ρ[j]?=some s->_:=fun j o s hj h1 h2=>(e.slot j o s h1 h2).keep (H':=H') gg (keep j hj o s h1 h2);have at_i:∀o s,(σ.set i o')[i]?=some o->(ρ.set i s')[i]?=some s->o=o'/\s=s':=fun o s h1 h2=>by rw [List.getElem?_set] at h1 h2;simp at h1 h2;exact ⟨h1.2.symm,h2.2.symm⟩
 refine ⟨x,by simp [e.len],fun j o s h1 h2=>?_,fun j k o p s t b h1 h2 h3 h4 f g=>?_⟩
 . by_cases hj:i=j
   . subst hj;obtain ⟨rfl,rfl⟩:=at_i o s h1 h2;exact new
   . rw [YS hj] at h1 h2;exact (key j o s (Ne.symm hj) h1 h2).1
 . have other:∀(m:Nat) q u,i≠m->(σ.set i o')[m]?=some q->(ρ.set i s')[m]?=some u->QI H' q u b->QI H' o' s' b->False:=fun m q u hm g1 g2 f1 f2=>by
    rw [YS hm] at g1 g2;have f1':=(key m q u (Ne.symm hm) g1 g2).2 b f1;obtain ⟨_,_,w,hw⟩:=(e.slot m q u g1 g2).foot f1';rcases foot b f2 with z | ⟨o2,s2,z1,z2,z3⟩
    . rw [hw] at z;cases z
    . exact hm (e.dist i m _ _ _ _ b z1 z2 g1 g2 z3 f1')
   by_cases hj:i=j
   . by_cases hk:i=k
     . exact hj.symm.trans hk
     . subst hj;obtain ⟨rfl,rfl⟩:=at_i o s h1 h2;exact (other k p t hk h3 h4 g f).elim
   . by_cases hk:i=k
     . subst hk;obtain ⟨rfl,rfl⟩:=at_i p t h3 h4;exact (other j o s hj h1 h2 f g).elim
     . rw [YS hj] at h1 h2;rw [YS hk] at h3 h4;exact e.dist j k o p s t b h1 h2 h3 h4 ((key j o s (Ne.symm hj) h1 h2).2 b f) ((key k p t (Ne.symm hk) h3 h4).2 b g)
theorem EnvOk.stay (e:EnvOk G0 H0 G H σ ρ):∀j,j≠i->∀o s,σ[j]?=some o->ρ[j]?=some s->∀b,QI H o s b->H b=H b/\G b=none:=fun j _ o s h1 h2 b f=>⟨rfl,((e.slot j o s h1 h2).foot f).2.1⟩
theorem EnvOk.set (e:EnvOk G0 H0 G H σ ρ) (r:Rep G v d):EnvOk G0 H0 G H (σ.set i (some v)) (ρ.set i (.sh d)):=e.change e.ext (.refl _) e.stay (.sh r) fun b f=>by cases v <;> exact f.elim
theorem EnvOk.fresh (e:EnvOk G0 H0 G H σ ρ) (x:Ext G H G' H') {o':Option V} {s':Slot} (new:SlotOk H0 G' H' o' s') (foot:∀b,QI H' o' s' b->H b=none):EnvOk G0 H0 G' H' (σ.set i o') (ρ.set i s'):=
 e.change (e.ext.trans x) x.gg (fun j _ o s h1 h2 b f=>by obtain ⟨_,g,u,hu⟩:=(e.slot j o s h1 h2).foot f;exact ⟨by rw [hu];exact x.hh _ _ hu,x.gone g hu⟩) new fun b f=>.inl (foot b f)
theorem EnvOk.setO (e:EnvOk G0 H0 G H σ ρ) (x:Ext G H G' H') (hn:H a=none) (hg:G' a=none) (h:H' a=some (.lst vs)) (r:Reps G' vs ds):EnvOk G0 H0 G' H' (σ.set i (some (.ref a))) (ρ.set i (.ow ds)):=e.fresh x (.ow (e.ext.hh.free hn) hg h r) fun b f=>by cases (show b=a from f);exact hn
theorem EnvOk.setD {ks:List Int} (e:EnvOk G0 H0 G H σ ρ) (x:Ext G H G' H') (hn:H a=none) (hg:G' a=none) (h:H' a=some (.dK (qK ks vs))) (hl:ks.length=vs.length) (r:Reps G' vs ds):EnvOk G0 H0 G' H' (σ.set i (some (.ref a))) (ρ.set i (.od ks ds)):=e.fresh x (.od (e.ext.hh.free hn) hg h hl r) fun b f=>by cases (show b=a from f);exact hn
theorem EnvOk.setOO {bs:List Addr} {dss:List (List D)} (e:EnvOk G0 H0 G H σ ρ) (x:Ext G H G' H') (hn:∀b∈a::bs,H b=none/\G' b=none) (nd:(a::bs).Nodup) (h:H' a=some (.lst (bs.map V.ref))) (r:Rows G' H' bs dss):EnvOk G0 H0 G' H' (σ.set i (some (.ref a))) (ρ.set i (.oo dss)):=e.fresh x (.oo h nd (fun b hb=>⟨e.ext.hh.free (hn b hb).1,(hn b hb).2⟩) r) fun b f=>(hn b ((J2 h).mp f)).1
theorem EnvOk.write {u:HO} {o:Option V} {s s':Slot} (e:EnvOk G0 H0 G H σ ρ) (h1:ρ[i]?=some s) (h2:σ[i]?=some o) (f:QI H o s a) (new:SlotOk H0 G (upd H a u) o s') (foot:∀b,QI (upd H a u) o s' b->QI H o s b):EnvOk G0 H0 G (upd H a u) σ (ρ.set i s'):=by
 obtain ⟨q1,q2,_⟩:=(e.slot i o s h2 h1).foot f;have hi:i<σ.length:=(Ym.mp h2).1;have key:=e.change (i:=i) (o':=o) (s':=s') (G':=G) (H':=upd H a u) ⟨fun b o z=>by rw [jC (jH z q1)];exact e.ext.hh b o z,e.ext.gg,fun b o z=>by rw [jC (jH z q2)];exact e.ext.gh b o z,e.ext.nw⟩ (.refl _)
  (fun j hj o' s' g1 g2 b f'=>by
   have hb:b≠a:=fun z=>by subst z;exact hj (e.dist j i _ _ _ _ b g1 g2 h2 h1 f' f)
   exact ⟨jC hb,((e.slot j o' s' g1 g2).foot f').2.1⟩) new fun b f'=>.inr ⟨o,s,h2,h1,foot b f'⟩
 have e':σ.set i o=σ:=by
  refine yU fun j=>?_;by_cases hj:i=j
  . subst hj;rw [Y6 hi,h2]
  . rw [YS hj]
 rw [e'] at key;exact key
theorem EnvOk.put (e:EnvOk G0 H0 G H σ ρ) (h1:ρ[i]?=some (.ow ds)) (h2:σ[i]?=some (some (.ref a))) {es:List D} (r:Reps G vs es):EnvOk G0 H0 G (upd H a (.lst vs)) σ (ρ.set i (.ow es)):=by obtain ⟨b,us,q1,q2,q3,q4,q5⟩:=e.ow h1;rw [h2] at q1;cases q1;exact e.write h1 h2 rfl (.ow q2 q3 jB r) fun b f=>f
theorem EnvOk.putD {ks ls:List Int} (e:EnvOk G0 H0 G H σ ρ) (h1:ρ[i]?=some (.od ks ds)) (h2:σ[i]?=some (some (.ref a))) {es:List D} (hl:ls.length=vs.length) (r:Reps G vs es):EnvOk G0 H0 G (upd H a (.dK (qK ls vs))) σ (ρ.set i (.od ls es)):=by obtain ⟨b,us,q1,q2,q3,q4,_,q5⟩:=e.od h1;rw [h2] at q1;cases q1;exact e.write h1 h2 rfl (.od q2 q3 jB hl r) fun b f=>f
theorem EnvOk.putOO {dss:List (List D)} {bs:List Addr} {j:Nat} {b:Addr} (e:EnvOk G0 H0 G H σ ρ) (h1:ρ[i]?=some (.oo dss)) (h2:σ[i]?=some (some (.ref a))) (h3:H a=some (.lst (bs.map V.ref))) (hb:bs[j]?=some b) (r:Reps G vs ds):EnvOk G0 H0 G (upd H b (.lst vs)) σ (ρ.set i (.oo (dss.set j ds))):=by
 obtain ⟨a',bs',q1,q2,q3,q4,q5⟩:=e.oo h1;rw [h2] at q1;cases q1;rw [h3] at q2;have ebs:bs'=bs:=by have:=HO.lst.inj (Option.some.inj q2);exact ((List.map_inj_right (f:=V.ref) fun x y z=>V.ref.inj z).mp this).symm
 subst ebs;have nd':=yc.mp q3;have hm:=YB hb;have hab:a≠b:=fun z=>nd'.1 (z ▸ hm);have h3':upd H b (.lst vs) a=some (.lst (bs'.map V.ref)):=by rw [jC hab];exact h3
 exact e.write h1 h2 ((J2 h3).mpr (Yg _ hm)) (.oo h3' q3 q4 (q5.put r nd'.2 hb)) fun c f=>(J2 h3).mpr ((J2 h3').mp f)
def frz (i:Nat) (ρ:L2.Env):L2.Env:=match ρ[i]? with
 | some (.ow ds)=>ρ.set i (.sh (.lst ds))
 | some (.oo dss)=>ρ.set i (.sh (.lst (dss.map .lst)))
 | _=>ρ
theorem EnvOk.let {o:Option V} {s s':Slot} (e:EnvOk G0 H0 G H σ ρ) (h1:ρ[i]?=some s) (h2:σ[i]?=some o) (gg:Same G G') (gh:Same G' H) (nw:∀b u,G' b=some u->G b=some u\/QI H o s b)
 (new:SlotOk H0 G' H o s') (foot:∀b,QI H o s' b->QI H o s b):EnvOk G0 H0 G' H σ (ρ.set i s'):=by
 have hi:i<σ.length:=(Ym.mp h2).1;have key:=e.change (i:=i) (o':=o) (s':=s') (G':=G') (H':=H) ⟨e.ext.hh,e.ext.gg.trans gg,gh,fun b u z=>by
  rcases nw b u z with w | w
  . exact e.ext.nw b u w
  . exact .inr ((e.slot i o s h2 h1).foot w).1⟩ gg
  (fun j hj o' s' g1 g2 b f'=>⟨rfl,by
   obtain ⟨_,g,_⟩:=(e.slot j o' s' g1 g2).foot f';cases q:G' b with
   | none=>rfl
   | some u=>
     rcases nw b u q with w | w
     . rw [g] at w;cases w
     . exact (hj (e.dist j i _ _ _ _ b g1 g2 h2 h1 f' w)).elim⟩) new fun b f'=>.inr ⟨o,s,h2,h1,foot b f'⟩
 have e':σ.set i o=σ:=by
  refine yU fun j=>?_;by_cases hj:i=j
  . subst hj;rw [Y6 hi,h2]
  . rw [YS hj]
 rw [e'] at key;exact key
theorem jpX {u w:HO} {b:Addr} (h:upd G a u b=some w):G b=some w\/b=a:=by
 by_cases hb:b=a
 . exact .inr hb
 . rw [jC hb] at h;exact .inl h
theorem jqv {u:HO} (s:Same G H) (h:H a=some u):Same (upd G a u) H:=fun b w e=>by
 by_cases hb:b=a
 . subst hb;rw [jB] at e;cases e;exact h
 . rw [jC hb] at e;exact s b w e
theorem EnvOk.freeze (e:EnvOk G0 H0 G H σ ρ) (h1:ρ[i]?=some (.ow ds)) (h2:σ[i]?=some (some (.ref a))) (h3:H a=some (.lst vs)) (h4:Reps G vs ds):EnvOk G0 H0 (upd G a (.lst vs)) H σ (ρ.set i (.sh (.lst ds))):=by obtain ⟨b,us,q1,q2,q3,q4,q5⟩:=e.ow h1;rw [h2] at q1;cases q1;have up:Same G (upd G a (.lst vs)):=.upd q3;exact e.let h1 h2 up (jqv e.same h3) (fun b u z=>jpX z) (.sh (.lst (.inl jB) (h4.mono up))) fun b f=>f.elim
open Classical in
/-- the heap with more of it known -/
def more (G H:Hp) (bs:List Addr):Hp:=fun b=>if b∈bs then H b else G b
theorem jez {bs:List Addr} {b:Addr} (h:b∈bs):more G H bs b=H b:=if_pos h
theorem ZR {bs:List Addr} {b:Addr} (h:b∉bs):more G H bs b=G b:=if_neg h
theorem jeh {bs:List Addr} (s:Same G H):Same G (more G H bs)/\Same (more G H bs) H:=by
 refine ⟨fun b u e=>?_,fun b u e=>?_⟩
 . by_cases hb:b∈bs
   . rw [jez hb];exact s b u e
   . rw [ZR hb];exact e
 . by_cases hb:b∈bs
   . rw [jez hb] at e;exact e
   . rw [ZR hb] at e;exact s b u e
theorem EnvOk.half {dss:List (List D)} {bs:List Addr} (e:EnvOk G0 H0 G H σ ρ) (h1:ρ[i]?=some (.oo dss)) (h2:σ[i]?=some (some (.ref a))) (h3:H a=some (.lst (bs.map V.ref))) (nd:(a::bs).Nodup) (own:∀b∈a::bs,H0 b=none/\G b=none) (rows:Rows G H bs dss) :
 EnvOk G0 H0 (more G H bs) H σ (ρ.set i (.ow (dss.map .lst)))/\Reps (more G H bs) (bs.map V.ref) (dss.map D.lst):=by
 have ss:=jeh (bs:=bs) e.same;have nd':=yc.mp nd;have rr:=rows.frozen ss.1 fun b hb=>jez hb;refine ⟨e.let h1 h2 ss.1 ss.2 (fun b u z=>?_) (.ow (own a Ye).1 (by rw [ZR nd'.1];exact (own a Ye).2) h3 rr) fun b f=>.inl f,rr⟩;by_cases hb:b∈bs
 . exact .inr ((J2 h3).mpr (Yg _ hb))
 . rw [ZR hb] at z;exact .inl z
end
def EOk (t:TE) (f:L2.Env->Option D):Prop:=∀G0 H0 G H σ ρ (Q:VK) d,EnvOk G0 H0 G H σ ρ->f ρ=some d->(∀v G' H',Ext G H G' H'->Rep G' v d->Q v H')->t σ H Q
def zG (t:TE) (f:L2.Env->Option D):Prop:=∀G0 H0 G H σ ρ (Q:VK) d,EnvOk G0 H0 G H σ ρ->f ρ=some d->(∀v G' H',Ext G H G' H'->RepT G' H' v d->Q v H')->t σ H Q
def EOkO (t:TE) (f:L2.Env->Option (List D)):Prop:=∀G0 H0 G H σ ρ (Q:VK) ds,EnvOk G0 H0 G H σ ρ->f ρ=some ds->
 ‹"aD"›->t σ H Q
def TOk (t:TT) (f:L2.Env->Option Bool):Prop:=∀G0 H0 G H σ ρ (Q:Bool->Hp->Prop) b,EnvOk G0 H0 G H σ ρ->f ρ=some b->(∀G' H',Ext G H G' H'->Q b H')->t σ H Q
def AOk (t:TA) (f:L2.Env->Option (List D)):Prop:=∀G0 H0 G H σ ρ (Q:List V->Hp->Prop) ds,EnvOk G0 H0 G H σ ρ->f ρ=some ds->(∀vs G' H',Ext G H G' H'->Reps G' vs ds->Q vs H')->t σ H Q
def jbB (t:TA) (f:L2.Env->Option (List D)):Prop:=∀G0 H0 G H σ ρ (Q:List V->Hp->Prop) ds,EnvOk G0 H0 G H σ ρ->f ρ=some ds->(∀vs G' H',Ext G H G' H'->RepTs G' H' vs ds->Q vs H')->t σ H Q
def jM (f:L2.Env->Option (List D)):L2.Env->Option D:=fun ρ=>(f ρ).map .lst
theorem EOkO.e {t:TE} {f:L2.Env->Option (List D)} (h:EOkO t f):EOk t (jM f):=fun G0 H0 G H σ ρ Q d e q k=>by
 unfold jM at q;cases z:f ρ with
 | none=>rw [z] at q;cases q
 | some ds=>rw [z] at q;cases q;exact h G0 H0 G H σ ρ Q ds e z fun a vs G' H' x hn hg ha r=>k _ _ _ (x.freeze hn hg ha) (.lst (.inl jB) (r.mono (.upd hg)))
theorem EOk.t {t:TE} {f:L2.Env->Option D} (h:EOk t f):zG t f:=fun G0 H0 G H σ ρ Q d e q k=>h G0 H0 G H σ ρ Q d e q fun v G' H' x r=>k v G' H' x (r.top x.gh)
theorem AOk.t {t:TA} {f:L2.Env->Option (List D)} (h:AOk t f):jbB t f:=fun G0 H0 G H σ ρ Q d e q k=>h G0 H0 G H σ ρ Q d e q fun v G' H' x r=>k v G' H' x (by
 clear k e q;induction r using Reps.rec (motive_1:=fun _ _ _=>True) with
 | nil=>exact .nil
 | cons r _ _ ih=>exact .cons (r.top x.gh) ih
 | _=>trivial)
def jq (i:Nat):L2.Env->Option D:=fun ρ=>match ρ[i]? with
 | some (.sh d)=>some d
 | _=>none
def ja (i:Nat):L2.Env->Option D:=fun ρ=>match ρ[i]? with
 | some (.sh d)=>some d
 | some (.ow ds)=>some (.lst ds)
 | some (.od ks ds)=>some (.dic ks ds)
 | _=>none
def eC (d:D):L2.Env->Option D:=fun _=>some d
theorem jq2 (i:Nat):EOk (jeC i) (jq i):=fun G0 H0 G H σ ρ Q d e q k=>by
 unfold jq at q;split at q
 . rename_i d' h;cases q;obtain ⟨v,h1,r⟩:=e.sh h;exact ⟨v,h1,k v G H (.refl e.same) r⟩
 . cases q
theorem jp1 (i:Nat):zG (jeC i) (ja i):=fun G0 H0 G H σ ρ Q d e q k=>by
 unfold ja at q;split at q
 . rename_i d' h;cases q;obtain ⟨v,h1,r⟩:=e.sh h;exact ⟨v,h1,k v G H (.refl e.same) (r.top e.same)⟩
 . rename_i ds h;cases q;obtain ⟨a,vs,h1,_,_,h2,r⟩:=e.ow h;exact ⟨_,h1,k _ G H (.refl e.same) (.lst (.inl h2) r)⟩
 . rename_i ks ds h;cases q;obtain ⟨a,vs,h1,_,_,h2,hl,r⟩:=e.od h;exact ⟨_,h1,k _ G H (.refl e.same) (.dic (.inl h2) hl r)⟩
 . cases q
theorem jov {i:Int}:EOk (tC (.int i)) (eC (.int i)):=fun G0 H0 G H σ ρ Q d e q k=>by cases q;exact k _ G H (.refl e.same) (.int i)
theorem jtg {i:Bool}:EOk (tC (.bl i)) (eC (.bl i)):=fun G0 H0 G H σ ρ Q d e q k=>by cases q;exact k _ G H (.refl e.same) (.bl i)
theorem jrK:EOk (tC .non) (eC .non):=fun G0 H0 G H σ ρ Q d e q k=>by cases q;exact k _ G H (.refl e.same) .non
def ROk (r:R2) (f:D->D->Option D):Prop:=∀G H x y dx dy d (Q:VK),Same G H->RepT G H x dx->RepT G H y dy->f dx dy=some d->(∀v G' H',Ext G H G' H'->Rep G' v d->Q v H')->r x y H Q
def jqf (r:R2) (f:D->D->Option (List D)):Prop:=∀G H x y dx dy ds (Q:VK),Same G H->RepT G H x dx->RepT G H y dy->f dx dy=some ds->
 ‹"aD"›->r x y H Q
def jk {β:Type} (f:D->D->Option β) (a b:L2.Env->Option D):L2.Env->Option β:=fun ρ=>(a ρ).bind fun x=>(b ρ).bind fun y=>f x y
section
variable {ta tb tc:TE} {fa fb fc:L2.Env->Option D} {r r':R2} {f f':D->D->Option D}
theorem jnt (h:ROk r f) (ha:zG ta fa) (hb:zG tb fb):EOk (tOp r ta tb) (jk f fa fb):=fun G0 H0 G H σ ρ Q d e q k=>by obtain ⟨x,qa,q⟩:=bind_some q;obtain ⟨y,qb,q⟩:=bind_some q;refine ha G0 H0 G H σ ρ _ x e qa fun u G1 H1 x1 r1=>?_;refine hb G0 H0 G1 H1 σ ρ _ y (e.grow x1) qb fun v G2 H2 x2 r2=>?_;exact h G2 H2 u v x y d Q x2.gh (r1.mono x2.gg x2.hh) r2 q fun w G3 H3 x3 r3=>k w G3 H3 ‹"ae"› r3
theorem joO {f:D->D->Option (List D)} (h:jqf r f) (ha:zG ta fa) (hb:zG tb fb):EOkO (tOp r ta tb) (jk f fa fb):=fun G0 H0 G H σ ρ Q d e q k=>by obtain ⟨x,qa,q⟩:=bind_some q;obtain ⟨y,qb,q⟩:=bind_some q;refine ha G0 H0 G H σ ρ _ x e qa fun u G1 H1 x1 r1=>?_;refine hb G0 H0 G1 H1 σ ρ _ y (e.grow x1) qb fun v G2 H2 x2 r2=>?_;exact h G2 H2 u v x y d Q x2.gh (r1.mono x2.gg x2.hh) r2 q fun w vs G3 H3 x3 hn hg hh r3=>k w vs G3 H3 ‹"ae"› ((x1.hh.trans x2.hh).free hn) hg hh r3
def dI0 (g:Int->Int->D):D->D->Option D
 | .int i,.int j=>some (g i j)
 | _,_=>none
def dI (C:Int->Int->Prop) [∀i j,Decidable (C i j)] (g:Int->Int->D):D->D->Option D
 | .int i,.int j=>if C i j then some (g i j) else none
 | _,_=>none
theorem qj {α:Type} {P:Prop} {d:α} (h:none=some d):P:=nomatch h
theorem jnQ {m:Int->Int->D} {x y d:D} (q:dI0 m x y=some d):∃i j,x=.int i/\y=.int j/\m i j=d:=by
 cases x with
 | int i=>
   cases y with
   | int j=>exact ⟨i,j,rfl,rfl,Option.some.inj q⟩
   | _=>exact qj q
 | _=>exact qj q
theorem jql {C:Int->Int->Prop} [∀i j,Decidable (C i j)] {m:Int->Int->D} {x y d:D} (q:dI C m x y=some d):∃i j,x=.int i/\y=.int j/\C i j/\m i j=d:=by
 cases x with
 | int i=>
   cases y with
   | int j=>
     by_cases c:C i j
     . exact ⟨i,j,rfl,rfl,c,Option.some.inj ((if_pos c).symm.trans q)⟩
     . exact qj ((if_neg c).symm.trans q)
   | _=>exact qj q
 | _=>exact qj q
theorem jjk {g:Int->Int->V} {m:Int->Int->D} (hg:∀G i j,Rep G (g i j) (m i j)):ROk (rI0 g) (dI0 m):=fun G H x y dx dy d Q s rx ry q k=>by
 obtain ⟨i,j,rfl,rfl,rfl⟩:=jnQ q
 (have hh:=RepT.of_int rx;subst hh)
 (have hh:=RepT.of_int ry;subst hh)
 exact ⟨_,_,rfl,rfl,k _ G H (.refl s) (hg _ _ _)⟩
theorem o_I {C:Int->Int->Prop} [∀i j,Decidable (C i j)] {g:Int->Int->V} {m:Int->Int->D} (hg:∀G i j,Rep G (g i j) (m i j)):ROk (rI C g) (dI C m):=fun G H x y dx dy d Q s rx ry q k=>by
 obtain ⟨i,j,rfl,rfl,hc,rfl⟩:=jql q
 (have hh:=RepT.of_int rx;subst hh)
 (have hh:=RepT.of_int ry;subst hh)
 exact ⟨_,_,rfl,rfl,hc,k _ G H (.refl s) (hg _ _ _)⟩
instance (i j:Int):Decidable (jis i j):=inferInstanceAs (Decidable (_/\_))
instance (i j:Int):Decidable (jgp i j):=inferInstanceAs (Decidable (_/\_))
def qL:=dI0 fun i j=>.int (i+j)
def zD:=dI0 fun i j=>.int (i-j)
def zd:=dI CMulB fun i j=>.int (i*j)
def JA:=dI jis fun i j=>.int (i/j)
def qC:=dI (fun _ j=>0<j) fun i j=>.int (i%j)
def jba:=dI jgp fun i j=>.int (i ^ j.toNat)
def dLt:=dI0 fun i j=>.bl (decide (i<j))
def dLe:=dI0 fun i j=>.bl (decide (i<=j))
def dGt:=dI0 fun i j=>.bl (decide (j<i))
def dGe:=dI0 fun i j=>.bl (decide (j<=i))
theorem jsC:ROk (rI0 fun i j=>.int (i+j)) qL:=jjk fun _ _ _=>.int _
theorem jr1:ROk (rI0 fun i j=>.int (i-j)) zD:=jjk fun _ _ _=>.int _
theorem jrQ:ROk (rI CMulB fun i j=>.int (i*j)) zd:=o_I fun _ _ _=>.int _
theorem jrX:ROk (rI jis fun i j=>.int (i/j)) JA:=o_I fun _ _ _=>.int _
theorem jra:ROk (rI (fun _ j=>0<j) fun i j=>.int (i%j)) qC:=o_I fun _ _ _=>.int _
theorem jrR:ROk (rI jgp fun i j=>.int (i ^ j.toNat)) jba:=o_I fun _ _ _=>.int _
theorem jtd:ROk (rI0 fun i j=>.bl (decide (i<j))) dLt:=jjk fun _ _ _=>.bl _
theorem jts:ROk (rI0 fun i j=>.bl (decide (i<=j))) dLe:=jjk fun _ _ _=>.bl _
theorem js0:ROk (rI0 fun i j=>.bl (decide (j<i))) dGt:=jjk fun _ _ _=>.bl _
theorem js7:ROk (rI0 fun i j=>.bl (decide (j<=i))) dGe:=jjk fun _ _ _=>.bl _
def jO:D->D->Option D
 | .lst l,.int i=>atI l i
 | .tup l,.int i=>atI l i
 | .scr ns,.int i=>(atI ns i).map .int
 | .str z,.int i=>if z.length<=sizeLine then (atI z.cps.toList i).map fun c=>.str ⟨#[c]⟩ else none
 | _,_=>none
theorem Reps.atI {G:Hp} {vs:List V} {ds:List D} {i:Int} {d:D} (r:Reps G vs ds) (h:L2.atI ds i=some d):∃v,L2.atI vs i=some v/\Rep G v d:=by unfold L2.atI at h ⊢;rw [r.length];obtain ⟨j,h1,h2⟩:=bind_some h;obtain ⟨v,h3,h4⟩:=r.get h2;exact ⟨v,by rw [h1];exact h3,h4⟩
theorem jnZ {x y d:D} (q:jO x y=some d):∃i,y=.int i/\((∃l,x=.lst l/\atI l i=some d)\/(∃l,x=.tup l/\atI l i=some d)\/(∃ns n,x=.scr ns/\atI ns i=some n/\d=.int n)\/∃z c,x=.str z/\z.length<=sizeLine/\atI z.cps.toList i=some c/\d=.str ⟨#[c]⟩):=by
 cases y with
 | int i=>
   refine ⟨i,rfl,?_⟩;cases x with
   | lst l=>exact .inl ⟨l,rfl,q⟩
   | tup l=>exact .inr (.inl ⟨l,rfl,q⟩)
   | scr ns=>obtain ⟨n,h1,h2⟩:=map_some (show (atI ns i).map D.int=some d from q);exact .inr (.inr (.inl ⟨ns,n,rfl,h1,h2.symm⟩))
   | str z=>
     have q':(if z.length<=sizeLine then (atI z.cps.toList i).map fun c=>D.str ⟨#[c]⟩ else none)=some d:=q;by_cases c:z.length<=sizeLine
     . rw [if_pos c] at q';obtain ⟨n,h1,h2⟩:=map_some q';exact .inr (.inr (.inr ⟨z,n,rfl,c,h1,h2.symm⟩))
     . rw [if_neg c] at q';exact qj q'
   | _=>exact qj q
 | _=>exact qj (show none=some d from by cases x <;> exact q)
theorem jtp:ROk (rIx Fr.K) jO:=fun G H x y dx dy d Q s rx ry q k=>by
 obtain ⟨i,rfl,z⟩:=jnZ q
 (have hh:=RepT.of_int ry;subst hh)
 rcases z with ⟨l,rfl,q⟩ | ⟨l,rfl,q⟩ | ⟨ns,n,rfl,e,rfl⟩ | ⟨z,c,rfl,hz,e,rfl⟩
 . cases rx with
   | lst h r=>obtain ⟨v,h1,h2⟩:=r.atI q;exact .inl ⟨_,_,_,v,rfl,rfl,.inl h,h1,k v G H (.refl s) h2⟩
 . cases rx with
   | tup h r=>obtain ⟨v,h1,h2⟩:=r.atI q;exact .inr (.inl ⟨_,_,_,v,rfl,rfl,.inl (.inl h),h1,k v G H (.refl s) h2⟩)
 . cases rx with
   | scr h=>exact .inl ⟨_,_,_,_,rfl,rfl,h,by rw [jnx,e];rfl,k _ G H (.refl s) (.int n)⟩
 . cases rx with
   | str z=>exact .inr (.inr ⟨_,_,c,rfl,rfl,hz,e,k _ G H (.refl s) (.str _)⟩)
def jlK (fa:L2.Env->Option D):L2.Env->Option D:=fun ρ=>match fa ρ with
 | some (.int i)=>some (.int (-i))
 | _=>none
theorem jrJ (ha:zG ta fa):EOk (tUn (rU fun i=>.int (-i)) ta) (jlK fa):=fun G0 H0 G H σ ρ Q d e q k=>by
 unfold jlK at q;split at q
 . rename_i i h;cases q;refine ha G0 H0 G H σ ρ _ _ e h fun v G' H' x r=>?_
   (have hh:=RepT.of_int r;subst hh)
   exact ⟨_,rfl,k _ G' H' x (.int _)⟩
 . cases q
def qV (fa:L2.Env->Option D):L2.Env->Option Bool:=fun ρ=>match fa ρ with
 | some (.bl b)=>some b
 | _=>none
theorem jdc (ha:zG ta fa) {G0 H0 G H:Hp} {σ:St} {ρ:L2.Env} {b:Bool} {Q:VK} (e:EnvOk G0 H0 G H σ ρ) (q:qV fa ρ=some b) (k:∀G' H',Ext G H G' H'->Q (.bl b) H'):ta σ H Q:=by
 unfold qV at q;split at q
 . rename_i i h;cases q;refine ha G0 H0 G H σ ρ _ _ e h fun v G' H' x r=>?_
   (have hh:=RepT.of_bl r;subst hh)
   exact k G' H' x
 . cases q
def jnU (fa:L2.Env->Option D):L2.Env->Option D:=fun ρ=>(qV fa ρ).map fun b=>.bl (!b)
theorem jsp (ha:zG ta fa):EOk (joj ta) (jnU fa):=fun G0 H0 G H σ ρ Q d e q k=>by
 unfold jnU at q;cases h:qV fa ρ with
 | none=>rw [h] at q;cases q
 | some b=>rw [h] at q;cases q;exact jdc ha e h fun G' H' x=>⟨_,rfl,k _ G' H' x (.bl _)⟩
def jdS (fa fb:L2.Env->Option D):L2.Env->Option D:=fun ρ=>match qV fa ρ with
 | some true=>fb ρ
 | some false=>some (.bl false)
 | none=>none
theorem jr2 (ha:zG ta fa) (hb:EOk tb fb):EOk (joh ta tb) (jdS fa fb):=fun G0 H0 G H σ ρ Q d e q k=>by
 unfold jdS at q;split at q
 . rename_i h;exact jdc ha e h fun G' H' x=>⟨true,rfl,by rw [if_pos rfl];exact hb _ _ _ _ _ _ _ _ (e.grow x) q fun v G2 H2 x2 r=>k v G2 H2 (x.trans x2) r⟩
 . rename_i h;cases q;exact jdc ha e h fun G' H' x=>⟨false,rfl,by rw [if_neg Yi];exact k _ G' H' x (.bl _)⟩
 . cases q
def jtG (fa:L2.Env->Option D):L2.Env->Option D:=fun ρ=>(fa ρ).map fun d=>.bl (match d with | .non=>true | _=>false)
def jbL (fa:L2.Env->Option D):L2.Env->Option D:=fun ρ=>(fa ρ).map fun d=>.bl (match d with | .non=>false | _=>true)
theorem joR (ha:zG ta fa):EOk (joE ta) (jbL fa):=fun G0 H0 G H σ ρ Q d e q k=>by
 unfold jbL at q;cases h:fa ρ with
 | none=>rw [h] at q;cases q
 | some dx=>rw [h] at q;cases q;refine ha G0 H0 G H σ ρ _ _ e h fun v G' H' x r=>?_;cases r <;> exact k _ G' H' x (by simp;exact .bl _)
def jcJ (f f':D->D->Option D) (fa fb fc:L2.Env->Option D):L2.Env->Option D:=fun ρ=>(fa ρ).bind fun x=>(fb ρ).bind fun y=>(f x y).bind fun z=>match z with
 | .bl true=>(fc ρ).bind fun w=>f' y w
 | .bl false=>some (.bl false)
 | _=>none
theorem jno (h:ROk r f) (h':ROk r' f') (ha:zG ta fa) (hb:zG tb fb) (hc:zG tc fc):EOk (jkV r r' ta tb tc) (jcJ f f' fa fb fc):=fun G0 H0 G H σ ρ Q d e q k=>by
 obtain ⟨x,qa,q⟩:=bind_some q;obtain ⟨y,qb,q⟩:=bind_some q;obtain ⟨z,qz,q⟩:=bind_some q;refine ha G0 H0 G H σ ρ _ x e qa fun u G1 H1 x1 r1=>?_;refine hb G0 H0 G1 H1 σ ρ _ y (e.grow x1) qb fun v G2 H2 x2 r2=>?_;refine h G2 H2 u v x y z _ x2.gh (r1.mono x2.gg x2.hh) r2 qz fun w G3 H3 x3 r3=>?_;cases r3 with
 | bl b=>
   refine ⟨b,rfl,?_⟩;cases b with
   | false=>rw [if_neg Yi];cases q;exact k _ G3 H3 ‹"ae"› (.bl _)
   | true=>rw [if_pos rfl];obtain ⟨w,qc,q⟩:=bind_some q;refine hc G0 H0 G3 H3 σ ρ _ w (e.grow ‹"ae"›) qc fun w' G4 H4 x4 r4=>?_;exact h' G4 H4 v w' y w d Q x4.gh (r2.mono (x3.trans x4).gg (x3.trans x4).hh) r4 q fun z G5 H5 x5 r5=>k z G5 H5 ((‹"ae"›.trans x4).trans x5) r5
 | _=>cases q
theorem t_B (ha:zG ta fa):TOk (tB ta) (qV fa):=fun G0 H0 G H σ ρ Q b e q k=>jdc ha e q fun G' H' x=>⟨b,rfl,k G' H' x⟩
theorem jpR (ha:zG ta fa):TOk (jou ta) (qV fa):=fun G0 H0 G H σ ρ Q b e q k=>jdc ha e q fun G' H' x=>⟨b,rfl,k G' H' x⟩
variable {ca cb:TT} {ga gb:L2.Env->Option Bool}
def Zx (ga gb:L2.Env->Option Bool):L2.Env->Option Bool:=fun ρ=>match ga ρ with
 | some true=>gb ρ
 | some false=>some false
 | none=>none
def bOr (ga gb:L2.Env->Option Bool):L2.Env->Option Bool:=fun ρ=>match ga ρ with
 | some true=>some true
 | some false=>gb ρ
 | none=>none
def jdH (ga:L2.Env->Option Bool):L2.Env->Option Bool:=fun ρ=>(ga ρ).map (!·)
theorem jd0 (ha:TOk ca ga) (hb:TOk cb gb):TOk (jrT ca cb) (Zx ga gb):=fun G0 H0 G H σ ρ Q b e q k=>by
 unfold Zx at q;split at q
 . rename_i h;exact ha _ _ _ _ _ _ _ _ e h fun G' H' x=>by rw [if_pos rfl];exact hb _ _ _ _ _ _ _ _ (e.grow x) q fun G2 H2 x2=>k G2 H2 (x.trans x2)
 . rename_i h;cases q;exact ha _ _ _ _ _ _ _ _ e h fun G' H' x=>by rw [if_neg Yi];exact k G' H' x
 . cases q
theorem jtn (ha:TOk ca ga) (hb:TOk cb gb):TOk (tOr ca cb) (bOr ga gb):=fun G0 H0 G H σ ρ Q b e q k=>by
 unfold bOr at q;split at q
 . rename_i h;cases q;exact ha _ _ _ _ _ _ _ _ e h fun G' H' x=>by rw [if_pos rfl];exact k G' H' x
 . rename_i h;exact ha _ _ _ _ _ _ _ _ e h fun G' H' x=>by rw [if_neg Yi];exact hb _ _ _ _ _ _ _ _ (e.grow x) q fun G2 H2 x2=>k G2 H2 (x.trans x2)
 . cases q
theorem jgs (ha:TOk ca ga):TOk (jq4 ca) (jdH ga):=fun G0 H0 G H σ ρ Q b e q k=>by
 unfold jdH at q;cases h:ga ρ with
 | none=>rw [h] at q;cases q
 | some c=>rw [h] at q;cases q;exact ha _ _ _ _ _ _ _ _ e h fun G' H' x=>k G' H' x
theorem jqz:TOk joB ‹"l"›:=fun G0 H0 G H σ ρ Q b e q k=>by cases q;exact k G H (.refl e.same)
def eIf (ga:L2.Env->Option Bool) (fa fb:L2.Env->Option D):L2.Env->Option D:=fun ρ=>match ga ρ with
 | some true=>fa ρ
 | some false=>fb ρ
 | none=>none
theorem jtr (hc:TOk ca ga) (ha:EOk ta fa) (hb:EOk tb fb):EOk (tIf ca ta tb) (eIf ga fa fb):=fun G0 H0 G H σ ρ Q d e q k=>by
 unfold eIf at q;split at q
 . rename_i h;exact hc _ _ _ _ _ _ _ _ e h fun G' H' x=>by rw [if_pos rfl];exact ha _ _ _ _ _ _ _ _ (e.grow x) q fun v G2 H2 x2 r=>k v G2 H2 (x.trans x2) r
 . rename_i h;exact hc _ _ _ _ _ _ _ _ e h fun G' H' x=>by rw [if_neg Yi];exact hb _ _ _ _ _ _ _ _ (e.grow x) q fun v G2 H2 x2 r=>k v G2 H2 (x.trans x2) r
 . cases q
end
section
variable {ta tb tc:TE} {fa fb fc:L2.Env->Option D} {As:TA} {fs:L2.Env->Option (List D)}
def jj:L2.Env->Option (List D):=fun _=>some []
def jc (fa:L2.Env->Option D) (fs:L2.Env->Option (List D)):L2.Env->Option (List D):=fun ρ=>(fa ρ).bind fun d=>(fs ρ).map (d::·)
theorem jdf {ρ:L2.Env} {ds:List D} (h:jc fa fs ρ=some ds):∃d es,fa ρ=some d/\fs ρ=some es/\ds=d::es:=by
 obtain ⟨d,h1,h2⟩:=bind_some h;cases z:fs ρ with
 | none=>rw [z] at h2;cases h2
 | some es=>rw [z] at h2;cases h2;exact ⟨d,es,h1,rfl,rfl⟩
theorem a_nil:AOk jjF jj:=fun G0 H0 G H σ ρ Q d e q k=>by cases q;exact k [] G H (.refl e.same) .nil
theorem jkQ (ha:EOk ta fa) (hs:AOk As fs):AOk (jcM ta As) (jc fa fs):=fun G0 H0 G H σ ρ Q ds e q k=>by obtain ⟨d,es,q1,q2,rfl⟩:=jdf q;refine ha _ _ _ _ _ _ _ _ e q1 fun v G1 H1 x1 r1=>hs _ _ _ _ _ _ _ _ (e.grow x1) q2 fun vs G2 H2 x2 r2=>?_;exact k _ G2 H2 (x1.trans x2) (.cons (r1.mono x2.gg) r2)
theorem jpv:jbB jjF jj:=a_nil.t
theorem jnW (ha:zG ta fa) (hs:jbB As fs):jbB (jcM ta As) (jc fa fs):=fun G0 H0 G H σ ρ Q ds e q k=>by obtain ⟨d,es,q1,q2,rfl⟩:=jdf q;refine ha _ _ _ _ _ _ _ _ e q1 fun v G1 H1 x1 r1=>hs _ _ _ _ _ _ _ _ (e.grow x1) q2 fun vs G2 H2 x2 r2=>?_;exact k _ G2 H2 (x1.trans x2) (.cons (r1.mono x2.gg x2.hh) r2)
def zI (n:Nat):Bool:=decide (n<sizeLine)
def jaa (fs:L2.Env->Option (List D)):L2.Env->Option D:=fun ρ=>(fs ρ).bind fun ds=>if zI ds.length then some (.tup ds) else none
def zV (fs:L2.Env->Option (List D)):L2.Env->Option (List D):=fun ρ=>(fs ρ).bind fun ds=>if zI ds.length then some ds else none
theorem jfy {n:Nat} (h:zI n=true):n<=sizeLine:=yL (yI h)
theorem ZG {n:Nat} (h:zI n=true):n<sizeLine:=yI h
theorem jq8 (h:AOk As fs):EOk (jq7 As) (jaa fs):=fun G0 H0 G H σ ρ Q d e q k=>by
 obtain ⟨ds,q1,q2⟩:=bind_some q;split at q2
 . rename_i hz;cases q2;refine h _ _ _ _ _ _ _ _ e q1 fun vs G1 H1 x1 r1=>⟨by rw [r1.length];exact jfy hz,fun p hp=>?_⟩;have hg:G1 p=none:=x1.gh.free hp;have x2:Ext G1 H1 (upd G1 p (.tup vs)) (upd H1 p (.tup vs)):=(Ext.new x1.gh hp).freeze hp hg jB;exact k _ _ _ (x1.trans x2) (.tup jB (r1.mono x2.gg))
 . cases q2
theorem jrL (h:AOk As fs):EOkO (jr5 As) (zV fs):=fun G0 H0 G H σ ρ Q d e q k=>by
 obtain ⟨ds,q1,q2⟩:=bind_some q;split at q2
 . rename_i hz;cases q2;refine h _ _ _ _ _ _ _ _ e q1 fun vs G1 H1 x1 r1=>⟨by rw [r1.length];exact jfy hz,fun p hp=>?_⟩;exact k p vs G1 _ (x1.trans (.new x1.gh hp)) (x1.hh.free hp) (x1.gh.free hp) jB r1
 . cases q2
def jdQ (r:List V->Hp->VK->Prop) (f:List D->Option D):Prop:=∀G H xs ds d (Q:VK),Same G H->RepTs G H xs ds->f ds=some d->(∀v G' H',Ext G H G' H'->Rep G' v d->Q v H')->r xs H Q
def jf2 (r:List V->Hp->VK->Prop) (f:List D->Option (List D)):Prop:=∀G H xs ds es (Q:VK),Same G H->RepTs G H xs ds->f ds=some es->
 (∀a vs G' H',Ext G H G' H'->H a=none->G' a=none->H' a=some (.lst vs)->Reps G' vs es->Q (.ref a) H')->r xs H Q
def ji {β:Type} (f:List D->Option β) (fs:L2.Env->Option (List D)):L2.Env->Option β:=fun ρ=>(fs ρ).bind f
theorem jsR {r:List V->Hp->VK->Prop} {f:List D->Option D} (h:jdQ r f) (ha:jbB As fs):EOk (tCB r As) (ji f fs):=fun G0 H0 G H σ ρ Q d e q k=>by obtain ⟨ds,q1,q2⟩:=bind_some q;exact ha _ _ _ _ _ _ _ _ e q1 fun vs G1 H1 x1 r1=>h G1 H1 vs ds d Q x1.gh r1 q2 fun v G2 H2 x2 r2=>k v G2 H2 (x1.trans x2) r2
theorem joa {r:List V->Hp->VK->Prop} {f:List D->Option (List D)} (h:jf2 r f) (ha:jbB As fs):EOkO (tCB r As) (ji f fs):=fun G0 H0 G H σ ρ Q d e q k=>by obtain ⟨ds,q1,q2⟩:=bind_some q;exact ha _ _ _ _ _ _ _ _ e q1 fun vs G1 H1 x1 r1=>h G1 H1 vs ds d Q x1.gh r1 q2 fun a us G2 H2 x2 hn hg hh r2=>k a us G2 H2 (x1.trans x2) (x1.hh.free hn) hg hh r2
def spS (f:List D->Option D):Sp:=fun vs H Q _=>∃G ds d,Same G H/\Reps G vs ds/\f ds=some d/\∀v G' H',Ext G H G' H'->Rep G' v d->Q v H'
def spO (f:List D->Option (List D)):Sp:=fun vs H Q _=>∃G ds es,Same G H/\Reps G vs ds/\f ds=some es/\∀a us G' H',Ext G H G' H'->H a=none->G' a=none->H' a=some (.lst us)->Reps G' us es->Q (.ref a) H'
theorem jqh {f:List D->Option D} {E:XK} (ha:AOk As fs):EOk (jlm (spS f) [] E As) (ji f fs):=fun G0 H0 G H σ ρ Q d e q k=>by obtain ⟨ds,q1,q2⟩:=bind_some q;exact ha _ _ _ _ _ _ _ _ e q1 fun vs G1 H1 x1 r1=>⟨G1,ds,d,x1.gh,by rw [yM];exact r1,q2,fun v G2 H2 x2 r2=>k v G2 H2 (x1.trans x2) r2⟩
theorem jmC {f:List D->Option (List D)} {E:XK} (ha:AOk As fs):EOkO (jlm (spO f) [] E As) (ji f fs):=fun G0 H0 G H σ ρ Q d e q k=>by obtain ⟨ds,q1,q2⟩:=bind_some q;exact ha _ _ _ _ _ _ _ _ e q1 fun vs G1 H1 x1 r1=>⟨G1,ds,d,x1.gh,by rw [yM];exact r1,q2,fun a us G2 H2 x2 hn hg hh r2=>k a us G2 H2 (x1.trans x2) (x1.hh.free hn) hg hh r2⟩
end
inductive Res where
 | next (ρ:L2.Env) | ret (d:D) | retO (ds:List D) | brk (ρ:L2.Env) | cnt (ρ:L2.Env) | fail
def ResOk (G0 H0 Gc:Hp) (r:Res) (E:Ends):Prop:=match r with
 | .next ρ=>∀G H σ,Same Gc G->EnvOk G0 H0 G H σ ρ->E.nx σ H
 | .brk ρ=>∀G H σ,Same Gc G->EnvOk G0 H0 G H σ ρ->E.bk σ H
 | .cnt ρ=>∀G H σ,Same Gc G->EnvOk G0 H0 G H σ ρ->E.ct σ H
 | .ret d=>∀G H v,Ext G0 H0 G H->Rep G v d->E.rt v H
 | .retO ds=>∀G H a vs,Ext G0 H0 G H->H0 a=none->G a=none->H a=some (.lst vs)->Reps G vs ds->E.rt (.ref a) H
 | .fail=>False
theorem ResOk.mono {G0 H0 G G':Hp} {r:Res} {E:Ends} (s:Same G G') (h:ResOk G0 H0 G r E):ResOk G0 H0 G' r E:=by
 cases r with
 | next ρ=>exact fun G2 H2 σ s2 e=>h G2 H2 σ (s.trans s2) e
 | brk ρ=>exact fun G2 H2 σ s2 e=>h G2 H2 σ (s.trans s2) e
 | cnt ρ=>exact fun G2 H2 σ s2 e=>h G2 H2 σ (s.trans s2) e
 | ret d=>exact h
 | retO d=>exact h
 | fail=>exact h
abbrev FS:=L2.Env->Res
def SOk (t:TS) (F:FS):Prop:=∀G0 H0 G H σ ρ E,EnvOk G0 H0 G H σ ρ->ResOk G0 H0 G (F ρ) E->t E σ H
section
variable {t u:TS} {F F':FS} {te:TE} {fe:L2.Env->Option D} {fo:L2.Env->Option (List D)} {tc:TT} {fc:L2.Env->Option Bool}
def qw:FS:=.next
theorem jqr:SOk joF qw:=fun G0 H0 G H σ ρ E e h=>h G H σ (.refl _) e
def jy (F F':FS):FS:=fun ρ=>match F ρ with
 | .next ρ'=>F' ρ'
 | r=>r
theorem jrD (h:SOk t F) (h':SOk u F'):SOk (jqZ t u) (jy F F'):=fun G0 H0 G H σ ρ E e q=>by
 refine h G0 H0 G H σ ρ _ e ?_;unfold jy at q;cases z:F ρ with
 | next ρ'=>rw [z] at q;exact fun G' H' σ' s' e'=>h' G0 H0 G' H' σ' ρ' E e' (q.mono s')
 | ret d=>rw [z] at q;exact q
 | retO d=>rw [z] at q;exact q
 | brk d=>rw [z] at q;exact q
 | cnt d=>rw [z] at q;exact q
 | fail=>rw [z] at q;exact q
def jf8 (fe:L2.Env->Option D):FS:=fun ρ=>match fe ρ with
 | some _=>.next ρ
 | none=>.fail
theorem jqy (h:zG te fe):SOk (jla te) (jf8 fe):=fun G0 H0 G H σ ρ E e q=>by
 unfold jf8 at q;split at q
 . rename_i d z;exact h _ _ _ _ _ _ _ _ e z fun v G' H' x r=>q G' H' σ x.gg (e.grow x)
 . exact q.elim
def ze (fe:L2.Env->Option D):FS:=fun ρ=>match fe ρ with
 | some d=>.ret d
 | none=>.fail
theorem jrA (h:EOk te fe):SOk (jmF te) (ze fe):=fun G0 H0 G H σ ρ E e q=>by
 unfold ze at q;split at q
 . rename_i d z;exact h _ _ _ _ _ _ _ _ e z fun v G' H' x r=>q G' H' v (e.ext.trans x) r
 . exact q.elim
def zi (fo:L2.Env->Option (List D)):FS:=fun ρ=>match fo ρ with
 | some d=>.retO d
 | none=>.fail
theorem joS (h:EOkO te fo):SOk (jmF te) (zi fo):=fun G0 H0 G H σ ρ E e q=>by
 unfold zi at q;split at q
 . rename_i d z;exact h _ _ _ _ _ _ _ _ e z fun a vs G' H' x hn hg hh r=>q G' H' a vs (e.ext.trans x) (e.ext.hh.free hn) hg hh r
 . exact q.elim
def jbU (i:Nat):FS:=fun ρ=>match ρ[i]? with
 | some (.ow ds)=>.retO ds
 | _=>.fail
theorem jpg (i:Nat):SOk (jmF (jeC i)) (jbU i):=fun G0 H0 G H σ ρ E e q=>by
 unfold jbU at q;split at q
 . rename_i ds z;obtain ⟨a,vs,h1,h2,h3,h4,h5⟩:=e.ow z;exact ⟨_,h1,q G H a vs e.ext h2 h3 h4 h5⟩
 . exact q.elim
def Zu (fc:L2.Env->Option Bool) (F F':FS):FS:=fun ρ=>match fc ρ with
 | some true=>F ρ
 | some false=>F' ρ
 | none=>.fail
theorem js5 (hc:TOk tc fc) (h:SOk t F) (h':SOk u F'):SOk (jrc tc t u) (Zu fc F F'):=fun G0 H0 G H σ ρ E e q=>by
 unfold Zu at q;split at q
 . rename_i z;exact hc _ _ _ _ _ _ _ _ e z fun G' H' x=>by rw [if_pos rfl];exact h _ _ _ _ _ _ _ (e.grow x) (q.mono x.gg)
 . rename_i z;exact hc _ _ _ _ _ _ _ _ e z fun G' H' x=>by rw [if_neg Yi];exact h' _ _ _ _ _ _ _ (e.grow x) (q.mono x.gg)
 . exact q.elim
def jI (i:Nat) (fe:L2.Env->Option D):FS:=fun ρ=>match fe ρ with
 | some d=>.next (ρ.set i (.sh d))
 | none=>.fail
theorem joA (i:Nat) (h:EOk te fe):SOk (jdK te (jaf i)) (jI i fe):=fun G0 H0 G H σ ρ E e q=>by
 unfold jI at q;split at q
 . rename_i d z;exact h _ _ _ _ _ _ _ _ e z fun v G' H' x r=>q G' H' _ x.gg ((e.grow x).set r)
 . exact q.elim
def Jm (i:Nat) (fo:L2.Env->Option (List D)):FS:=fun ρ=>match fo ρ with
 | some d=>.next (ρ.set i (.ow d))
 | none=>.fail
theorem jqk (i:Nat) (h:EOkO te fo):SOk (jdK te (jaf i)) (Jm i fo):=fun G0 H0 G H σ ρ E e q=>by
 unfold Jm at q;split at q
 . rename_i d z;exact h _ _ _ _ _ _ _ _ e z fun a vs G' H' x hn hg hh r=>q G' H' _ x.gg (e.setO x hn hg hh r)
 . exact q.elim
def jhZ (i:Nat) (F:FS):FS:=fun ρ=>F (frz i ρ)
theorem Ext.back {G G' H:Hp} (sg:Same G G') (gh:Same G' H):∀G2 H2,Ext G' H G2 H2->∃G3,Ext G H G3 H2/\∀v d,Jj d=true->Rep G2 v d->Rep G3 v d:=fun G2 H2 x=>by
 refine ⟨fun b=>match G b,G' b with | none,some _=>none | _,_=>G2 b,⟨x.hh,fun b o q=>?_,fun b o q=>?_,fun b o q=>?_⟩,fun v d f r=>r.flat f⟩
 . show (match G b,G' b with | none,some _=>none | _,_=>G2 b)=some o;rw [q,sg b o q];exact x.gg b o (sg b o q)
 . have q':(match G b,G' b with | none,some _=>none | _,_=>G2 b)=some o:=q;split at q'
   . cases q'
   . exact x.gh b o q'
 . have q':(match G b,G' b with | none,some _=>none | _,_=>G2 b)=some o:=q;cases g:G b with
   | some u=>rw [g,sg b u g] at q';have:G2 b=some u:=x.gg b u (sg b u g);rw [this] at q';exact .inl q'
   | none=>
     cases g':G' b with
     | some u=>rw [g,g'] at q';cases q'
     | none=>
       rw [g,g'] at q';rcases x.nw b o q' with w | w
       . rw [g'] at w;cases w
       . exact .inr w
theorem EnvOk.frz {G0 H0 G H:Hp} {σ:St} {ρ:L2.Env} (i:Nat) (e:EnvOk G0 H0 G H σ ρ):∃G',EnvOk G0 H0 G' H σ (L2.frz i ρ)/\Same G G'/\∀G2 H2,Ext G' H G2 H2->∃G3,Ext G H G3 H2/\∀v d,Jj d=true->Rep G2 v d->Rep G3 v d:=by
 have fin:∀(ρ':L2.Env) G',EnvOk G0 H0 G' H σ ρ'->Same G G'->∃G',EnvOk G0 H0 G' H σ ρ'/\Same G G'/\∀G2 H2,Ext G' H G2 H2->∃G3,Ext G H G3 H2/\∀v d,Jj d=true->Rep G2 v d->Rep G3 v d:=fun ρ' G' e' s=>⟨G',e',s,Ext.back s e'.same⟩;unfold L2.frz;split
 . rename_i ds z;obtain ⟨a,vs,h1,h2,h3,h4,h5⟩:=e.ow z;exact fin _ _ (e.freeze z h1 h4 h5) (.upd h3)
 . rename_i dss z;obtain ⟨a,bs,h1,h2,h3,h4,h5⟩:=e.oo z;obtain ⟨e1,rr⟩:=e.half z h1 h2 h3 h4 h5;have hi:i<ρ.length:=(Ym.mp z).1;have e2:=e1.freeze (i:=i) (by rw [Y6 hi]) h1 h2 rr;rw [List.set_set] at e2;have nd':=yc.mp h3;exact fin _ _ e2 ((jeh e.same).1.trans (.upd (by rw [ZR nd'.1];exact (h4 a Ye).2)))
 . exact fin _ _ e (.refl _)
theorem jsq (i:Nat) (h:SOk t F):SOk t (jhZ i F):=fun G0 H0 G H σ ρ E e q=>by obtain ⟨G',e',sg,_⟩:=e.frz i;exact h G0 H0 G' H σ _ E e' (q.mono sg)
variable {ta:TE} {fa:L2.Env->Option D}
def JD (i:Nat) (fa:L2.Env->Option D):FS:=fun ρ=>match ρ[i]?,fa ρ with
 | some (.ow ds),some d=>if zI ds.length then .next (ρ.set i (.ow (ds++[d]))) else .fail
 | _,_=>.fail
theorem jry (i:Nat) (h:EOk ta fa):SOk (jla (tBM Fr.K "list" jeJ (jeC i) (jcM ta jjF))) (JD i fa):=fun G0 H0 G H σ ρ E e q=>by
 unfold JD at q;split at q
 . rename_i ds d z1 z2;split at q
   . rename_i hz;obtain ⟨a,vs,h1,h2,h3,h4,h5⟩:=e.ow z1;refine ⟨_,h1,.inl ⟨rfl,vs,.inl (.inl h4)⟩,h _ _ _ _ _ _ _ _ e z2 fun v G' H' x r=>?_⟩;have e':=e.grow x;exact ⟨a,vs,v,rfl,rfl,x.hh _ _ h4,by rw [h5.length];exact ZG hz,q G' _ σ x.gg (e'.put z1 h1 ((h5.mono x.gg).snoc r))⟩
   . exact q.elim
 . exact q.elim
def jeX (i:Nat) (fk fa:L2.Env->Option D):FS:=fun ρ=>match ρ[i]?,fa ρ,fk ρ with
 | some (.ow ds),some d,some (.int k)=>match ixN ds.length k with
   | some j=>.next (ρ.set i (.ow (ds.set j d)))
   | none=>.fail
 | _,_,_=>.fail
theorem jrB {tk:TE} {fk:L2.Env->Option D} (i:Nat) (hk:EOk tk fk) (h:EOk ta fa):SOk (jdK ta (jsv (jeC i) tk jlu)) (jeX i fk fa):=fun G0 H0 G H σ ρ E e q=>by
 unfold jeX at q;split at q
 . rename_i ds d k z1 z2 z3;split at q
   . rename_i j hj;obtain ⟨a,vs,h1,h2,h3,h4,h5⟩:=e.ow z1;refine h _ _ _ _ _ _ _ _ e z2 fun v G' H' x r=>⟨_,h1,hk _ _ _ _ _ _ _ _ (e.grow x) z3 fun w G2 H2 x2 r2=>?_⟩
     (have hh:=Rep.of_int r2;subst hh)
     have e':=(e.grow x).grow x2;exact ⟨a,vs,k,j,rfl,rfl,(x.trans x2).hh _ _ h4,by rw [h5.length];exact hj,q G2 _ σ (x.trans x2).gg (e'.put z1 h1 ((h5.mono (x.trans x2).gg).set (r.mono x2.gg) j))⟩
   . exact q.elim
 . exact q.elim
end
def GOk (g:TG) (m:D->L2.Env->Option L2.Env):Prop:=∀G0 H0 G H σ ρ v d ρ' (Q:St->Hp->Prop),EnvOk G0 H0 G H σ ρ->Rep G v d->m d ρ=some ρ'->(∀σ',EnvOk G0 H0 G H σ' ρ'->Q σ' H)->g v σ H Q
def ji9 (g:TGs) (m:List D->L2.Env->Option L2.Env):Prop:=∀G0 H0 G H σ ρ vs ds ρ' (Q:St->Hp->Prop),EnvOk G0 H0 G H σ ρ->Reps G vs ds->m ds ρ=some ρ'->(∀σ',EnvOk G0 H0 G H σ' ρ'->Q σ' H)->g vs σ H Q
def jz (i:Nat):D->L2.Env->Option L2.Env:=fun d ρ=>some (ρ.set i (.sh d))
def Qn:List D->L2.Env->Option L2.Env
 | [],ρ=>some ρ
 | _,_=>none
def j2 (m:D->L2.Env->Option L2.Env) (ms:List D->L2.Env->Option L2.Env):List D->L2.Env->Option L2.Env
 | d::ds,ρ=>(m d ρ).bind fun ρ'=>ms ds ρ'
 | [],_=>none
def Qh (n:Nat) (ms:List D->L2.Env->Option L2.Env):D->L2.Env->Option L2.Env
 | .tup ds,ρ=>if ds.length=n then ms ds ρ else none
 | _,_=>none
theorem jhV (i:Nat):GOk (jaf i) (jz i):=fun G0 H0 G H σ ρ v d ρ' Q e r q k=>by cases q;exact k _ (e.set r)
theorem joN:ji9 jqg Qn:=fun G0 H0 G H σ ρ vs ds ρ' Q e r q k=>by
 cases r with
 | nil=>cases q;exact ⟨rfl,k _ e⟩
 | cons _ _=>cases q
theorem jlq {g:TG} {gs:TGs} {m:D->L2.Env->Option L2.Env} {ms:List D->L2.Env->Option L2.Env} (h:GOk g m) (hs:ji9 gs ms):ji9 (joD g gs) (j2 m ms):=fun G0 H0 G H σ ρ vs ds ρ' Q e r q k=>by
 cases r with
 | nil=>cases q
 | cons r t=>obtain ⟨ρ1,q1,q2⟩:=bind_some q;exact ⟨_,_,rfl,h _ _ _ _ _ _ _ _ _ _ e r q1 fun σ' e'=>hs _ _ _ _ _ _ _ _ _ _ e' t q2 k⟩
theorem joe {n:Nat} {gs:TGs} {ms:List D->L2.Env->Option L2.Env} (hs:ji9 gs ms):GOk (jnl Fr.K n gs) (Qh n ms):=fun G0 H0 G H σ ρ v d ρ' Q e r q k=>by
 cases r with
 | tup h r=>
   simp only [Qh] at q;split at q
   . rename_i hl;exact ⟨_,_,rfl,.inl (.inl (e.same _ _ h)),by rw [r.length];exact hl,hs _ _ _ _ _ _ _ _ _ _ e r q k⟩
   . cases q
 | _=>cases q
def jqt (m:D->L2.Env->Option L2.Env) (fe:L2.Env->Option D):FS:=fun ρ=>match (fe ρ).bind fun d=>m d ρ with
 | some ρ'=>.next ρ'
 | none=>.fail
theorem jrU {g:TG} {m:D->L2.Env->Option L2.Env} {te:TE} {fe:L2.Env->Option D} (hg:GOk g m) (h:EOk te fe):SOk (jdK te g) (jqt m fe):=fun G0 H0 G H σ ρ E e q=>by
 unfold jqt at q;split at q
 . rename_i ρ' z;obtain ⟨d,z1,z2⟩:=bind_some z;exact h _ _ _ _ _ _ _ _ e z1 fun v G' H' x r=>hg _ _ _ _ _ _ _ _ _ _ (e.grow x) r z2 fun σ' e'=>q G' H' σ' x.gg e'
 . exact q.elim
def Iter (G1 H1:Hp) (J:It) (ds:List D):Prop:=∀(i:Nat) G H,Same G1 G->Same H1 H->Same G H->
 (∀d,ds[i]?=some d->J.go i H/\∀x H',J.yld i H x H'->∃G',Ext G H G' H'/\Rep G' x d)/\(ds[i]?=none->J.stop i H)
def jjP (wi:TI) (f:L2.Env->Option (List D)):Prop:=∀G0 H0 G H σ ρ (R:It->Hp->Prop) ds,EnvOk G0 H0 G H σ ρ->f ρ=some ds->(∀J G' H',Ext G H G' H'->Iter G' H' J ds->R J H')->wi σ H R
def IOk (wi:TI) (f:L2.Env->Option (List D)):Prop:=∀G0 H0 G H σ ρ (R:It->Hp->Prop) ds,EnvOk G0 H0 G H σ ρ->f ρ=some ds->(∀J G' H',Ext G H G' H'->Iter G' G' J ds->R J H')->wi σ H R
theorem Iter.weak {G H:Hp} {J:It} {ds:List D} (h:Iter G G J ds):Iter G H J ds:=fun i G' H' a b c=>h i G' H' a (a.trans c) c
theorem IOk.t {wi:TI} {f:L2.Env->Option (List D)} (h:IOk wi f):jjP wi f:=fun G0 H0 G H σ ρ R ds e q k=>h _ _ _ _ _ _ _ _ e q fun J G' H' x j=>k J G' H' x j.weak
section
variable {te:TE} {fe:L2.Env->Option D} {ta:TA} {fa:L2.Env->Option (List D)}
def jY (fe:L2.Env->Option D):L2.Env->Option (List D):=fun ρ=>match fe ρ with
 | some (.lst l)=>some l
 | _=>none
def jbW (fe:L2.Env->Option D):L2.Env->Option (List D):=fun ρ=>match fe ρ with
 | some (.tup l)=>some l
 | _=>none
end
end
end L2
namespace L2
open PySem PySem.Spec PyProof.Rows
section
variable [Fr]
section
variable {te:TE} {fe:L2.Env->Option D} {ta:TA} {fa:L2.Env->Option (List D)}
theorem Reps.none_of {G:Hp} {vs:List V} {ds:List D} {i:Nat} (r:Reps G vs ds) (h:ds[i]?=none):vs.length<=i:=by rw [r.length];exact Y4.mp h
theorem jer {G1 H1:Hp} {a:Addr} {vs:List V} {ds:List D} (h:Rd H1 a (.lst vs)) (r:Reps G1 vs ds):Iter G1 H1 (Itl Fr.K a) ds:=fun i G H s1 s2 s3=>by have hq:Jp Fr.K H a vs:=.inl (h.same s2);refine ⟨fun d hd=>?_,fun hd=>⟨vs,hq,r.none_of hd⟩⟩;obtain ⟨v,h1,h2⟩:=r.get hd;refine ⟨⟨vs,v,hq,h1⟩,fun x H' y=>?_⟩;obtain ⟨e,y⟩:=y;subst e;have z:=y vs hq;rw [h1] at z;cases z;exact ⟨G,.refl s3,h2.mono s1⟩
theorem jk8 {G1 H1:Hp} {a:Addr} {vs:List V} {ds:List D} (h:H1 a=some (.tup vs)) (r:Reps G1 vs ds):Iter G1 H1 (Itt Fr.K a) ds:=fun i G H s1 s2 s3=>by have hq:SqT Fr.K H a vs:=.inl (.inl (s2 _ _ h));refine ⟨fun d hd=>?_,fun hd=>⟨vs,hq,r.none_of hd⟩⟩;obtain ⟨v,h1,h2⟩:=r.get hd;refine ⟨⟨vs,v,hq,h1⟩,fun x H' y=>?_⟩;obtain ⟨e,y⟩:=y;subst e;have z:=y vs hq;rw [h1] at z;cases z;exact ⟨G,.refl s3,h2.mono s1⟩
def rng (lo:Int) (n:Nat):List D:=(List.range n).map fun (i:Nat)=>D.int (lo+(i:Int))
theorem jlS {G1 H1:Hp} {lo:Int} {n:Nat}:Iter G1 H1 (Itr lo n) (rng lo n):=fun i G H s1 s2 s3=>by
 refine ⟨fun d hd=>?_,fun hd=>?_⟩
 . unfold rng at hd;rw [List.getElem?_map] at hd;cases e:(List.range n)[i]? with
   | none=>rw [e] at hd;cases hd
   | some j=>rw [e] at hd;cases hd;obtain ⟨hi,hj⟩:=Ym.mp e;simp at hi hj;subst hj;refine ⟨hi,fun x H' y=>?_⟩;obtain ⟨e1,e2⟩:=y;subst e1 e2;exact ⟨G,.refl s3,.int _⟩
 . have:=Y4.mp hd;simp [rng] at this;exact this
theorem Ext.newT {G H:Hp} {t:Addr} {o:HO} (s:Same G H) (hn:H t=none):Ext G H (upd G t o) (upd H t o):=(Ext.new s hn).freeze hn (s.free hn) jB
def jal (l m:List D):List D:=(l.zip m).map fun p=>.tup [p.1,p.2]
theorem jk9 {G1 H1:Hp} {a b:Addr} {vs us:List V} {ds es:List D} (h:Rd H1 a (.lst vs)) (h':Rd H1 b (.lst us)) (r:Reps G1 vs ds) (r':Reps G1 us es):Iter G1 H1 (Itz Fr.K a b) (jal ds es):=fun i G H s1 s2 s3=>by
 have hq:Jp Fr.K H a vs:=.inl (h.same s2);have hq':Jp Fr.K H b us:=.inl (h'.same s2);refine ⟨fun d hd=>?_,fun hd=>⟨vs,us,hq,hq',?_⟩⟩
 . unfold jal at hd;rw [List.getElem?_map] at hd;cases e:(ds.zip es)[i]? with
   | none=>rw [e] at hd;cases hd
   | some p=>rw [e] at hd;cases hd;obtain ⟨g1,g2⟩:=YQ.mp e;obtain ⟨v,h1,h2⟩:=r.get g1;obtain ⟨u,h3,h4⟩:=r'.get g2;refine ⟨⟨vs,us,v,u,hq,hq',h1,h3⟩,fun x H' y=>?_⟩;obtain ⟨t,x',y',hn,e1,e2,y1,y2⟩:=y;subst e1 e2;have z1:=y1 vs hq;have z2:=y2 us hq';rw [h1] at z1;rw [h3] at z2;cases z1;cases z2;have x:=Ext.newT (o:=.tup [v,u]) s3 hn;exact ⟨_,x,.tup jB (.cons (h2.mono (s1.trans x.gg)) (.cons (h4.mono (s1.trans x.gg)) .nil))⟩
 . have:=Y4.mp hd;simp [jal] at this;rw [r.length,r'.length];omega
def ZQ (l:List D):List D:=(l.zipIdx).map fun p=>.tup [.int p.2,p.1]
theorem jj1 {G1 H1:Hp} {a:Addr} {vs:List V} {ds:List D} (h:Rd H1 a (.lst vs)) (r:Reps G1 vs ds):Iter G1 H1 (Ite Fr.K a) (ZQ ds):=fun i G H s1 s2 s3=>by
 have hq:Jp Fr.K H a vs:=.inl (h.same s2);refine ⟨fun d hd=>?_,fun hd=>⟨vs,hq,?_⟩⟩
 . unfold ZQ at hd;rw [List.getElem?_map,List.getElem?_zipIdx] at hd;cases e:ds[i]? with
   | none=>rw [e] at hd;cases hd
   | some p=>rw [e] at hd;cases hd;obtain ⟨v,h1,h2⟩:=r.get e;refine ⟨⟨vs,v,hq,h1⟩,fun x H' y=>?_⟩;obtain ⟨t,x',hn,e1,e2,y1⟩:=y;subst e1 e2;have z1:=y1 vs hq;rw [h1] at z1;cases z1;have x:=Ext.newT (o:=.tup [.int i,v]) s3 hn;refine ⟨_,x,.tup jB (.cons ?_ (.cons (h2.mono (s1.trans x.gg)) .nil))⟩;simp;exact .int _
 . have:=Y4.mp hd;simp [ZQ] at this;rw [r.length];omega
theorem jcI {ρ:L2.Env} {ds:List D} (h:jY fe ρ=some ds):fe ρ=some (.lst ds):=by unfold jY at h;split at h <;> first | (cases h;assumption) | cases h
theorem jhg {ρ:L2.Env} {ds:List D} (h:jbW fe ρ=some ds):fe ρ=some (.tup ds):=by unfold jbW at h;split at h <;> first | (cases h;assumption) | cases h
theorem jo5 (h:EOk te fe):IOk (jgx Fr.K te) (jY fe):=fun G0 H0 G H σ ρ R ds e q k=>by refine h _ _ _ _ _ _ _ _ e (jcI q) fun v G' H' x r=>?_;obtain ⟨_,_,rfl,h,r⟩:=r.of_lst;exact ⟨_,rfl,⟨_,.inl (h.same x.gh)⟩,k _ G' H' x (jer h r)⟩
theorem jnN (h:zG te fe):jjP (jgx Fr.K te) (jY fe):=fun G0 H0 G H σ ρ R ds e q k=>by refine h _ _ _ _ _ _ _ _ e (jcI q) fun v G' H' x r=>?_;obtain ⟨_,_,rfl,h,r⟩:=r.of_lst;exact ⟨_,rfl,⟨_,.inl h⟩,k _ G' H' x (jer h r)⟩
theorem jsG (h:EOk te fe):IOk (joZ Fr.K te) (jbW fe):=fun G0 H0 G H σ ρ R ds e q k=>by refine h _ _ _ _ _ _ _ _ e (jhg q) fun v G' H' x r=>?_;obtain ⟨_,_,rfl,h,r⟩:=r.of_tup;exact ⟨_,rfl,⟨_,.inl (.inl (x.gh _ _ h))⟩,k _ G' H' x (jk8 h r)⟩
def Qz (fa:L2.Env->Option (List D)):L2.Env->Option (List D):=fun ρ=>match fa ρ with
 | some [.int j]=>if -(2 ^ 62)<=j/\j<2 ^ 62 then some (rng 0 j.toNat) else none
 | _=>none
theorem jo6 (h:jbB ta fa):IOk (jod ta) (Qz fa):=fun G0 H0 G H σ ρ R ds e q k=>by
 unfold Qz at q;split at q
 . rename_i j z;split at q
   . rename_i hb;cases q;refine h _ _ _ _ _ _ _ _ e z fun vs G' H' x r=>?_;cases r with
     | cons r t=>(have hh:=RepT.of_int r;subst hh);cases t;exact ⟨j,rfl,hb.1,hb.2,k _ G' H' x jlS⟩
   . cases q
 . cases q
def ZW (fa:L2.Env->Option (List D)):L2.Env->Option (List D):=fun ρ=>match fa ρ with
 | some [.lst l,.lst m]=>some (jal l m)
 | _=>none
theorem jpc (h:jbB ta fa):jjP (jpZ Fr.K ta) (ZW fa):=fun G0 H0 G H σ ρ R ds e q k=>by
 unfold ZW at q;split at q
 . rename_i l m z;cases q;refine h _ _ _ _ _ _ _ _ e z fun vs G' H' x r=>?_;cases r with
   | cons r t=>cases t with | cons r' t=>cases t;cases r with | lst h1 r1=>cases r' with | lst h2 r2=>exact ⟨_,_,_,_,rfl,.inl h1,.inl h2,k _ G' H' x (jk9 h1 h2 r1 r2)⟩
 . cases q
def Qy (fa:L2.Env->Option (List D)):L2.Env->Option (List D):=fun ρ=>match fa ρ with
 | some [.lst l]=>some (ZQ l)
 | _=>none
theorem jpC (h:AOk ta fa):IOk (jk3 Fr.K ta) (Qy fa):=fun G0 H0 G H σ ρ R ds e q k=>by
 unfold Qy at q;split at q
 . rename_i l z;cases q;refine h _ _ _ _ _ _ _ _ e z fun vs G' H' x r=>?_;cases r with
   | cons r t=>cases t;cases r with | lst h1 r1=>exact ⟨_,_,rfl,.inl (h1.same x.gh),k _ G' H' x (jj1 h1 r1)⟩
 . cases q
end
def JG (m:D->L2.Env->Option L2.Env) (B:FS):List D->FS
 | [],ρ=>.next ρ
 | d::ds,ρ=>match m d ρ with
   | none=>.fail
   | some ρ1=>match B ρ1 with
     | .next ρ2=>JG m B ds ρ2
     | .cnt ρ2=>JG m B ds ρ2
     | .brk ρ2=>.next ρ2
     | .ret d=>.ret d
     | .retO l=>.retO l
     | .fail=>.fail
def zW (fi:L2.Env->Option (List D)) (m:D->L2.Env->Option L2.Env) (B:FS):FS:=fun ρ=>match fi ρ with
 | some ds=>JG m B ds ρ
 | none=>.fail
theorem jsc {wi:TI} {fi:L2.Env->Option (List D)} {g:TG} {m:D->L2.Env->Option L2.Env} {tb:TS} {B:FS} (hi:IOk wi fi) (hg:GOk g m) (hb:SOk tb B):SOk (jrP wi g tb) (zW fi m B):=fun G0 H0 G H σ ρ E e q=>by
 unfold zW at q;split at q
 . rename_i ds z;refine hi _ _ _ _ _ _ _ _ e z fun J G1 H1 x1 it=>?_;refine ⟨fun i n σ' H'=>n=ds.length-i/\i<=ds.length/\∃G' ρ',Same G1 G'/\EnvOk G0 H0 G' H' σ' ρ'/\ResOk G0 H0 G' (JG m B (ds.drop i) ρ') E,⟨_,rfl,ye _,G1,ρ,.refl _,e.grow x1,q.mono x1.gg⟩,?_⟩;rintro i n σ' H' ⟨rfl,hl,G',ρ',s1,e1,q1⟩;obtain ⟨go,stop⟩:=it i G' H' s1 (s1.trans e1.same) e1.same;by_cases hlt:i<ds.length
   . have hd:ds[i]?=some ds[i]:=Ya hlt;obtain ⟨g1,g2⟩:=go _ hd;rw [KB hlt] at q1;simp only [JG] at q1;split at q1
     . exact q1.elim
     . rename_i ρ1 hm;refine .inr ⟨g1,fun σ2 H2=>∃G2 ρ2,Same G1 G2/\EnvOk G0 H0 G2 H2 σ2 ρ2/\ResOk G0 H0 G2 (JG m B (ds.drop (i+1)) ρ2) E,fun σ2 H2 ⟨G2,ρ2,a1,a2,a3⟩=>⟨_,by omega,rfl,hlt,G2,ρ2,a1,a2,a3⟩,fun x H2 y=>?_⟩;obtain ⟨G2,x2,r2⟩:=g2 x H2 y;refine hg _ _ _ _ _ _ _ _ _ _ (e1.grow x2) r2 hm fun σ2 e2=>hb _ _ _ _ _ _ _ e2 ?_;have q2:=q1.mono x2.gg;have s2:=s1.trans x2.gg;cases hB:B ρ1 with
       | next ρ2=>rw [hB] at q2;exact fun G3 H3 σ3 s3 e3=>⟨G3,ρ2,s2.trans s3,e3,q2.mono s3⟩
       | cnt ρ2=>rw [hB] at q2;exact fun G3 H3 σ3 s3 e3=>⟨G3,ρ2,s2.trans s3,e3,q2.mono s3⟩
       | brk ρ2=>rw [hB] at q2;exact q2
       | ret d=>rw [hB] at q2;exact q2
       | retO d=>rw [hB] at q2;exact q2
       | fail=>rw [hB] at q2;exact q2
   . have hd:ds[i]?=none:=Y4.mpr (by omega);rw [KW (by omega)] at q1;exact .inl ⟨stop hd,q1 G' H' σ' (.refl _) e1⟩
 . exact q.elim
def wh (c:L2.Env->Option Bool) (B:FS):Nat->L2.Env->Option Res
 | 0,_=>none
 | n+1,ρ=>match c ρ with
   | none=>some .fail
   | some false=>some (.next ρ)
   | some true=>match B ρ with
     | .next ρ2=>wh c B n ρ2
     | .cnt ρ2=>wh c B n ρ2
     | .brk ρ2=>some (.next ρ2)
     | .ret d=>some (.ret d)
     | .retO l=>some (.retO l)
     | .fail=>some .fail
open Classical in
def Qb (c:L2.Env->Option Bool) (B:FS):FS:=fun ρ=>if h:∃n r,wh c B n ρ=some r then h.choose_spec.choose else .fail
omit [Fr] in
theorem jid {c:L2.Env->Option Bool} {B:FS}:∀{n k:Nat} {ρ:L2.Env} {r:Res},wh c B n ρ=some r->wh c B (n+k) ρ=some r
 | 0,_,_,_,h=>by cases h
 | n+1,k,ρ,r,h=>by
   rw [Nat.add_right_comm];unfold wh at h ⊢;cases hc:c ρ with
   | none=>rw [hc] at h;exact h
   | some b=>
     rw [hc] at h;cases b with
     | false=>exact h
     | true=>
       dsimp only at h ⊢;cases hB:B ρ with
       | next ρ2=>rw [hB] at h;exact jid h
       | cnt ρ2=>rw [hB] at h;exact jid h
       | brk ρ2=>rw [hB] at h;exact h
       | ret d=>rw [hB] at h;exact h
       | retO d=>rw [hB] at h;exact h
       | fail=>rw [hB] at h;exact h
omit [Fr] in
theorem jpB {c:L2.Env->Option Bool} {B:FS} {n k:Nat} {ρ:L2.Env} {r r':Res} (h:wh c B n ρ=some r) (h':wh c B k ρ=some r'):r=r':=by have a:=jid (k:=k) h;have b:=jid (k:=n) h';rw [Nat.add_comm k n,a] at b;exact Option.some.inj b
omit [Fr] in
theorem jen {c:L2.Env->Option Bool} {B:FS} {n:Nat} {ρ:L2.Env} {r:Res} (h:wh c B n ρ=some r):Qb c B ρ=r:=by unfold Qb;have hx:∃n r,wh c B n ρ=some r:=⟨n,r,h⟩;rw [dif_pos hx];exact jpB hx.choose_spec.choose_spec h
theorem jmV {tc:TT} {c:L2.Env->Option Bool} {tb:TS} {B:FS} (hc:TOk tc c) (hb:SOk tb B):SOk (jhD tc tb) (Qb c B):=fun G0 H0 G H σ ρ E e q=>by
 by_cases hx:∃n r,wh c B n ρ=some r
 . obtain ⟨n,r,hr⟩:=hx;rw [jen hr] at q;refine ⟨fun n σ' H'=>∃G' ρ' r,EnvOk G0 H0 G' H' σ' ρ'/\wh c B n ρ'=some r/\ResOk G0 H0 G' r E,⟨n,G,ρ,r,e,hr,q⟩,?_⟩;rintro n σ' H' ⟨G',ρ',r,e1,h1,q1⟩;cases n with
   | zero=>cases h1
   | succ n=>
     unfold wh at h1;split at h1
     . cases h1;exact q1.elim
     . rename_i z;cases h1;exact hc _ _ _ _ _ _ _ _ e1 z fun G2 H2 x=>by rw [if_neg Yi];exact q1 G2 H2 σ' x.gg (e1.grow x)
     . rename_i z;refine hc _ _ _ _ _ _ _ _ e1 z fun G2 H2 x=>?_;rw [if_pos rfl];refine ⟨fun σ2 H2=>∃G' ρ' r,EnvOk G0 H0 G' H2 σ2 ρ'/\wh c B n ρ'=some r/\ResOk G0 H0 G' r E,fun σ2 H2 w=>⟨n,yO n,w⟩,hb _ _ _ _ _ _ _ (e1.grow x) ?_⟩;have q2:=q1.mono x.gg;cases hB:B ρ' with
       | next ρ2=>rw [hB] at h1;exact fun G3 H3 σ3 s3 e3=>⟨G3,ρ2,r,e3,h1,q2.mono s3⟩
       | cnt ρ2=>rw [hB] at h1;exact fun G3 H3 σ3 s3 e3=>⟨G3,ρ2,r,e3,h1,q2.mono s3⟩
       | brk ρ2=>rw [hB] at h1;cases h1;exact q2
       | ret d=>rw [hB] at h1;cases h1;exact q2
       | retO d=>rw [hB] at h1;cases h1;exact q2
       | fail=>rw [hB] at h1;cases h1;exact q2
 . unfold Qb at q;rw [dif_neg hx] at q;exact q.elim
def Ji (n:Nat) (ix:List Nat) (ρ:L2.Env):L2.Env:=List.replicate n .un++ix.map fun k=>match ρ[k]? with
 | some (.sh d)=>.sh d
 | _=>.un
theorem jlB {G0 H0 G H:Hp} {σ:St} {ρ:L2.Env} (n:Nat) (ix:List Nat) (e:EnvOk G0 H0 G H σ ρ):EnvOk G0 H0 G H (JT n σ ix) (Ji n ix ρ):=by
 have key:∀(i:Nat) s,(Ji n ix ρ)[i]?=some s->s=.un\/∃d k,s=.sh d/\n<=i/\ix[i-n]?=some k/\ρ[k]?=some (.sh d):=fun i s h=>by
  unfold Ji at h;rcases Y2 i n with hi | hi
  . rw [YF ‹"as"›,List.getElem?_replicate] at h;simp [hi] at h;exact .inl h.symm
  . rw [YC ‹"as"›,List.length_replicate,List.getElem?_map] at h;cases e1:ix[i-n]? with
    | none=>rw [e1] at h;cases h
    | some k=>
      rw [e1] at h;simp only [Yl,Option.some.injEq] at h;split at h
      . rename_i d hd;exact .inr ⟨d,k,h.symm,hi,rfl,hd⟩
      . exact .inl h.symm
 refine ⟨e.ext,by simp [JT,Ji,capt],fun i o s h1 h2=>?_,fun i j o o' s s' b h1 h2 h3 h4 f f'=>?_⟩
 . rcases key i s h2 with rfl | ⟨d,k,rfl,hi,hk,hd⟩
   . exact .un _
   . obtain ⟨v,hv,r⟩:=e.sh hd;unfold JT at h1;rw [YC ‹"as"›,List.length_replicate] at h1;unfold capt at h1;rw [List.getElem?_map,hk] at h1;simp only [Yl,Option.some.injEq] at h1;rw [hv] at h1;subst h1;exact .sh r
 . rcases key i _ h2 with z | ⟨d,k,z,_⟩
   . subst z;cases o with | none=>exact f.elim | some v=>cases v <;> exact f.elim
   . subst z;cases o with | none=>exact f.elim | some v=>cases v <;> exact f.elim
def Zw (m:D->L2.Env->Option L2.Env) (ft:L2.Env->Option Bool) (fe:L2.Env->Option D) (ρ:L2.Env):List D->Option (List D)
 | []=>some []
 | d::ds=>(m d ρ).bind fun ρ1=>(ft ρ1).bind fun b=>if b then (fe ρ1).bind fun y=>(Zw m ft fe ρ ds).map (y::·) else Zw m ft fe ρ ds
def JV (fi:L2.Env->Option (List D)) (m:D->L2.Env->Option L2.Env) (ft:L2.Env->Option Bool) (fe:L2.Env->Option D) (n:Nat) (ix:List Nat):L2.Env->Option (List D):=fun ρ=>(fi ρ).bind fun ds=>if zI ds.length then Zw m ft fe (Ji n ix ρ) ds else none
theorem jsy {wi:TI} {fi:L2.Env->Option (List D)} {g:TG} {m:D->L2.Env->Option L2.Env} {tt:TT} {ft:L2.Env->Option Bool} {te:TE} {fe:L2.Env->Option D} (n:Nat) (ix:List Nat) (hi:jjP wi fi) (hg:GOk g m) (ht:TOk tt ft) (he:EOk te fe) :
 EOkO (tLC wi g tt te n ix) (JV fi m ft fe n ix):=fun G0 H0 G H σ ρ Q es e q k=>by
 obtain ⟨ds,q1,q2⟩:=bind_some q;split at q2
 . rename_i hz;refine hi _ _ _ _ _ _ _ _ e q1 fun J G1 H1 x1 it=>?_;refine ⟨fun i n' ys H'=>n'=ds.length-i/\i<=ds.length/\ys.length<=i/\∃G' gs hs,Ext G1 H1 G' H'/\Reps G' ys gs/\Zw m ft fe (Ji n ix ρ) (ds.drop i)=some hs/\gs++hs=es,⟨_,rfl,ye _,Yq _,G1,[],es,.refl x1.gh,.nil,q2,rfl⟩,?_⟩;rintro i n' ys H' ⟨rfl,hl,hy,G',gs,hs,x2,r2,hlc,hes⟩;have hz':=ZG hz;obtain ⟨go,stop⟩:=it i G' H' x2.gg x2.hh x2.gh;by_cases hlt:i<ds.length
   . have hd:ds[i]?=some ds[i]:=Ya hlt;obtain ⟨g1,g2⟩:=go _ hd;rw [KB hlt] at hlc;simp only [Zw] at hlc;obtain ⟨ρ1,hm,hlc⟩:=bind_some hlc;obtain ⟨b,hb,hlc⟩:=bind_some hlc;refine .inr ⟨g1,by omega,fun ys' H'=>ys'.length<=i+1/\∃G' gs hs,Ext G1 H1 G' H'/\Reps G' ys' gs/\Zw m ft fe (Ji n ix ρ) (ds.drop (i+1))=some hs/\gs++hs=es,fun ys' H' ⟨a0,a⟩=>⟨_,by omega,rfl,hlt,a0,a⟩,fun x H2 y=>?_⟩;obtain ⟨G2,x3,r3⟩:=g2 x H2 y;have e3:EnvOk G0 H0 G2 H2 (JT n σ ix) (Ji n ix ρ):=(jlB n ix e).grow ‹"ae"›;refine hg _ _ _ _ _ _ _ _ _ _ e3 r3 hm fun σ2 e4=>ht _ _ _ _ _ _ _ _ e4 hb fun G4 H4 x4=>?_;have x24:=(x2.trans x3).trans x4;cases b with
     | false=>rw [if_neg Yi] at hlc ⊢;exact ⟨by omega,G4,gs,hs,x24,r2.mono (x3.trans x4).gg,hlc,hes⟩
     | true=>rw [if_pos rfl] at hlc ⊢;obtain ⟨y',hy',hlc⟩:=bind_some hlc;obtain ⟨hs',hh,hlc⟩:=map_some hlc;subst hlc;refine he _ _ _ _ _ _ _ _ (e4.grow x4) hy' fun v G5 H5 x5 r5=>⟨by simp;omega,G5,gs++[y'],hs',x24.trans x5,((r2.mono ((x3.trans x4).trans x5).gg).snoc r5),hh,by simpa using hes⟩
   . have hd:ds[i]?=none:=Y4.mpr (by omega);rw [KW (by omega)] at hlc;cases hlc;rw [yM] at hes;subst hes;refine .inl ⟨stop hd,by omega,fun p hp=>?_⟩;exact k p ys G' _ ((x1.trans x2).trans (.new x2.gh hp)) ((x1.trans x2).hh.free hp) (x2.gh.free hp) jB r2
 . cases q2
def qI (n:Nat) (ds:List D):L2.Env:=ds.map .sh++List.replicate (n-ds.length) .un
def jex:Res->Option D
 | .ret d=>some d
 | .retO es=>some (.lst es)
 | .next _=>some .non
 | _=>none
def jbn:Res->Option (List D)
 | .retO es=>some es
 | _=>none
def zk (k n:Nat) (F:FS) (ds:List D):Option D:=if ds.length=k then jex (F (qI n ds)) else none
def zO (k n:Nat) (F:FS) (ds:List D):Option (List D):=if ds.length=k then jbn (F (qI n ds)) else none
theorem jit {G H:Hp} {vs:List V} {ds:List D} {k n:Nat} (s:Same G H) (r:Reps G vs ds) (hk:k=n-vs.length):EnvOk G H G H (vs.map some++List.replicate k none) (qI n ds):=by
 have hl:=r.length;refine ⟨.refl s,by simp [qI,hl,hk],fun i o s' h1 h2=>?_,fun i j o o' s s' b h1 h3 _ _ f _=>?_⟩
 . unfold qI at h2;rcases Y2 i ds.length with hi | hi
   . rw [YF ‹"as"›,List.getElem?_map] at h2;rw [YF (by simpa [hl] using hi),List.getElem?_map] at h1;have hd:ds[i]?=some ds[i]:=Ya hi;obtain ⟨v,g1,g2⟩:=r.get hd;rw [g1] at h1;rw [hd] at h2;cases h1;cases h2;exact .sh g2
   . rw [YC ‹"as"›,List.getElem?_replicate] at h2;split at h2
     . cases h2;exact .un _
     . cases h2
 . exfalso;unfold qI at h3;rcases Y2 i ds.length with hi | hi
   . rw [YF ‹"as"›,List.getElem?_map] at h3;have hd:ds[i]?=some ds[i]:=Ya hi;rw [hd] at h3;cases h3;cases o with | none=>exact f.elim | some v=>cases v <;> exact f.elim
   . rw [YC ‹"as"›,List.getElem?_replicate] at h3;split at h3
     . cases h3;cases o with | none=>exact f.elim | some v=>cases v <;> exact f.elim
     . cases h3
theorem jsj {k n:Nat} {F:FS} {vs:List V} {H:Hp} {Q:VK} {E:XK} (q:spS (zk k n F) vs H Q E):vs.length=k:=by
 obtain ⟨G,ds,d,s,r,hf,fin⟩:=q;unfold zk at hf;split at hf
 . rename_i h;rw [r.length];exact h
 . cases hf
theorem jq9 {k n:Nat} {F:FS} {vs:List V} {H:Hp} {Q:VK} {E:XK} (q:spO (zO k n F) vs H Q E):vs.length=k:=by
 obtain ⟨G,ds,d,s,r,hf,fin⟩:=q;unfold zO at hf;split at hf
 . rename_i h;rw [r.length];exact h
 . cases hf
theorem jqP {t:TS} {F:FS} {a n k:Nat} {vs:List V} {H:Hp} {Q:VK} {E:XK} (h:SOk t F) (hk:k=n-vs.length) (q:spS (zk a n F) vs H Q E):t { nx:=fun _ H'=>Q .non H',rt:=Q } (vs.map some++List.replicate k none) H:=by
 obtain ⟨G,ds,d,s,r,hf,fin⟩:=q;refine h G H G H _ _ _ (jit s r hk) ?_;unfold zk at hf;split at hf
 . cases z:F (qI n ds) with
   | next ρ=>rw [z] at hf;cases hf;exact fun G' H' σ _ e=>fin _ G' H' e.ext .non
   | ret d=>rw [z] at hf;cases hf;exact fun G' H' v x r=>fin v G' H' x r
   | retO es=>rw [z] at hf;cases hf;exact fun G' H' a us x hn hg hh r=>fin _ _ H' (x.freeze hn hg hh) (.lst (.inl jB) (r.mono (.upd hg)))
   | brk _=>rw [z] at hf;cases hf
   | cnt _=>rw [z] at hf;cases hf
   | fail=>rw [z] at hf;cases hf
 . cases hf
theorem jp4 {t:TS} {F:FS} {a n k:Nat} {vs:List V} {H:Hp} {Q:VK} {E:XK} (h:SOk t F) (hk:k=n-vs.length) (q:spO (zO a n F) vs H Q E):t { nx:=fun _ H'=>Q .non H',rt:=Q } (vs.map some++List.replicate k none) H:=by
 obtain ⟨G,ds,d,s,r,hf,fin⟩:=q;refine h G H G H _ _ _ (jit s r hk) ?_;unfold zO at hf;split at hf
 . cases z:F (qI n ds) with
   | retO es=>rw [z] at hf;cases hf;exact fun G' H' a us x hn hg hh r=>fin a us G' H' x hn hg hh r
   | _=>rw [z] at hf;cases hf
 . cases hf
end
end L2
namespace L2
open PySem PySem.Spec PyProof.Rows
def Ql:List D->Option (List Int)
 | []=>some []
 | .int i::l=>(Ql l).map (i::·)
 | _=>none
theorem Js:∀ns:List Int,Ql (ns.map D.int)=some ns
 | []=>rfl
 | n::ns=>by simp [Ql,Js ns]
theorem zU:∀{l:List D} {ns:List Int},Ql l=some ns->l=ns.map D.int
 | [],_,h=>by cases h;rfl
 | .int i::l,ns,h=>by obtain ⟨ms,h1,h2⟩:=map_some h;subst h2;rw [zU h1];rfl
 | .bl _::_,_,h=>by cases h
 | .non::_,_,h=>by cases h
 | .str _::_,_,h=>by cases h
 | .lst _::_,_,h=>by cases h
 | .tup _::_,_,h=>by cases h
 | .scr _::_,_,h=>by cases h
def jdF:List D->Option (List Bool)
 | []=>some []
 | .bl i::l=>(jdF l).map (i::·)
 | _=>none
theorem ZT:∀ns:List Bool,jdF (ns.map D.bl)=some ns
 | []=>rfl
 | n::ns=>by simp [jdF,ZT ns]
theorem jbr:∀{l:List D} {ns:List Bool},jdF l=some ns->l=ns.map D.bl
 | [],_,h=>by cases h;rfl
 | .bl i::l,ns,h=>by obtain ⟨ms,h1,h2⟩:=map_some h;subst h2;rw [jbr h1];rfl
 | .int _::_,_,h=>by cases h
 | .non::_,_,h=>by cases h
 | .str _::_,_,h=>by cases h
 | .lst _::_,_,h=>by cases h
 | .tup _::_,_,h=>by cases h
 | .scr _::_,_,h=>by cases h
def jgk:List Int->Option Int
 | []=>none
 | x::l=>match jgk l with
   | none=>some x
   | some y=>some (if y<x then y else x)
def jdt:List Int->Option Int
 | []=>none
 | x::l=>match jdt l with
   | none=>some x
   | some y=>some (if x<y then y else x)
theorem jfw:∀{l:List Int},jgk l=none->l=[]
 | [],_=>rfl
 | x::l,h=>by unfold jgk at h;split at h <;> cases h
theorem jcw:∀{l:List Int},jdt l=none->l=[]
 | [],_=>rfl
 | x::l,h=>by unfold jdt at h;split at h <;> cases h
theorem jeK:∀{l:List Int} {m:Int},jgk l=some m->m∈l/\∀a∈l,m<=a
 | [],_,h=>by cases h
 | x::l,m,h=>by
   unfold jgk at h;split at h
   . rename_i z;cases h;rw [jfw z];simp
   . rename_i y z;cases h;obtain ⟨h1,h2⟩:=jeK z;refine ⟨by split <;> simp [h1],fun a ha=>?_⟩;rcases Yn.mp ha with rfl | ha
     . split <;> omega
     . have:=h2 a ha;split <;> omega
theorem jft:∀{l:List Int} {m:Int},jdt l=some m->m∈l/\∀a∈l,a<=m
 | [],_,h=>by cases h
 | x::l,m,h=>by
   unfold jdt at h;split at h
   . rename_i z;cases h;rw [jcw z];simp
   . rename_i y z;cases h;obtain ⟨h1,h2⟩:=jft z;refine ⟨by split <;> simp [h1],fun a ha=>?_⟩;rcases Yn.mp ha with rfl | ha
     . split <;> omega
     . have:=h2 a ha;split <;> omega
section
variable [Fr]
theorem RepTs.one {G H:Hp} {xs:List V} {d:D} (h:RepTs G H xs [d]):∃v,xs=[v]/\RepT G H v d:=by cases h with | cons r t=>cases t;exact ⟨_,rfl,r⟩
theorem RepTs.two {G H:Hp} {xs:List V} {d e:D} (h:RepTs G H xs [d,e]):∃v u,xs=[v,u]/\RepT G H v d/\RepT G H u e:=by cases h with | cons r t=>cases t with | cons r' t=>cases t;exact ⟨_,_,rfl,r,r'⟩
theorem RepTs.three {G H:Hp} {xs:List V} {d e f:D} (h:RepTs G H xs [d,e,f]):∃v u w,xs=[v,u,w]/\RepT G H v d/\RepT G H u e/\RepT G H w f:=by cases h with | cons r t=>cases t with | cons r' t=>cases t with | cons r2 t=>cases t;exact ⟨_,_,_,rfl,r,r',r2⟩
section
variable {As:TA} {fs:L2.Env->Option (List D)} {ta:TE} {fa:L2.Env->Option D}
def qS:List D->Option D
 | [.lst l]=>some (.int l.length)
 | [.tup l]=>some (.int l.length)
 | [.scr l]=>some (.int l.length)
 | [.str z]=>if z.length<=sizeLine then some (.int z.length) else none
 | _=>none
theorem jkN {ds:List D} {d:D} (q:qS ds=some d):(∃l,ds=[.lst l]/\D.int l.length=d)\/(∃l,ds=[.tup l]/\D.int l.length=d)\/(∃l,ds=[.scr l]/\D.int l.length=d)\/∃z,ds=[.str z]/\z.length<=sizeLine/\D.int z.length=d:=by
 cases ds with
 | nil=>exact qj q
 | cons x t=>
   cases t with
   | cons y t=>cases x <;> exact qj q
   | nil=>
     cases x with
     | lst l=>exact .inl ⟨l,rfl,Option.some.inj q⟩
     | tup l=>exact .inr (.inl ⟨l,rfl,Option.some.inj q⟩)
     | scr l=>exact .inr (.inr (.inl ⟨l,rfl,Option.some.inj q⟩))
     | str z=>
       by_cases c:z.length<=sizeLine
       . exact .inr (.inr (.inr ⟨z,rfl,c,Option.some.inj ((if_pos c).symm.trans q)⟩))
       . exact qj ((if_neg c).symm.trans q)
     | _=>exact qj q
theorem jrE:jdQ (fun xs H Q=>(∃p ys,xs=[.ref p]/\(Jp Fr.K H p ys\/SqT Fr.K H p ys)/\Q (.int ys.length) H)\/∃z,xs=[.str z]/\z.length<=sizeLine/\Q (.int z.length) H) qS:=fun G H xs ds d Q s rr q k=>by
 rcases jkN q with ⟨l,rfl,rfl⟩ | ⟨l,rfl,rfl⟩ | ⟨l,rfl,rfl⟩ | ⟨z,rfl,hz,rfl⟩
 . obtain ⟨v,rfl,r⟩:=rr.one;cases r with | lst h r=>exact .inl ⟨_,_,rfl,.inl (.inl h),by rw [r.length];exact k _ G H (.refl s) (.int _)⟩
 . obtain ⟨v,rfl,r⟩:=rr.one;cases r with | tup h r=>exact .inl ⟨_,_,rfl,.inr (.inl (.inl h)),by rw [r.length];exact k _ G H (.refl s) (.int _)⟩
 . obtain ⟨v,rfl,r⟩:=rr.one;cases r with | scr h=>exact .inl ⟨_,_,rfl,.inl h,by rw [Yd];exact k _ G H (.refl s) (.int _)⟩
 . obtain ⟨v,rfl,r⟩:=rr.one
   (have hh:=RepT.of_str r;subst hh)
   exact .inr ⟨_,rfl,hz,k _ G H (.refl s) (.int _)⟩
def jd7:List D->Option (List D)
 | [.lst l]=>some l
 | [.tup l]=>some l
 | _=>none
theorem jpj:jf2 (fun xs H Q=>∃p ys,xs=[.ref p]/\(Jp Fr.K H p ys\/SqT Fr.K H p ys)/\∀l,H l=none->Q (.ref l) (upd H l (.lst ys))) jd7:=fun G H xs ds d Q s rr q k=>by
 unfold jd7 at q;split at q
 . cases q;obtain ⟨v,rfl,r⟩:=rr.one;cases r with | lst h r=>exact ⟨_,_,rfl,.inl (.inl h),fun l hl=>k l _ G _ (.new s hl) hl (s.free hl) jB r⟩
 . cases q;obtain ⟨v,rfl,r⟩:=rr.one;cases r with | tup h r=>exact ⟨_,_,rfl,.inr (.inl (.inl h)),fun l hl=>k l _ G _ (.new s hl) hl (s.free hl) jB r⟩
 . cases q
def jtz:List D->Option D
 | [.lst l]=>some (.tup l)
 | _=>none
def JB:List D->Option D
 | [.lst l]=>(Ql l).map fun ns=>.int ns.sum
 | _=>none
theorem jrr:jdQ (fun xs H Q=>∃(p:Addr) (ns:List Int),xs=[.ref p]/\Jp Fr.K H p (ns.map V.int)/\Q (.int ns.sum) H) JB:=fun G H xs ds d Q s rr q k=>by
 unfold JB at q;split at q
 . obtain ⟨ns,q1,q2⟩:=map_some q;subst q2;obtain ⟨v,rfl,r⟩:=rr.one;obtain ⟨_,_,rfl,h,r⟩:=r.of_lst;rw [zU q1] at r;rw [r.ints] at h;exact ⟨_,ns,rfl,.inl h,k _ G H (.refl s) (.int _)⟩
 . cases q
def jjc:List D->Option D
 | [.lst l]=>(jdF l).map fun ns=>.bl (ns.all id)
 | _=>none
theorem jr8:jdQ (fun xs H Q=>∃(p:Addr) (ns:List Bool),xs=[.ref p]/\Jp Fr.K H p (ns.map V.bl)/\Q (.bl (ns.all id)) H) jjc:=fun G H xs ds d Q s rr q k=>by
 unfold jjc at q;split at q
 . obtain ⟨ns,q1,q2⟩:=map_some q;subst q2;obtain ⟨v,rfl,r⟩:=rr.one;obtain ⟨_,_,rfl,h,r⟩:=r.of_lst;rw [jbr q1] at r;rw [r.bls] at h;exact ⟨_,ns,rfl,.inl h,k _ G H (.refl s) (.bl _)⟩
 . cases q
def jad:List D->Option D
 | [.int i,.int j]=>some (.int (if j<i then j else i))
 | _=>none
def jd1:List D->Option D
 | [.int i,.int j]=>some (.int (if j>i then j else i))
 | _=>none
theorem jph:jdQ (fun xs H Q=>∃i j,xs=[.int i,.int j]/\Q (.int (if j<i then j else i)) H) jad:=fun G H xs ds d Q s rr q k=>by
 unfold jad at q;split at q
 . cases q;obtain ⟨v,u,rfl,r,r'⟩:=rr.two
   (have hh:=RepT.of_int r;subst hh)
   (have hh:=RepT.of_int r';subst hh)
   exact ⟨_,_,rfl,k _ G H (.refl s) (.int _)⟩
 . cases q
theorem jpi:jdQ (fun xs H Q=>∃i j,xs=[.int i,.int j]/\Q (.int (if j>i then j else i)) H) jd1:=fun G H xs ds d Q s rr q k=>by
 unfold jd1 at q;split at q
 . cases q;obtain ⟨v,u,rfl,r,r'⟩:=rr.two
   (have hh:=RepT.of_int r;subst hh)
   (have hh:=RepT.of_int r';subst hh)
   exact ⟨_,_,rfl,k _ G H (.refl s) (.int _)⟩
 . cases q
def jdp (i j k:Int):Int:=if k<(if j<i then j else i) then k else if j<i then j else i
def jbJ:List D->Option D
 | [.int i,.int j,.int k]=>some (.int (jdp i j k))
 | _=>none
theorem jqR:jdQ (fun xs H Q=>∃i j k,xs=[.int i,.int j,.int k]/\Q (.int (jdp i j k)) H) jbJ:=fun G H xs ds d Q s rr q k=>by
 unfold jbJ at q;split at q
 . cases q;obtain ⟨v,u,w,rfl,r,r',r2⟩:=rr.three
   (have hh:=RepT.of_int r;subst hh)
   (have hh:=RepT.of_int r';subst hh)
   (have hh:=RepT.of_int r2;subst hh)
   exact ⟨_,_,_,rfl,k _ G H (.refl s) (.int _)⟩
 . cases q
def jgt:List D->Option D
 | [.lst l]=>(Ql l).bind fun ns=>(jgk ns).map .int
 | _=>none
theorem jpo:jdQ (fun xs H Q=>∃(p:Addr) (ns:List Int),xs=[.ref p]/\Jp Fr.K H p (ns.map V.int)/\0<ns.length/\∀M,M∈ns->(∀a∈ns,M<=a)->Q (.int M) H) jgt:=fun G H xs ds d Q s rr q k=>by
 unfold jgt at q;split at q
 . obtain ⟨ns,q1,q2⟩:=bind_some q;obtain ⟨m,q4,q3⟩:=map_some q2;subst q3;obtain ⟨v,rfl,r⟩:=rr.one;obtain ⟨m1,m2⟩:=jeK q4;obtain ⟨_,_,rfl,h,r⟩:=r.of_lst;rw [zU q1] at r;rw [r.ints] at h;refine ⟨_,ns,rfl,.inl h,List.length_pos_of_mem m1,fun M h1 h2=>?_⟩;have e:M=m:=by have:=h2 m m1;have:=m2 M h1;omega
   subst e;exact k _ G H (.refl s) (.int _)
 . cases q
def jo4:List D->Option D
 | [.int i]=>some (.int i)
 | [.bl b]=>some (.int (if b then 1 else 0))
 | _=>none
theorem jsw:jdQ (fun xs H Q=>(∃i,xs=[.int i]/\Q (.int i) H)\/∃k,xs=[.bl k]/\Q (.int (if k then 1 else 0)) H) jo4:=fun G H xs ds d Q s rr q k=>by
 unfold jo4 at q;split at q
 . cases q;obtain ⟨v,rfl,r⟩:=rr.one
   (have hh:=RepT.of_int r;subst hh)
   exact .inl ⟨_,rfl,k _ G H (.refl s) (.int _)⟩
 . cases q;obtain ⟨v,rfl,r⟩:=rr.one
   (have hh:=RepT.of_bl r;subst hh)
   exact .inr ⟨_,rfl,k _ G H (.refl s) (.int _)⟩
 . cases q
def vOf:D->V
 | .int i=>.int i
 | .bl b=>.bl b
 | .str z=>.str z
 | _=>.non
theorem RepT.v {G H:Hp} {v:V} {d:D} (r:RepT G H v d) (f:Jj d=true):v=vOf d:=by cases r <;> first | rfl | cases f
theorem Rep.v {G:Hp} {v:V} {d:D} (r:Rep G v d) (f:Jj d=true):v=vOf d:=by cases r <;> first | rfl | cases f
theorem ja8 {d:D} (f:Jj d=true):jgn (vOf d)=true:=by cases d <;> first | rfl | cases f
def jcO (xs:List D) (lo hi:Option Int):List D:=(xs.drop (HT.sIx xs.length 0 lo)).take ‹"aQ"›
def POk (t:TO) (f:L2.Env->Option (Option Int)):Prop:=∀G0 H0 G H σ ρ (Q:Option Int->Hp->Prop) b,EnvOk G0 H0 G H σ ρ->f ρ=some b->(∀G' H',Ext G H G' H'->Q b H')->t σ H Q
def pNo:L2.Env->Option (Option Int):=fun _=>some none
def pSo (fa:L2.Env->Option D):L2.Env->Option (Option Int):=fun ρ=>match fa ρ with
 | some (.int i)=>some (some i)
 | _=>none
theorem jsU:POk jh6 pNo:=fun G0 H0 G H σ ρ Q b e q k=>by cases q;exact k G H (.refl e.same)
theorem jtb (h:zG ta fa):POk (joc ta) (pSo fa):=fun G0 H0 G H σ ρ Q b e q k=>by
 unfold pSo at q;split at q
 . rename_i i z;cases q;refine h _ _ _ _ _ _ _ _ e z fun v G' H' x r=>?_
   (have hh:=RepT.of_int r;subst hh)
   exact ⟨_,rfl,k G' H' x⟩
 . cases q
def eSl (fa:L2.Env->Option D) (fl fh:L2.Env->Option (Option Int)):L2.Env->Option (List D):=fun ρ=>match fa ρ,fl ρ,fh ρ with
 | some (.lst l),some lo,some hi=>some (jcO l lo hi)
 | some (.scr ns),some lo,some hi=>some (jcO (ns.map .int) lo hi)
 | _,_,_=>none
theorem js4 {tl th:TO} {fl fh:L2.Env->Option (Option Int)} (h:zG ta fa) (hl:POk tl fl) (hh:POk th fh):EOkO (tSl (jpI Fr.K) ta tl th) (eSl fa fl fh):=fun G0 H0 G H σ ρ Q ds e q k=>by
 unfold eSl at q;split at q
 . rename_i l lo hi z1 z2 z3;cases q;refine h _ _ _ _ _ _ _ _ e z1 fun v G1 H1 x1 r=>hl _ _ _ _ _ _ _ _ (e.grow x1) z2 fun G2 H2 x2=>hh _ _ _ _ _ _ _ _ ((e.grow x1).grow x2) z3 fun G3 H3 x3=>?_;obtain ⟨_,_,rfl,h,r⟩:=r.of_lst;have x:=(x1.trans x2).trans x3;have r3:=r.mono (x2.trans x3).gg;refine ⟨_,_,rfl,.inl (h.same (x2.trans x3).hh),fun p hp=>k p _ G3 _ (x.trans (.new x3.gh hp)) (x.hh.free hp) (x3.gh.free hp) jB ?_⟩;unfold jjv jcO;rw [r.length];exact (r3.drop _).take _
 . rename_i ns lo hi z1 z2 z3;cases q;refine h _ _ _ _ _ _ _ _ e z1 fun v G1 H1 x1 r=>hl _ _ _ _ _ _ _ _ (e.grow x1) z2 fun G2 H2 x2=>hh _ _ _ _ _ _ _ _ ((e.grow x1).grow x2) z3 fun G3 H3 x3=>?_;obtain ⟨_,rfl,h⟩:=r.of_scr;have x:=(x1.trans x2).trans x3;refine ⟨_,_,rfl,(x2.trans x3).hh.seq h,fun p hp=>k p _ G3 _ (x.trans (.new x3.gh hp)) (x.hh.free hp) (x3.gh.free hp) jB ?_⟩;unfold jjv jcO;rw [Yd,Yd];exact ((Reps.of_ints ns).drop _).take _
 . cases q
def isD (T:String):D->Option Bool
 | .int _=>some (T == "int")
 | .bl _=>some (T == "bool" || T == "int")
 | .non=>some false
 | .str _=>some (T == "str")
 | .lst _=>some (T == "list")
 | .tup _=>some (T == "tuple")
 | .scr _=>none
 | .dic _ _=>none
def jkj (T:String) (fa:L2.Env->Option D):L2.Env->Option D:=fun ρ=>(fa ρ).bind fun d=>(isD T d).map .bl
def eLZ (fs:L2.Env->Option (List D)):L2.Env->Option (List D):=fun ρ=>match fs ρ with
 | some [.lst l,.lst m]=>if zI l.length then some (jal l m) else none
 | _=>none
theorem jte (h:jbB As fs):EOkO (jcR Fr.K As) (eLZ fs):=fun G0 H0 G H σ ρ Q ds e q k=>by
 unfold eLZ at q;split at q
 . rename_i l m z;split at q
   . rename_i hz;cases q;refine h _ _ _ _ _ _ _ _ e z fun vs G1 H1 x1 rr=>?_;obtain ⟨v,u,rfl,r1,r2⟩:=rr.two;cases r1 with
     | @lst a vs l h1 r1=>
       cases r2 with
       | @lst b us m h2 r2=>
         refine ⟨a,b,vs,us,rfl,.inl h1,.inl h2,by rw [r1.length];exact ZG hz,fun c ts H' hc hts hcn hnd hlen hoth hcl htup=>?_⟩;have G2:∃G2:Hp,G2=fun x=>if x∈ts then H' x else G1 x:=⟨_,rfl⟩
         obtain ⟨G2,eG2⟩:=G2;have inT:∀x,x∈ts->G2 x=H' x:=fun x hx=>by rw [eG2];exact if_pos hx
         have outT:∀x,x∉ts->G2 x=G1 x:=fun x hx=>by rw [eG2];exact if_neg hx
         have sG:Same G1 G2:=fun x o w=>by rw [outT x fun z=>by have:=hts x z;rw [x1.gh x o w] at this;cases this];exact w
         have sH:Same H1 H':=fun x o w=>by rw [hoth x (jH w hc) fun z=>by have:=hts x z;rw [w] at this;cases this];exact w
         have x2:Ext G1 H1 G2 H':=⟨sH,sG,fun x o w=>by
          by_cases hx:x∈ts
          . rw [inT x hx] at w;exact w
          . rw [outT x hx] at w;exact sH x o (x1.gh x o w),fun x o w=>by
          by_cases hx:x∈ts
          . exact .inr (hts x hx)
          . rw [outT x hx] at w;exact .inl w⟩
         have gc:G2 c=none:=by rw [outT c hcn];exact x1.gh.free hc
         refine k c _ G2 H' (x1.trans x2) (x1.hh.free hc) gc hcl ?_;have len:(ts.map V.ref).length=(jal l m).length:=by simp [jal,hlen,r1.length,r2.length]
         have build:∀(vs:List V) (ds:List D),vs.length=ds.length->(∀(i:Nat) v d,vs[i]?=some v->ds[i]?=some d->Rep G2 v d)->Reps G2 vs ds:=by
          intro vs;induction vs with
          | nil=>intro ds hl _;cases ds with | nil=>exact .nil | cons _ _=>simp at hl
          | cons v vs ih=>
            intro ds hl hh;cases ds with
            | nil=>simp at hl
            | cons d ds=>exact .cons (hh 0 v d rfl rfl) ‹"aP"›
         refine build _ _ len fun i v d g1 g2=>?_;rw [List.getElem?_map] at g1;cases et:ts[i]? with
         | none=>rw [et] at g1;cases g1
         | some t=>
           rw [et] at g1;cases g1;unfold jal at g2;rw [List.getElem?_map] at g2;cases ep:(l.zip m)[i]? with
           | none=>rw [ep] at g2;cases g2
           | some p=>rw [ep] at g2;cases g2;obtain ⟨w1,w2⟩:=YQ.mp ep;obtain ⟨v1,y1,y2⟩:=r1.get w1;obtain ⟨v2,y3,y4⟩:=r2.get w2;have ht:=htup i t v1 v2 et y1 y3;exact .tup (by rw [inT t (YB et)];exact ht) (.cons (y2.mono sG) (.cons (y4.mono sG) .nil))
   . cases q
 . cases q
end
def eqB (x y:D):Option Bool:=if Jj x=true then (if Jj y=true then some (eqV (vOf x) (vOf y)) else none) else none
def jcm (f:D->D->Option Bool):List D->List D->Option Bool
 | x::l,y::m=>(f x y).bind fun b=>(jcm f l m).map (b && ·)
 | _,_=>some true
def eqF:Nat->D->D->Option Bool
 | n+1,.lst l,.lst m=>if l.length=m.length then jcm (eqF n) l m else some false
 | n+1,.tup l,.tup m=>(jcm (eqF n) l m).map (· && l.length == m.length)
 | _,x,y=>eqB x y
def jd8 (x y:D):Option Bool:=if Jj x && Jj y then (if jqH (vOf x) (vOf y) then some (decide (vOf x=vOf y)) else none) else eqF 40 x y
def jg5:R2:=fun x y H Q=>∃G dx dy b,Same G H/\RepT G H x dx/\RepT G H y dy/\jd8 dx dy=some b/\Q (.bl b) H
def jhw:R2:=fun x y H Q=>∃G dx dy b,Same G H/\RepT G H x dx/\RepT G H y dy/\jd8 dx dy=some b/\Q (.bl (!b)) H
def dEq:D->D->Option D:=fun x y=>(jd8 x y).map .bl
def dNe:D->D->Option D:=fun x y=>(jd8 x y).map fun b=>.bl (!b)
theorem jsV:ROk jg5 dEq:=fun G H x y dx dy d Q s rx ry q k=>by obtain ⟨b,q1,q2⟩:=map_some q;subst q2;exact ⟨G,dx,dy,b,s,rx,ry,q1,k _ G H (.refl s) (.bl _)⟩
theorem jtq:ROk jhw dNe:=fun G H x y dx dy d Q s rx ry q k=>by obtain ⟨b,q1,q2⟩:=map_some q;subst q2;exact ⟨G,dx,dy,b,s,rx,ry,q1,k _ G H (.refl s) (.bl _)⟩
def joL:R2:=fun x y H Q=>∃l b xs zs,x=.ref l/\y=.ref b/\Rd H l (.lst xs)/\Rd H b (.lst zs)/\xs.length+zs.length<=sizeLine/\∀p,H p=none->Q (.ref p) (upd H p (.lst (xs++zs)))
def jdM:D->D->Option (List D)
 | .lst l,.lst m=>if l.length+m.length<=sizeLine then some (l++m) else none
 | _,_=>none
theorem jsh:jqf joL jdM:=fun G H x y dx dy d Q s rx ry q k=>by
 unfold jdM at q;split at q
 . split at q
   . rename_i hz;cases q;obtain ⟨_,_,rfl,h,r⟩:=rx.of_lst;obtain ⟨_,_,rfl,h',r'⟩:=ry.of_lst;exact ⟨_,_,_,_,rfl,rfl,h,h',by rw [r.length,r'.length];exact hz,fun p hp=>k p _ G _ (.new s hp) hp (s.free hp) jB (r.append r')⟩
   . cases q
 . cases q
end
end L2
namespace L2
open PySem PySem.Spec PyProof.Rows
section
variable {es:List Expr} {env:PySem.Env} {p:Pos}
end
section
variable {X:Cx}
theorem jjr:CallR X (.builtin "len") (fun xs H Q=>(∃p ys,xs=[.ref p] ∧ (Jp X.K H p ys ∨ SqT X.K H p ys) ∧ Q (.int ys.length) H) ∨ ∃z,xs=[.str z] ∧ z.length ≤ sizeLine ∧ Q (.int z.length) H):=call_len_seq.or jfe
theorem jmX:OpR X (binaryOp .Add) joL:=by
 intro pins s σ H x y v u Q I rx ry h;obtain ⟨l,b,xs,zs,rfl,rfl,hH,hB,hz,q⟩:=h;cases rx;cases ry;obtain ⟨z,its,n,r,e⟩:=hH.ok I.hok;obtain ⟨z2,its2,n2,r2,e2⟩:=hB.ok I.hok;have hl:=r.length;have hl2:=r2.length;refine PySem.P.add_list e e2 ?_ (by rw [YI,YI];omega);have ea:its.toArray++its2.toArray=(its++its2).toArray:=by simp
 rw [ea];exact ⟨.ref _,_,I.lnew (t':=s.toks) (r.append r2) (by rw [YR];omega),rfl,q _ I.fresh⟩
theorem jjy (hc:X.calm=true):CallR X (.builtin "min") (fun xs H Q=>∃i j k,xs=[.int i,.int j,.int k] ∧ Q (.int (jdp i j k)) H):=by
 intro pins s σ H xs us Q I r h;obtain ⟨i,j,k,rfl,q⟩:=h;cases r with
 | cons r1 r=>
   cases r with
   | cons r2 r=>
     cases r with
     | cons r3 r=>
       cases r;obtain ⟨t1,rfl⟩:=r1;obtain ⟨t2,rfl⟩:=r2;obtain ⟨t3,rfl⟩:=r3;refine min_three_ints (I.ok.hd hc) fun h' tk kk=>⟨_,H,I.kept kk,?_,q⟩;unfold jdp;by_cases h1:j<i
       . rw [if_pos h1,if_pos h1];by_cases h2:k<j
         . rw [if_pos h2,if_pos h2];exact ⟨_,rfl⟩
         . rw [if_neg h2,if_neg h2];exact ⟨_,rfl⟩
       . rw [if_neg h1,if_neg h1];by_cases h2:k<i
         . rw [if_pos h2,if_pos h2];exact ⟨_,rfl⟩
         . rw [if_neg h2,if_neg h2];exact ⟨_,rfl⟩
end
def jhH (k:Int):List Int->List Int
 | []=>[k]
 | x::l=>if k<=x then k::x::l else x::jhH k l
def Q9 (l:List Int):List Int:=l.foldr jhH []
theorem jbk (k:Int):∀l:List Int,(jhH k l).Perm (k::l)
 | []=>.refl _
 | x::l=>by
   unfold jhH;split
   . exact .refl _
   . exact ((jbk k l).cons x).trans (.swap k x l)
theorem QU:∀l:List Int,(Q9 l).Perm l
 | []=>.refl _
 | x::l=>(jbk x (Q9 l)).trans ((QU l).cons x)
theorem jbQ {k:Int}:∀{l:List Int},l.Pairwise (· <= ·)->(jhH k l).Pairwise (· <= ·)
 | [],_=>by simp [jhH]
 | x::l,h=>by
   have h':=Yx.mp h;unfold jhH;split
   . rename_i hk;refine Yx.mpr ⟨fun y hy=>?_,h⟩;rcases Yn.mp hy with rfl | hy
     . exact hk
     . exact Km hk (h'.1 y hy)
   . rename_i hk;refine Yx.mpr ⟨fun y hy=>?_,jbQ h'.2⟩;rcases Yn.mp ((jbk k l).mem_iff.mp hy) with rfl | hy
     . omega
     . exact h'.1 y hy
theorem JC:∀l:List Int,(Q9 l).Pairwise (· <= ·)
 | []=>by simp [Q9]
 | x::l=>jbQ (JC l)
theorem jdm:∀{l m:List Int},l.Pairwise (· <= ·)->m.Pairwise (· <= ·)->l.Perm m->l=m
 | [],m,_,_,h=>(List.nil_perm.mp h).symm ▸ rfl
 | x::l,[],_,_,h=>absurd h.length_eq (by simp)
 | x::l,y::m,h1,h2,h=>by
   have p1:=Yx.mp h1;have p2:=Yx.mp h2;have e:x=y:=by
     rcases Yn.mp (h.mem_iff.mp Ye) with z | z
     . exact z
     . rcases Yn.mp (h.mem_iff.mpr Ye) with z' | z'
       . exact z'.symm
       . have:=p2.1 x z;have:=p1.1 y z';omega
   subst e;rw [jdm p1.2 p2.2 ((List.perm_cons x).mp h)]
theorem jmB {l m:List Int} (h:m.Perm l) (hs:m.Pairwise (· <= ·)):m=Q9 l:=jdm hs (JC l) (h.trans (QU l).symm)
section
variable {X:Cx}
theorem jhe (hc:X.calm=true):CallR X (.builtin "sorted") (fun xs H Q=>∃(p:Addr) (ns:List Int),xs=[.ref p] ∧ Jp X.K H p (ns.map V.int) ∧ ns.length<64 ∧ ∀l,H l=none → Q (.ref l) (upd H l (.lst ((Q9 ns).map V.int)))):=by
 intro pins s σ H xs us Q I r h;obtain ⟨p,ns,rfl,hq,hl,q⟩:=h;obtain ⟨u,rfl,rx⟩:=Vals.one r;cases rx;obtain ⟨its,rv,pl,hz⟩:=I.list hq;have hi:IntsAre its ns:=Qj rv;have hlen:its.length=ns.length:=by have:=rv.length;rw [Yd] at this;exact this.symm
 refine sorted_ints pl.isList hi (by omega) fun out ks q1 q2 q3=>?_;have ek:ks=Q9 ns:=jmB q2 q3;subst ek;have hn:H (s.heap.objs.size+1)=none:=I.hok.fresh (KG _);obtain ⟨e,he⟩:=sortedAll_at s.heap its out;refine ⟨.ref (s.heap.objs.size+1),upd H (s.heap.objs.size+1) (.lst ((Q9 ns).map V.int)),?_,rfl,q _ hn⟩;refine I.laid (t':=s.toks) (fun b o e=>sortedAll_old e) (KG _) ⟨?_,out.toList,e,jbt q1,by simpa using he⟩;have:=(QU ns).length_eq;rw [Yd];exact YW (by omega:(Q9 ns).length<=64) (by decide)
end
section
variable [Fr]
def jfY:List D->Option (List D)
 | [.lst l]=>(Ql l).bind fun ns=>if ns.length<64 then some ((Q9 ns).map .int) else none
 | _=>none
theorem jqn:jf2 (fun xs H Q=>∃(p:Addr) (ns:List Int),xs=[.ref p]/\Jp Fr.K H p (ns.map V.int)/\ns.length<64/\∀l,H l=none->Q (.ref l) (upd H l (.lst ((Q9 ns).map V.int)))) jfY:=fun G H xs ds es Q s rr q k=>by
 unfold jfY at q;split at q
 . obtain ⟨ns,q1,q2⟩:=bind_some q;split at q2
   . rename_i hz;cases q2;obtain ⟨v,rfl,r⟩:=rr.one;obtain ⟨_,_,rfl,h,r⟩:=r.of_lst;rw [zU q1] at r;rw [r.ints] at h;exact ⟨_,ns,rfl,.inl h,hz,fun l hl=>k l _ G _ (.new s hl) hl (s.free hl) jB (Reps.of_ints _)⟩
   . cases q2
 . cases q
def jgA (fs:L2.Env->Option (List D)):L2.Env->Option (List D):=fun ρ=>match fs ρ with
 | some [.lst l]=>(Ql l).bind fun ns=>if ns.length<64 then some ((srt ns).map .int) else none
 | _=>none
theorem jpF {X:Cx} {As:TA} {fs:L2.Env->Option (List D)} (ha:jbB As fs):EOkO (tCB (fun xs H Q=>∃(a:Addr) (ns:List Int),xs=[.ref a]/\H a=some (je1 X a ns)/\ns.length<64 /\
 ∀(l:Addr) (ks:List Int),H l=none->ks.Pairwise (· < ·)->(∀k,k∈ks ↔ k∈ns)->ks.length<=ns.length->Q (.ref l) (upd H l (.lst (ks.map V.int))))
 (jcM (tCB (fun xs H Q=>∃(p:Addr) (ns:List Int),xs=[.ref p]/\Jp Fr.K H p (ns.map V.int)/\ns.length<64/\∀a,H a=none->Q (.ref a) (upd H a (je1 X a ns))) As) jjF)) (jgA fs):=fun G0 H0 G H σ ρ Q es e q k=>by
 unfold jgA at q;split at q
 . rename_i l z;obtain ⟨ns,q1,q2⟩:=bind_some q;split at q2
   . rename_i hz;cases q2;refine ha _ _ _ _ _ _ _ _ e z fun vs G1 H1 x1 rr=>?_;obtain ⟨v,rfl,r⟩:=rr.one;obtain ⟨_,_,rfl,h,r⟩:=r.of_lst;rw [zU q1] at r;rw [r.ints] at h;refine ⟨_,ns,rfl,.inl h,hz,fun a ha'=>?_⟩;have x2:Ext G1 H1 G1 (upd H1 a (je1 X a ns)):=.new x1.gh ha';refine ⟨a,ns,rfl,jB,hz,fun l ks hl hp hm hn=>?_⟩;have ek:ks=srt ns:=jav hp Zk fun j=>by rw [hm j,jcg]
     subst ek;exact k l _ G1 _ ((x1.trans x2).trans (.new x2.gh hl)) ((x1.trans x2).hh.free hl) (x2.gh.free hl) jB (Reps.of_ints _)
   . cases q2
 . cases q
def okT (T:String):Bool:=T == "int" || T == "bool" || T == "str" || T == "list" || T == "tuple"
theorem jm2 {G H:Hp} {x:V} {d:D} {T:String} {b:Bool} (r:RepT G H x d) (q:isD T d=some b) (hT:okT T=true):IsT Fr.K H x T b:=by
 have hT':T = "int" ∨ T="bool" ∨ T="str" ∨ T="list" ∨ T="tuple":=by simpa [okT,or_assoc] using hT
 cases r with
 | int i=>rcases hT' with rfl | rfl | rfl | rfl | rfl <;> (simp [isD] at q;subst q;exact ⟨_,.int i,by rfl⟩)
 | bl i=>rcases hT' with rfl | rfl | rfl | rfl | rfl <;> (simp [isD] at q;subst q;exact ⟨_,.bl i,by rfl⟩)
 | non=>rcases hT' with rfl | rfl | rfl | rfl | rfl <;> (simp [isD] at q;subst q;exact ⟨_,.non,by rfl⟩)
 | str i=>rcases hT' with rfl | rfl | rfl | rfl | rfl <;> (simp [isD] at q;subst q;exact ⟨_,.str i,by rfl⟩)
 | lst h r=>
   rcases h with h | ⟨o,h⟩
   . rcases hT' with rfl | rfl | rfl | rfl | rfl <;> (simp [isD] at q;subst q;exact ⟨_,.lst h,by rfl⟩)
   . rcases hT' with rfl | rfl | rfl | rfl | rfl <;> (simp [isD] at q;subst q;exact ⟨_,.frz h,by rfl⟩)
 | tup h r=>rcases hT' with rfl | rfl | rfl | rfl | rfl <;> (simp [isD] at q;subst q;exact ⟨_,.tup h,by rfl⟩)
 | scr h=>cases q
 | dic h hl r=>cases q
theorem jrG {T:String} {ta:TE} {fa:L2.Env->Option D} (ha:zG ta fa) (hT:okT T=true):EOk (tCB (fun xs H Q=>∃x T b,xs=[x,.ty T]/\IsT Fr.K H x T b/\Q (.bl b) H) (jcM ta (jcM (tC (.ty T)) jjF))) (jkj T fa):=fun G0 H0 G H σ ρ Q d e q k=>by obtain ⟨dx,q1,q2⟩:=bind_some q;obtain ⟨b,q4,q3⟩:=map_some q2;subst q3;exact ha _ _ _ _ _ _ _ _ e q1 fun v G' H' x r=>⟨v,T,b,rfl,jm2 r q4 hT,k _ G' H' x (.bl _)⟩
end
section
variable [Fr]
theorem jgL {v:V} (f:jgn v=true):eqV v v=true:=by cases v <;> first | rfl | exact absurd f Yi | simp [eqV]
theorem ZI {x y:D} {b:Bool} (h:eqB x y=some b):Jj x=true/\Jj y=true/\b=eqV (vOf x) (vOf y):=by
 unfold eqB at h;by_cases f1:Jj x=true
 . by_cases f2:Jj y=true
   . rw [if_pos f1,if_pos f2] at h;exact ⟨f1,f2,(Option.some.inj h).symm⟩
   . rw [if_pos f1,if_neg f2] at h;exact qj h
 . rw [if_neg f1] at h;exact qj h
theorem jcf {n:Nat} {dx dy:D} {b:Bool} (h:eqF (n+1) dx dy=some b):(∃l m,dx=.lst l/\dy=.lst m/\(if l.length=m.length then jcm (eqF n) l m else some false)=some b)\/(∃l m,dx=.tup l/\dy=.tup m/\(jcm (eqF n) l m).map (· && l.length == m.length)=some b)\/eqB dx dy=some b:=by
 cases dx with
 | lst l=>
   cases dy with
   | lst m=>exact .inl ⟨l,m,rfl,rfl,h⟩
   | _=>exact qj h
 | tup l=>
   cases dy with
   | tup m=>exact .inr (.inl ⟨l,m,rfl,rfl,h⟩)
   | _=>exact qj h
 | _=>exact .inr (.inr h)
theorem jaJ {f:D->D->Option Bool}:∀{l m:List D} {b:Bool},jcm f l m=some b->∃e:Nat->Bool,(∀(j:Nat) x y,l[j]?=some x->m[j]?=some y->f x y=some (e j))/\(List.range (min l.length m.length)).all e=b:=by
 intro l;induction l with
 | nil=>intro m b h;cases h;exact ⟨fun _=>true,fun j x y h1 _=>(by rw [Kw] at h1;cases h1),by rw [ya,Nat.zero_min];rfl⟩
 | cons x l ih=>
   intro m b h;cases m with
   | nil=>cases h;exact ⟨fun _=>true,fun j x y _ h2=>(by rw [Kw] at h2;cases h2),by rw [ya,Nat.min_zero];rfl⟩
   | cons y m=>
     obtain ⟨c,h1,h2⟩:=bind_some h;obtain ⟨c',h3,h4⟩:=map_some h2;obtain ⟨e,he,hb⟩:=ih h3;refine ⟨fun j=>Nat.casesOn j c e,fun j u v g1 g2=>?_,?_⟩
     . cases j with
       | zero=>cases g1;cases g2;exact h1
       | succ j=>exact he j u v g1 g2
     . rw [<-h4,<- hb];simp only [YA,Nat.add_min_add_right,KU,List.all_cons,List.all_map];rfl
end
section
variable {X:Cx} {pins:List (Addr×Obj)} {σ:St} {H G:Hp} {s:Shared}
theorem jiM [Fr] (hK:Fr.K=X.K) (I:Inv X pins σ H s) (sg:Same G H):∀(n:Nat) {v:V} {dx dy:D} {b:Bool},Rep G v dx->Rep G v dy->eqF n dx dy=some b->b=true:=by
 intro n;induction n with
 | zero=>intro v dx dy b rx ry h;obtain ⟨f1,f2,rfl⟩:=ZI (show eqB dx dy=some b from h);rw [<-rx.v f1,<- ry.v f2];exact jgL (by rw [rx.v f1];exact ja8 f1)
 | succ n ih=>
   have zz:∀{vs:List V} {l m:List D} {b:Bool},Reps G vs l->Reps G vs m->jcm (eqF n) l m=some b->b=true:=by
    intro vs;induction vs with
    | nil=>intro l m b r1 r2 h;cases r1;cases r2;cases h;rfl
    | cons v vs ihv=>
      intro l m b r1 r2 h;cases r1 with
      | cons a1 t1=>
        cases r2 with
        | cons a2 t2=>obtain ⟨c,h1,h2⟩:=bind_some h;obtain ⟨c',h3,h4⟩:=map_some h2;rw [ih a1 a2 h1,ihv t1 t2 h3] at h4;exact h4.symm
   intro v dx dy b rx ry h;rcases jcf h with ⟨l,m,rfl,rfl,q⟩ | ⟨l,m,rfl,rfl,q⟩ | q
   . obtain ⟨_,_,rfl,h1,r1⟩:=rx.of_lst;obtain ⟨_,_,e0,h2,r2⟩:=ry.of_lst;cases e0;have e:=I.list_inj (.inl (h1.same sg)) (.inl (h2.same sg));subst e;rw [if_pos (show l.length=m.length by rw [<-r1.length,<- r2.length])] at q;exact zz r1 r2 q
   . obtain ⟨_,_,rfl,h1,r1⟩:=rx.of_tup;obtain ⟨_,_,e0,h2,r2⟩:=ry.of_tup;cases e0;rw [h1] at h2;cases h2;have hl:l.length=m.length:=by rw [<-r1.length,<- r2.length]
     obtain ⟨c,h3,h4⟩:=map_some q;rw [zz r1 r2 h3,hl] at h4;simpa using h4.symm
   . obtain ⟨f1,f2,rfl⟩:=ZI q;rw [<-rx.v f1,<- ry.v f2];exact jgL (by rw [rx.v f1];exact ja8 f1)
theorem jiD [Fr] {x y:V} {dx dy:D} {b:Bool} {u v:Value} {A:Around} (rx:Rep G x dx) (ry:Rep G y dy) (h:eqB dx dy=some b) (ru:RelV x u) (rv:RelV y v):SeqAt.EqAt A s u v b:=by obtain ⟨f1,f2,rfl⟩:=ZI h;rw [<-rx.v f1,<- ry.v f2];exact jfr ru rv (by rw [rx.v f1];exact ja8 f1) (by rw [ry.v f2];exact ja8 f2)
theorem jaH [Fr] {vs us:List V} {l m:List D} {i1 i2:List Value} {e:Nat->Bool} {A:Around} {n:Nat} (r1:Reps G vs l) (r2:Reps G us m) (v1:Vals vs i1) (v2:Vals us i2)
 (he:∀(j:Nat) x y,l[j]?=some x->m[j]?=some y->eqF n x y=some (e j))
 (ih:∀{x y:V} {dx dy:D} {b:Bool} {u v:Value},Rep G x dx->Rep G y dy->eqF n dx dy=some b->RelV x u->RelV y v->SeqAt.EqAt A s u v b) :
 ∀j (h1:j<i1.toArray.size) (h2:j<i2.toArray.size),SeqAt.EqAt A s i1.toArray[j] i2.toArray[j] (e j):=fun j h1 h2=>by
 have l1:=v1.length;have l2:=v2.length;have hj1:j<vs.length:=by simp at h1;omega
 have hj2:j<us.length:=by simp at h2;omega
 obtain ⟨u1,g1,g2⟩:=v1.get (Ya hj1);obtain ⟨u2,g3,g4⟩:=v2.get (Ya hj2);obtain ⟨d1,k1,k2⟩:=r1.getV (Ya hj1);obtain ⟨d2,k3,k4⟩:=r2.getV (Ya hj2);have e1:i1.toArray[j]=u1:=by have:=Ym.mp g1;simpa using this.2
 have e2:i2.toArray[j]=u2:=by have:=Ym.mp g3;simpa using this.2
 rw [e1,e2];exact ih k2 k4 (he j _ _ k1 k3) g2 g4
theorem jgq [Fr] (hK:Fr.K=X.K) (I:Inv X pins σ H s) {a c:Addr} {vs us:List V} {l m:List D} {b:Bool} {n:Nat} {A:Around} (h1:Rd H a (.lst vs)) (h2:Rd H c (.lst us)) (r1:Reps G vs l) (r2:Reps G us m) (h:(if l.length=m.length then jcm (eqF n) l m else some false)=some b) (hu:A.units<cLine)
 (ih:∀{x y:V} {dx dy:D} {b:Bool} {u v:Value},Rep G x dx->Rep G y dy->eqF n dx dy=some b->RelV x u->RelV y v->SeqAt.EqAt A.in1 s u v b):SeqAt.RcAt A s (.ref a) (.ref c) b:=by
 obtain ⟨i1,v1,p1,_⟩:=I.list (.inl h1);obtain ⟨i2,v2,p2,_⟩:=I.list (.inl h2);have l1:=v1.length;have l2:=v2.length;have k1:=r1.length;have k2:=r2.length;split at h
 . rename_i hl;obtain ⟨e,he,hb⟩:=jaJ h;have hb':(List.range i1.toArray.size).all e=b:=by rw [<-hb,<- hl,kE,YI,<- l1,k1]
   rw [<-hb'];exact SeqAt.RcAt.lists p1.isList p2.isList (by simp;omega) hu (jaH r1 r2 v1 v2 he ih)
 . rename_i hl;cases h;exact SeqAt.RcAt.lists_lengths p1.isList p2.isList (by simp;omega) hu
theorem jiJ [Fr] (hK:Fr.K=X.K) (I:Inv X pins σ H s) {a c:Addr} {vs us:List V} {l m:List D} {b:Bool} {n:Nat} {A:Around} (h1:H a=some (.tup vs)) (h2:H c=some (.tup us)) (r1:Reps G vs l) (r2:Reps G us m) (h:(jcm (eqF n) l m).map (· && l.length == m.length)=some b) (hu:A.units<cLine)
 (ih:∀{x y:V} {dx dy:D} {b:Bool} {u v:Value},Rep G x dx->Rep G y dy->eqF n dx dy=some b->RelV x u->RelV y v->SeqAt.EqAt A.in1 s u v b):SeqAt.RcAt A s (.ref a) (.ref c) b:=by
 obtain ⟨i1,v1,p1,_⟩:=I.tuple (SqT.of h1);obtain ⟨i2,v2,p2,_⟩:=I.tuple (SqT.of h2);have l1:=v1.length;have l2:=v2.length;have k1:=r1.length;have k2:=r2.length;obtain ⟨c,h3,h4⟩:=map_some h;obtain ⟨e,he,hb⟩:=jaJ h3;have q1:i1.toArray.size=l.length:=by simp;omega
 have q2:i2.toArray.size=m.length:=by simp;omega
 have hb':‹"aS"›=b:=by rw [q1,q2,hb];exact h4
 rw [<-hb'];exact SeqAt.RcAt.tuples (show s.heap.IsTuple a i1.toArray from p1) (show s.heap.IsTuple _ i2.toArray from p2) hu (jaH r1 r2 v1 v2 he ih)
theorem joI [Fr] (hK:Fr.K=X.K) (I:Inv X pins σ H s) (sg:Same G H):∀(n:Nat) {x y:V} {dx dy:D} {b:Bool} {u v:Value} {A:Around},Rep G x dx->Rep G y dy->eqF n dx dy=some b->RelV x u->RelV y v->A.units+n<cLine->SeqAt.EqAt A s u v b:=by
 intro n;induction n with
 | zero=>intro x y dx dy b u v A rx ry h ru rv _;exact jiD rx ry (show eqB dx dy=some b from h) ru rv
 | succ n ih=>
   intro x y dx dy b u v A rx ry h ru rv hu;have hu1:A.units<cLine:=by omega
   have ih':∀{x y:V} {dx dy:D} {b:Bool} {u v:Value},Rep G x dx->Rep G y dy->eqF n dx dy=some b->RelV x u->RelV y v->SeqAt.EqAt A.in1 s u v b:=fun r1 r2 h ru rv=>ih r1 r2 h ru rv (by show A.units+1+n<cLine;omega);rcases jcf h with ⟨l,m,rfl,rfl,q⟩ | ⟨l,m,rfl,rfl,q⟩ | q
   . cases rx with
     | @lst a vs _ h1 r1=>
       cases ry with
       | @lst c us _ h2 r2=>
         cases ru;cases rv;by_cases hac:a=c
         . subst hac;rw [jiM hK I sg (n+1) (.lst h1 r1) (.lst h2 r2) h];exact SeqAt.EqAt.same _
         . exact SeqAt.EqAt.of_refs hac (jgq hK I (h1.same sg) (h2.same sg) r1 r2 q hu1 ih')
   . cases rx with
     | @tup a vs _ h1 r1=>
       cases ry with
       | @tup c us _ h2 r2=>
         cases ru;cases rv;by_cases hac:a=c
         . subst hac;rw [jiM hK I sg (n+1) (.tup h1 r1) (.tup h2 r2) h];exact SeqAt.EqAt.same _
         . exact SeqAt.EqAt.of_refs hac (jiJ hK I (sg _ _ h1) (sg _ _ h2) r1 r2 q hu1 ih')
   . exact jiD rx ry q ru rv
end
section
variable {X:Cx}
theorem jpe [Fr] (hK:Fr.K=X.K) {pins:List (Addr×Obj)} {σ:St} {H G:Hp} {s:Shared} (hu:X.A.units+64<cLine) (I:Inv X pins σ H s) (sg:Same G H) {x y:V} {dx dy:D} {b:Bool} {u v:Value} (rx:RepT G H x dx) (ry:RepT G H y dy) (h:eqF 40 dx dy=some b)
 (hf:(Jj dx && Jj dy)=false) (ru:RelV x u) (rv:RelV y v):SeqAt.RcAt X.A s u v b:=by
 have ih:∀{x y:V} {dx dy:D} {b:Bool} {u v:Value},Rep G x dx->Rep G y dy->eqF 39 dx dy=some b->RelV x u->RelV y v->SeqAt.EqAt X.A.in1 s u v b:=fun r1 r2 h ru rv=>joI hK I sg 39 r1 r2 h ru rv (by show X.A.units+1+39<cLine;omega);rcases jcf (n:=39) h with ⟨l,m,rfl,rfl,q⟩ | ⟨l,m,rfl,rfl,q⟩ | q
 . obtain ⟨_,_,rfl,h1,r1⟩:=rx.of_lst;obtain ⟨_,_,rfl,h2,r2⟩:=ry.of_lst;cases ru;cases rv;exact jgq hK I h1 h2 r1 r2 q (by omega) ih
 . obtain ⟨_,_,rfl,h1,r1⟩:=rx.of_tup;obtain ⟨_,_,rfl,h2,r2⟩:=ry.of_tup;cases ru;cases rv;exact jiJ hK I h1 h2 r1 r2 q (by omega) ih
 . obtain ⟨f1,f2,_⟩:=ZI q;rw [f1,f2] at hf;exact absurd hf Bool.noConfusion
theorem jke [Fr] (hK:Fr.K=X.K) (I:Inv X pins σ H s) {a c:Addr} {vs us:List V} {l m:List D} {b:Bool} {n:Nat} {A:Around} (h1:Rd H a (.lst vs)) (h2:Rd H c (.lst us)) (r1:Reps G vs l) (r2:Reps G us m) (h:(if l.length=m.length then jcm (eqF n) l m else some false)=some b) (hu:A.units<cLine)
 (ih:∀{x y:V} {dx dy:D} {b:Bool} {u v:Value},Rep G x dx->Rep G y dy->eqF n dx dy=some b->RelV x u->RelV y v->SeqAt.EqAt A.in1 s u v b):SeqAt.RcNeAt A s (.ref a) (.ref c) (!b):=by
 obtain ⟨i1,v1,p1,_⟩:=I.list (.inl h1);obtain ⟨i2,v2,p2,_⟩:=I.list (.inl h2);have l1:=v1.length;have l2:=v2.length;have k1:=r1.length;have k2:=r2.length;split at h
 . rename_i hl;obtain ⟨e,he,hb⟩:=jaJ h;have hb':(List.range i1.toArray.size).all e=b:=by rw [<-hb,<- hl,kE,YI,<- l1,k1]
   rw [<-hb'];exact SeqAt.RcNeAt.lists p1.isList p2.isList (by simp;omega) hu (jaH r1 r2 v1 v2 he ih)
 . rename_i hl;cases h;exact SeqAt.RcNeAt.lists_lengths p1.isList p2.isList (by simp;omega) hu
theorem jkA [Fr] (hK:Fr.K=X.K) (I:Inv X pins σ H s) {a c:Addr} {vs us:List V} {l m:List D} {b:Bool} {n:Nat} {A:Around} (h1:H a=some (.tup vs)) (h2:H c=some (.tup us)) (r1:Reps G vs l) (r2:Reps G us m) (h:(jcm (eqF n) l m).map (· && l.length == m.length)=some b) (hu:A.units<cLine)
 (ih:∀{x y:V} {dx dy:D} {b:Bool} {u v:Value},Rep G x dx->Rep G y dy->eqF n dx dy=some b->RelV x u->RelV y v->SeqAt.EqAt A.in1 s u v b):SeqAt.RcNeAt A s (.ref a) (.ref c) (!b):=by
 obtain ⟨i1,v1,p1,_⟩:=I.tuple (SqT.of h1);obtain ⟨i2,v2,p2,_⟩:=I.tuple (SqT.of h2);have l1:=v1.length;have l2:=v2.length;have k1:=r1.length;have k2:=r2.length;obtain ⟨c,h3,h4⟩:=map_some h;obtain ⟨e,he,hb⟩:=jaJ h3;have q1:i1.toArray.size=l.length:=by simp;omega
 have q2:i2.toArray.size=m.length:=by simp;omega
 have hb':‹"aS"›=b:=by rw [q1,q2,hb];exact h4
 rw [<-hb'];exact SeqAt.RcNeAt.tuples (show s.heap.IsTuple a i1.toArray from p1) (show s.heap.IsTuple _ i2.toArray from p2) hu (jaH r1 r2 v1 v2 he ih)
theorem jmO [Fr] (hK:Fr.K=X.K) {pins:List (Addr×Obj)} {σ:St} {H G:Hp} {s:Shared} (hu:X.A.units+64<cLine) (I:Inv X pins σ H s) (sg:Same G H) {x y:V} {dx dy:D} {b:Bool} {u v:Value} (rx:RepT G H x dx) (ry:RepT G H y dy) (h:eqF 40 dx dy=some b)
 (hf:(Jj dx && Jj dy)=false) (ru:RelV x u) (rv:RelV y v):SeqAt.RcNeAt X.A s u v (!b):=by
 have ih:∀{x y:V} {dx dy:D} {b:Bool} {u v:Value},Rep G x dx->Rep G y dy->eqF 39 dx dy=some b->RelV x u->RelV y v->SeqAt.EqAt X.A.in1 s u v b:=fun r1 r2 h ru rv=>joI hK I sg 39 r1 r2 h ru rv (by show X.A.units+1+39<cLine;omega);rcases jcf (n:=39) h with ⟨l,m,rfl,rfl,q⟩ | ⟨l,m,rfl,rfl,q⟩ | q
 . obtain ⟨_,_,rfl,h1,r1⟩:=rx.of_lst;obtain ⟨_,_,rfl,h2,r2⟩:=ry.of_lst;cases ru;cases rv;exact jke hK I h1 h2 r1 r2 q (by omega) ih
 . obtain ⟨_,_,rfl,h1,r1⟩:=rx.of_tup;obtain ⟨_,_,rfl,h2,r2⟩:=ry.of_tup;cases ru;cases rv;exact jkA hK I h1 h2 r1 r2 q (by omega) ih
 . obtain ⟨f1,f2,_⟩:=ZI q;rw [f1,f2] at hf;exact absurd hf Bool.noConfusion
theorem jmi (hu:X.A.units+64<cLine):OpR X (compareOp .Eq) (@jg5 ⟨X.K⟩):=by
 intro pins s σ H x y v u Q I rx ry h;obtain ⟨G,dx,dy,b,sg,r1,r2,he,q⟩:=h;unfold jd8 at he;split at he
 . rename_i hf;simp only [KD] at hf;split at he
   . rename_i hs;cases he;have e1:=@RepT.v ⟨X.K⟩ _ _ _ _ r1 hf.1;have e2:=@RepT.v ⟨X.K⟩ _ _ _ _ r2 hf.2;rw [<-e1,<- e2] at q hs;exact jsl pins s σ H x y v u Q I rx ry ⟨hs,q⟩
   . cases he
 . rename_i hf;exact @jpe X ⟨X.K⟩ rfl _ _ _ _ _ hu I sg _ _ _ _ _ _ _ r1 r2 he (by simpa using hf) rx ry X.prog X.w _ _ ⟨.bl b,H,I,rfl,q⟩
theorem jkD (hu:X.A.units+64<cLine):OpR X (compareOp .NotEq) (@jhw ⟨X.K⟩):=by
 intro pins s σ H x y v u Q I rx ry h;obtain ⟨G,dx,dy,b,sg,r1,r2,he,q⟩:=h;unfold jd8 at he;split at he
 . rename_i hf;simp only [KD] at hf;split at he
   . rename_i hs;cases he;have e1:=@RepT.v ⟨X.K⟩ _ _ _ _ r1 hf.1;have e2:=@RepT.v ⟨X.K⟩ _ _ _ _ r2 hf.2;rw [<-e1,<- e2] at q hs;exact jst pins s σ H x y v u Q I rx ry ⟨hs,q⟩
   . cases he
 . rename_i hf;exact @jmO X ⟨X.K⟩ rfl _ _ _ _ _ hu I sg _ _ _ _ _ _ _ r1 r2 he (by simpa using hf) rx ry X.prog X.w _ _ ⟨.bl (!b),H,I,rfl,q⟩
end
def LcOk (sc:Scope) (N:List Str) (scope:Scope) (F:List Str) (ix:List Nat):Prop:=
 scope.kind=.function/\(∀x∈scope.names,x.2=.local->scope.names.lookup x.1=some .local)/\(∀y∈scope.names,y.2=.cell->scope.names.lookup y.1=some .cell) /\
 (∀y∈scope.names,y.2=.free->sc.names.lookup y.1=some .cell\/sc.names.lookup y.1=some .free)/\ix.length=F.length /\
 (∀p∈F.zip ix,N[p.2]?=some p.1/\(sc.names.lookup p.1=some .cell\/sc.names.lookup p.1=some .free)/\scope.names.lookup p.1=some .free)
instance (sc:Scope) (N:List Str) (scope:Scope) (F:List Str) (ix:List Nat):Decidable (LcOk sc N scope F ix):=by unfold LcOk;infer_instance
section
variable {X:Cx} {tg iter elt:Expr} {ifs:List Expr} {scope:Scope} {pos:Pos} {wi:TI} {g:TG} {tt:TT} {te:TE} {Lc F N:List Str} {ix:List Nat} {sc:Scope}
theorem LcOk.free (ok:LcOk sc N scope F ix) (hsc:X.env.scope=sc):∀n,(n,NameKind.free)∈scope.names->X.env.scope.names.lookup n=some .cell\/X.env.scope.names.lookup n=some .free:=fun n hn=>by rw [hsc];exact ok.2.2.2.1 (n,.free) hn rfl
theorem LcOk.capt (ok:LcOk sc N scope F ix) (hsc:X.env.scope=sc) (hN:X.N=N):∀(j:Nat) (x:Str) (k:Nat),F[j]?=some x->ix[j]?=some k->X.N[k]?=some x/\(X.env.scope.names.lookup x=some .cell\/X.env.scope.names.lookup x=some .free)/\scope.names.lookup x=some .free:=fun j x k h1 h2=>by rw [hsc,hN];exact ok.2.2.2.2.2 (x,k) (YB (i:=j) (YQ.mpr ⟨h1,h2⟩))
theorem joT (hsc:X.env.scope=sc) (hN:X.N=N) (hc:X.calm=true) (ok:LcOk sc N scope F ix)
 (hi:PI X tg iter wi) (hg:∀C s H fp,PG ‹"e"› tg g) (hloc:jg9 Lc.length g) (ht:∀C s H fp,PTs ‹"e"› ifs tt) (he:∀C s H fp,PE ‹"e"› elt te)
 (hs:autoParam ‹"Y"› QA.a3._auto_1):PE X ‹"o"› (tLC wi g tt te Lc.length ix):=
 jr6 hc ok.1 ok.2.1 ok.2.2.1 (ok.free hsc) ok.2.2.2.2.1 (ok.capt hsc hN) hi hg hloc ht he hs
theorem jdd {i:Nat} {y:Str} {py spos:Pos} (hNd:X.N.Nodup) (hy:X.N[i]?=some y) (hyl:X.env.scope.names.lookup y=some .local) (hsc:X.env.scope=sc) (hN:X.N=N) (hc:X.calm=true) (ok:LcOk sc N scope F ix)
 (hi:PI X tg iter wi) (hg:∀C s H fp,PG ‹"e"› tg g) (hloc:jg9 Lc.length g) (ht:∀C s H fp,PTs ‹"e"› ifs tt) (he:∀C s H fp,PE ‹"e"› elt te)
 (hsw:swapsWith ‹"o"› (some (.Name y py)) spos.line X.env=pure true)
 (hs:autoParam ‹"Y"› QA.a3._auto_1):PS X (.Assign [.Name y py] ‹"o"› spos) (jdK (tLC wi g tt te Lc.length ix) (jaf i)):=
 jjl hNd hy hyl hc ok.1 ok.2.1 ok.2.2.1 (ok.free hsc) ok.2.2.2.2.1 (ok.capt hsc hN) hi hg hloc ht he hsw hs
end
end L2
namespace L2
open PySem PySem.Spec PyProof.Rows
section
variable {i j:Int} {F F':FS} {ρ ρ':L2.Env} {r:Res}
theorem QN (h:F ρ=.next ρ') (h':F' ρ'=r):jy F F' ρ=r:=by unfold jy;rw [h];exact h'
theorem j1:qL (.int i) (.int j)=some (.int (i+j)):=rfl
theorem qN:zD (.int i) (.int j)=some (.int (i-j)):=rfl
theorem jaE (h1:-18446744073709551616<i) (h2:i<18446744073709551616):zd (.int i) (.int j)=some (.int (i*j)):=by unfold zd dI;simp only;rw [if_pos];exact .inl (.inl ⟨by omega,by omega⟩)
theorem Zh (h1:-18446744073709551616<j) (h2:j<18446744073709551616):zd (.int i) (.int j)=some (.int (i*j)):=by unfold zd dI;simp only;rw [if_pos];exact .inl (.inr ⟨by omega,by omega⟩)
theorem jqG (h1:i.natAbs<2 ^ 400) (h2:j.natAbs<2 ^ 400):zd (.int i) (.int j)=some (.int (i*j)):=by unfold zd dI;simp only;rw [if_pos];exact .inr ⟨h1,h2⟩
theorem zc (h1:0<j) (h2:j<1606938044258990275541962092341162602522202993782792835301376):JA (.int i) (.int j)=some (.int (i/j)):=by unfold JA dI;simp only;rw [if_pos];exact ⟨h1,by show j<2 ^ 200;omega⟩
theorem jZ (h1:0<j):qC (.int i) (.int j)=some (.int (i%j)):=by unfold qC dI;simp only;rw [if_pos];exact h1
theorem jfi (h:jgp i j):jba (.int i) (.int j)=some (.int (i ^ j.toNat)):=by unfold jba dI;simp only;rw [if_pos h]
theorem joi:jba (.int 10) (.int 5)=some (.int 100000):=by rw [jfi (by unfold jgp;omega)];rfl
theorem jrd:jba (.int 10) (.int 9)=some (.int 1000000000):=by rw [jfi (by unfold jgp;omega)];rfl
theorem jpz:jba (.int 10) (.int 15)=some (.int 1000000000000000):=by rw [jfi (by unfold jgp;omega)];rfl
theorem Zd:dLt (.int i) (.int j)=some (.bl (decide (i<j))):=rfl
theorem jhY:dLe (.int i) (.int j)=some (.bl (decide (i<=j))):=rfl
theorem jfm:dGt (.int i) (.int j)=some (.bl (decide (j<i))):=rfl
theorem jlz:dGe (.int i) (.int j)=some (.bl (decide (j<=i))):=rfl
theorem jl4:decide (V.int i=V.int j)=decide (i=j):=by
 by_cases q:i=j
 . subst q;simp
 . have:¬V.int i=V.int j:=fun z=>q (by injection z);simp [q,this]
theorem joV:dEq (.int i) (.int j)=some (.bl (decide (i=j))):=by show some (D.bl (decide (V.int i=V.int j)))=_;rw [jl4]
theorem jsZ:dNe (.int i) (.int j)=some (.bl (!decide (i=j))):=by show some (D.bl (!decide (V.int i=V.int j)))=_;rw [jl4]
theorem jtm {a b:Bool}:dEq (.bl a) (.bl b)=some (.bl (decide (a=b))):=by cases a <;> cases b <;> rfl
theorem jrI {ds:List D} {i:Int} (h0:0<=i) (h1:i<ds.length):∃m,m∈ds/\jO (.lst ds) (.int i)=some m:=by
 have hi:i.toNat<ds.length:=by omega
 refine ⟨ds[i.toNat],Kr hi,?_⟩;show atI ds i=_;unfold atI ixN;rw [if_pos h0,if_pos h1];simp [hi]
theorem jan {ds:List D} {i:Int} {d:D} (h0:0<=i) (h:ds[i.toNat]?=some d):jO (.lst ds) (.int i)=some d:=by have hi:i.toNat<ds.length:=(Ym.mp h).1;show atI ds i=_;unfold atI ixN;rw [if_pos h0,if_pos (by omega)];simpa using h
theorem jV {n:Nat} (h:n<16777216):zI n=true:=YO h
theorem QF {a:D} {l:List D}:jO (.tup (a::l)) (.int 0)=some a:=by show atI (a::l) 0=_;unfold atI ixN;rw [if_pos (by decide),if_pos (by simp only [YA];omega)];rfl
theorem Qg {a b:D} {l:List D}:jO (.tup (a::b::l)) (.int 1)=some b:=by show atI (a::b::l) 1=_;unfold atI ixN;rw [if_pos (by decide),if_pos (by simp only [YA];omega)];rfl
theorem jbz {a b c:D} {l:List D}:jO (.tup (a::b::c::l)) (.int 2)=some c:=by show atI (a::b::c::l) 2=_;unfold atI ixN;rw [if_pos (by decide),if_pos (by simp only [YA];omega)];rfl
theorem jfl {a b c d:D} {l:List D}:jO (.tup (a::b::c::d::l)) (.int 3)=some d:=by show atI (a::b::c::d::l) 3=_;unfold atI ixN;rw [if_pos (by decide),if_pos (by simp only [YA];omega)];rfl
theorem jkP {a:D} {l:List D}:jO (.lst (a::l)) (.int 0)=some a:=by show atI (a::l) 0=_;unfold atI ixN;rw [if_pos (by decide),if_pos (by simp only [YA];omega)];rfl
end
end L2
namespace L2
open PySem PySem.Spec PyProof.Rows
structure Fm where
 ι:Type
 X:ι->Cx
 K:PySem.W.Frag
 N:List Str
 hK:∀i,(X i).K=K
 hN:∀i,(X i).N=N
 calm:∀i,(X i).calm=true
abbrev Fm.fr (M:Fm):Fr:=⟨M.K⟩
structure WE (M:Fm) (e:Expr) (f:L2.Env->Option D):Prop where
 h:∃t,(∀i,PE (M.X i) e t)/\@EOk M.fr t f
structure WT (M:Fm) (e:Expr) (f:L2.Env->Option D):Prop where
 h:∃t,(∀i,PE (M.X i) e t)/\@zG M.fr t f
structure WO (M:Fm) (e:Expr) (f:L2.Env->Option (List D)):Prop where
 h:∃t,(∀i,PE (M.X i) e t)/\@EOkO M.fr t f
structure WC (M:Fm) (e:Expr) (f:L2.Env->Option Bool):Prop where
 h:∃t,(∀i,PT (M.X i) e t)/\@TOk M.fr t f
structure WW (M:Fm) (e:Expr) (f:L2.Env->Option Bool):Prop where
 h:∃t,(∀i,PW (M.X i) e t)/\@TOk M.fr t f
structure WTs (M:Fm) (e:List Expr) (f:L2.Env->Option Bool):Prop where
 h:∃t,(∀i,PTs (M.X i) e t)/\@TOk M.fr t f
structure WA (M:Fm) (e:List Expr) (f:L2.Env->Option (List D)):Prop where
 h:∃t,(∀i,PA (M.X i) e t)/\@AOk M.fr t f
structure WAT (M:Fm) (e:List Expr) (f:L2.Env->Option (List D)):Prop where
 h:∃t,(∀i,PA (M.X i) e t)/\@jbB M.fr t f
structure WP (M:Fm) (e:Option Expr) (f:L2.Env->Option (Option Int)):Prop where
 h:∃t,(∀i,PO (M.X i) e t)/\@POk M.fr t f
structure WI (M:Fm) (tg e:Expr) (f:L2.Env->Option (List D)):Prop where
 h:∃t,(∀i,PI (M.X i) tg e t)/\@IOk M.fr t f
structure WIT (M:Fm) (tg e:Expr) (f:L2.Env->Option (List D)):Prop where
 h:∃t,(∀i,PI (M.X i) tg e t)/\@jjP M.fr t f
structure WG (M:Fm) (tg:Expr) (m:D->L2.Env->Option L2.Env):Prop where
 h:∃t,(∀i,PG (M.X i) tg t)/\@GOk M.fr t m
structure WGs (M:Fm) (tg:List Expr) (m:List D->L2.Env->Option L2.Env):Prop where
 h:∃t,(∀i,PGs (M.X i) tg t)/\@ji9 M.fr t m
structure WL (M:Fm) (n:Nat) (tg:Expr) (m:D->L2.Env->Option L2.Env):Prop where
 h:∃t,(∀i,PG (M.X i) tg t)/\@GOk M.fr t m/\jg9 n t
structure WS (M:Fm) (st:Stmt) (F:FS):Prop where
 h:∃t,(∀i,PS (M.X i) st t)/\@SOk M.fr t F
structure WSs (M:Fm) (st:List Stmt) (F:FS):Prop where
 h:∃t,(∀i,PSs (M.X i) st t)/\@SOk M.fr t F
def qd:Expr->Bool
 | .Starred _ _=>true
 | _=>false
theorem qf {e:Expr} {es:List Expr} {env:PySem.Env} (h:qd e=false):starEach (e::es) env=(false,eval e env)::starEach es env:=by cases e <;> first | rfl | cases h
theorem JK {pos:Pos} {env:PySem.Env}:∀{es:List Expr},(es.all fun e=>!qd e)=true->(backTo pos (starEach es env)).any (·.1)=false
 | [],_=>rfl
 | e::es,h=>by simp only [List.all_cons,KD,Bool.not_eq_true'] at h;rw [qf h.1];show (false || (backTo pos (starEach es env)).any (·.1))=false;rw [JK h.2];rfl
section
variable {M:Fm} {a b c e o:Expr} {es:List Expr} {fa fb fc fe:L2.Env->Option D} {fo:L2.Env->Option (List D)} {fs:L2.Env->Option (List D)} {ga gb:L2.Env->Option Bool} {pos p apos cpos:Pos} {x:Str}
theorem WO.toE (h:WO M e fo):WE M e (jM fo):=let ⟨t,h1,h2⟩:=h.h;⟨t,h1,@EOkO.e M.fr _ _ h2⟩
theorem WE.toT (h:WE M e fe):WT M e fe:=let ⟨t,h1,h2⟩:=h.h;⟨t,h1,@EOk.t M.fr _ _ h2⟩
theorem jo (i:Nat) (hN:autoParam (M.N[i]?=some x) QA.a4._auto_1) (hv:autoParam (∀j,Vis (M.X j).env.scope x) QA.a7._auto_1) (hd:autoParam ‹"i"› QA.a1._auto_1)
 (hcd:autoParam ‹"al"› QA.a1._auto_1):WE M (.Name x pos) (jq i):=⟨_,fun j=>ZO (by rw [M.hN j];exact hN) (hv j) hd hcd,@jq2 M.fr i⟩
theorem jb (i:Nat) (hN:autoParam (M.N[i]?=some x) QA.a4._auto_1) (hv:autoParam (∀j,Vis (M.X j).env.scope x) QA.a7._auto_1) (hd:autoParam ‹"i"› QA.a1._auto_1)
 (hcd:autoParam ‹"al"› QA.a1._auto_1):WT M (.Name x pos) (ja i):=⟨_,fun j=>ZO (by rw [M.hN j];exact hN) (hv j) hd hcd,@jp1 M.fr i⟩
theorem qy {i:Int} {t:Tok} (hg:∀j,Gl (M.X j) x) (hm:∀j,(M.X j).mg x=some (.int i t)) (hd:autoParam ‹"i"› QA.a1._auto_1):WE M (.Name x pos) (eC (.int i)):=⟨_,fun j=>jnp (hg j) (hm j) hd,@jov M.fr i⟩
theorem ju {i:Int} {k:Nat}:WE M (.Constant (.int i) k pos) (eC (.int i)):=⟨_,fun _=>jqL,@jov M.fr i⟩
theorem jhU {i:Bool} {k:Nat}:WE M (.Constant (.bool i) k pos) (eC (.bl i)):=⟨_,fun _=>jrg,@jtg M.fr i⟩
theorem jkU {k:Nat}:WE M (.Constant .none k pos) (eC .non):=⟨_,fun _=>jqx,@jrK M.fr⟩
theorem jej {op:Operator} {r:R2} {f:D->D->Option D} (ho:∀j,OpR (M.X j) (binaryOp op) r) (hr:@ROk M.fr r f) (ha:WT M a fa) (hb:WT M b fb):WE M (.BinOp a op b pos) (jk f fa fb):=let ⟨_,h1,h2⟩:=ha.h;let ⟨_,k1,k2⟩:=hb.h;⟨_,fun j=>jkp (ho j) (h1 j) (k1 j),@jnt M.fr _ _ _ _ _ _ hr h2 k2⟩
theorem zj (ha:WT M a fa) (hb:WT M b fb):WE M (.BinOp a .Add b pos) (jk qL fa fb):=jej (fun _=>jpk) (@jsC M.fr) ha hb
theorem Jh (ha:WT M a fa) (hb:WT M b fb):WE M (.BinOp a .Sub b pos) (jk zD fa fb):=jej (fun _=>jp0) (@jr1 M.fr) ha hb
theorem Jl (ha:WT M a fa) (hb:WT M b fb):WE M (.BinOp a .Mult b pos) (jk zd fa fb):=jej (fun _=>jng) (@jrQ M.fr) ha hb
theorem Q1 (ha:WT M a fa) (hb:WT M b fb):WE M (.BinOp a .FloorDiv b pos) (jk JA fa fb):=jej (fun _=>jl8) (@jrX M.fr) ha hb
theorem zr (ha:WT M a fa) (hb:WT M b fb):WE M (.BinOp a .Mod b pos) (jk qC fa fb):=jej (fun _=>jpL) (@jra M.fr) ha hb
theorem jig (ha:WT M a fa) (hb:WT M b fb):WE M (.BinOp a .Pow b pos) (jk jba fa fb):=jej (fun _=>jqq) (@jrR M.fr) ha hb
theorem jlX (ha:WT M a fa) (hb:WT M b fb):WO M (.BinOp a .Add b pos) (jk jdM fa fb):=let ⟨_,h1,h2⟩:=ha.h;let ⟨_,k1,k2⟩:=hb.h;⟨_,fun j=>jkp jmX (h1 j) (k1 j),@joO M.fr _ _ _ _ _ _ (@jsh M.fr) h2 k2⟩
theorem jsF (ha:WT M a fa):WE M (.UnaryOp .USub a pos) (jlK fa):=let ⟨_,h1,h2⟩:=ha.h;⟨_,fun j=>jrw jpu (h1 j),@jrJ M.fr _ _ h2⟩
theorem w_not (ha:WT M a fa):WE M (.UnaryOp .Not a pos) (jnU fa):=let ⟨_,h1,h2⟩:=ha.h;⟨_,fun j=>jpd (h1 j),@jsp M.fr _ _ h2⟩
theorem jP (ha:WT M a fa) (hb:WT M b fb) (hs:autoParam (jeQ b) QA.a8._auto_1):WE M (.Subscript a b pos) (jk jO fa fb):=let ⟨_,h1,h2⟩:=ha.h;let ⟨_,k1,k2⟩:=hb.h;⟨_,fun j=>joy (r:=rIx M.K) (by rw [<-M.hK j];exact jld) (h1 j) (k1 j) hs,@jnt M.fr _ _ _ _ _ _ (@jtp M.fr) h2 k2⟩
structure WCmp (M:Fm) (op:CmpOp) (f:D->D->Option D):Prop where
 h:∃r,(∀j,OpR (M.X j) (compareOp op) r)/\@ROk M.fr r f
theorem jfn:WCmp M .Lt dLt:=⟨_,fun _=>jrh,@jtd M.fr⟩
theorem jjL:WCmp M .LtE dLe:=⟨_,fun _=>jrp,@jts M.fr⟩
theorem jn3:WCmp M .Gt dGt:=⟨_,fun _=>jsa,@js0 M.fr⟩
theorem jqE:WCmp M .GtE dGe:=⟨_,fun _=>jsn,@js7 M.fr⟩
theorem jjn (hu:∀j,(M.X j).A.units+64<cLine):WCmp M .Eq dEq:=⟨@jg5 M.fr,fun j=>by have:=jmi (hu j);rw [M.hK j] at this;exact this,@jsV M.fr⟩
theorem js2 (hu:∀j,(M.X j).A.units+64<cLine):WCmp M .NotEq dNe:=⟨@jhw M.fr,fun j=>by have:=jkD (hu j);rw [M.hK j] at this;exact this,@jtq M.fr⟩
variable {op op':CmpOp} {f f':D->D->Option D}
theorem jd4 (ho:WCmp M op f) (ha:WT M a fa) (hb:WT M b fb) (hm:autoParam (behindInMarks op b=false) QA.a9._auto_1):WE M (.Compare a [op] [b] pos) (jk f fa fb):=let ⟨_,r1,r2⟩:=ho.h;let ⟨_,h1,h2⟩:=ha.h;let ⟨_,k1,k2⟩:=hb.h;⟨_,fun j=>jmy (r1 j) (h1 j) (k1 j) hm,@jnt M.fr _ _ _ _ _ _ r2 h2 k2⟩
theorem za (ho:WCmp M op f) (ha:WT M a fa) (hb:WT M b fb) (hm:autoParam (behindInMarks op b=false) QA.a9._auto_1):WC M (.Compare a [op] [b] pos) (qV (jk f fa fb)):=let ⟨_,r1,r2⟩:=ho.h;let ⟨_,h1,h2⟩:=ha.h;let ⟨_,k1,k2⟩:=hb.h;⟨_,fun j=>jm4 (r1 j) (h1 j) (k1 j) hm,@jpR M.fr _ _ (@EOk.t M.fr _ _ (@jnt M.fr _ _ _ _ _ _ r2 h2 k2))⟩
theorem jm3 (ho:WCmp M op f) (ho':WCmp M op' f') (ha:WT M a fa) (hb:WT M b fb) (hc:WT M c fc) (hm:autoParam (lastMarks [op,op'] [b,c]=false) QA.a6._auto_1):WE M (.Compare a [op,op'] [b,c] pos) (jcJ f f' fa fb fc):=let ⟨_,r1,r2⟩:=ho.h;let ⟨_,r3,r4⟩:=ho'.h;let ⟨_,h1,h2⟩:=ha.h;let ⟨_,k1,k2⟩:=hb.h;let ⟨_,l1,l2⟩:=hc.h;⟨_,fun j=>jkn (r1 j) (r3 j) (h1 j) (k1 j) (l1 j) hm,@jno M.fr _ _ _ _ _ _ _ _ _ _ r2 r4 h2 k2 l2⟩
theorem jeM {k:Nat} {p':Pos} (ha:WT M a fa):WC M (.Compare a [.IsNot] [.Constant .none k p'] pos) (qV (jbL fa)):=let ⟨_,h1,h2⟩:=ha.h;⟨_,fun j=>jpU (jnw (h1 j)),@t_B M.fr _ _ (@EOk.t M.fr _ _ (@joR M.fr _ _ h2))⟩
theorem jie {bo:BoolOp} (h:WE M a fa):WE M (.BoolOp bo [a] pos) fa:=let ⟨_,h1,h2⟩:=h.h;⟨_,fun j=>jqD (h1 j),h2⟩
theorem jf6 (ha:WT M a fa) (hb:WE M (.BoolOp .And (b::es) pos) fb):WE M (.BoolOp .And (a::b::es) pos) (jdS fa fb):=let ⟨_,h1,h2⟩:=ha.h;let ⟨_,k1,k2⟩:=hb.h;⟨_,fun j=>jqi (h1 j) (k1 j),@jr2 M.fr _ _ _ _ h2 k2⟩
theorem jsD (hc:WC M c ga) (ha:WE M a fa) (hb:WE M b fb):WE M (.IfExp c a b pos) (eIf ga fa fb):=let ⟨_,l1,l2⟩:=hc.h;let ⟨_,h1,h2⟩:=ha.h;let ⟨_,k1,k2⟩:=hb.h;⟨_,fun j=>jlj (l1 j) (h1 j) (k1 j),@jtr M.fr _ _ _ _ _ _ l2 h2 k2⟩
theorem jdw (h:WT M a fa) (he:autoParam (∀j whole,isTrue a (M.X j).env whole=(do let v <- whole;standAt a.pos;holding [v] (truthy v))) QA.a10._auto_1):WC M a (qV fa):=let ⟨_,h1,h2⟩:=h.h;⟨_,fun j=>jqB (h1 j) (he j),@t_B M.fr _ _ h2⟩
theorem WW.toC (h:WW M a ga):WC M a ga:=let ⟨_,h1,h2⟩:=h.h;⟨_,fun j=>(h1 j).pt,h2⟩
theorem jcB (h:WC M a ga):WW M (.BoolOp .And [a] pos) ga:=let ⟨_,h1,h2⟩:=h.h;⟨_,fun j=>jnO (h1 j),h2⟩
theorem jr9 (h:WC M a ga):WW M (.BoolOp .Or [a] pos) ga:=let ⟨_,h1,h2⟩:=h.h;⟨_,fun j=>jpl (h1 j),h2⟩
theorem jem (ha:WC M a ga) (hb:WW M (.BoolOp .And (b::es) pos) gb):WW M (.BoolOp .And (a::b::es) pos) (Zx ga gb):=let ⟨_,h1,h2⟩:=ha.h;let ⟨_,k1,k2⟩:=hb.h;⟨_,fun j=>jqQ (h1 j) (k1 j),@jd0 M.fr _ _ _ _ h2 k2⟩
theorem jta (ha:WC M a ga) (hb:WW M (.BoolOp .Or (b::es) pos) gb):WW M (.BoolOp .Or (a::b::es) pos) (bOr ga gb):=let ⟨_,h1,h2⟩:=ha.h;let ⟨_,k1,k2⟩:=hb.h;⟨_,fun j=>jsb (h1 j) (k1 j),@jtn M.fr _ _ _ _ h2 k2⟩
theorem jiB (ha:WC M a ga):WC M (.UnaryOp .Not a pos) (jdH ga):=let ⟨_,h1,h2⟩:=ha.h;⟨_,fun j=>jpT (h1 j),@jgs M.fr _ _ h2⟩
theorem jx:WA M [] jj:=⟨_,fun _=>jbp,@a_nil M.fr⟩
theorem je (ha:WE M e fe) (hs:WA M es fs) (h:autoParam (qd e=false) QA.a4._auto_1):WA M (e::es) (jc fe fs):=let ⟨_,h1,h2⟩:=ha.h;let ⟨_,k1,k2⟩:=hs.h;⟨_,fun j=>Q6 (h1 j) (k1 j) (qf h),@jkQ M.fr _ _ _ _ h2 k2⟩
theorem jE:WAT M [] jj:=⟨_,fun _=>jbp,@jpv M.fr⟩
theorem jn (ha:WT M e fe) (hs:WAT M es fs) (h:autoParam (qd e=false) QA.a4._auto_1):WAT M (e::es) (jc fe fs):=let ⟨_,h1,h2⟩:=ha.h;let ⟨_,k1,k2⟩:=hs.h;⟨_,fun j=>Q6 (h1 j) (k1 j) (qf h),@jnW M.fr _ _ _ _ h2 k2⟩
theorem jcv {k:Nat} (h:WA M es fs):WE M (.Tuple es k pos) (jaa fs):=let ⟨_,h1,h2⟩:=h.h;⟨_,fun j=>jpA (h1 j),@jq8 M.fr _ _ h2⟩
theorem JH (h:WA M es fs):WO M (.List es pos) (zV fs):=let ⟨_,h1,h2⟩:=h.h;⟨_,fun j=>jpD (h1 j),@jrL M.fr _ _ h2⟩
theorem jol:WP M none pNo:=⟨_,fun _=>jnr,@jsU M.fr⟩
theorem jiz (h:WT M e fe):WP M (some e) (pSo fe):=let ⟨_,h1,h2⟩:=h.h;⟨_,fun j=>jnb (h1 j),@jtb M.fr _ _ h2⟩
theorem jp5 {lo hi:Option Expr} {fl fh:L2.Env->Option (Option Int)} {p2:Pos} (h:WT M e fe) (hl:WP M lo fl) (hh:WP M hi fh):WO M (.Subscript e (.Slice lo hi none p2) pos) (eSl fe fl fh):=let ⟨_,h1,h2⟩:=h.h;let ⟨_,k1,k2⟩:=hl.h;let ⟨_,l1,l2⟩:=hh.h;⟨_,fun j=>jlT (r:=jpI M.K) (by rw [<-M.hK j];exact jne) (h1 j) (k1 j) (l1 j),@js4 M.fr _ _ _ _ _ _ h2 k2 l2⟩
structure WB (M:Fm) (g:Value) (f:List D->Option D):Prop where
 h:∃r,(∀j,CallR (M.X j) g r)/\@jdQ M.fr r f
structure WBO (M:Fm) (g:Value) (f:List D->Option (List D)):Prop where
 h:∃r,(∀j,CallR (M.X j) g r)/\@jf2 M.fr r f
theorem b_len:WB M (.builtin "len") qS:=⟨_,fun j=>by have:=jjr (X:=M.X j);rw [M.hK j] at this;exact this,@jrE M.fr⟩
theorem b_list:WBO M (.type "list") jd7:=⟨_,fun j=>by have:=je4 (X:=M.X j);rw [M.hK j] at this;exact this,@jpj M.fr⟩
theorem b_sum:WB M (.builtin "sum") JB:=⟨_,fun j=>by have:=jk1 (M.calm j);rw [M.hK j] at this;exact this,@jrr M.fr⟩
theorem b_all:WB M (.builtin "all") jjc:=⟨_,fun j=>by have:=jl0 (M.calm j);rw [M.hK j] at this;exact this,@jr8 M.fr⟩
theorem jhu:WB M (.builtin "min") jad:=⟨_,fun j=>jjB (M.calm j),@jph M.fr⟩
theorem jk6:WB M (.builtin "max") jd1:=⟨_,fun j=>jjq (M.calm j),@jpi M.fr⟩
theorem jqA:WB M (.builtin "min") jbJ:=⟨_,fun j=>jjy (M.calm j),@jqR M.fr⟩
theorem jpS:WB M (.builtin "min") jgt:=⟨_,fun j=>by have:=jjG (M.calm j);rw [M.hK j] at this;exact this,@jpo M.fr⟩
theorem b_int:WB M (.type "int") jo4:=⟨_,fun _=>jjd,@jsw M.fr⟩
theorem jp3:WBO M (.builtin "sorted") jfY:=⟨_,fun j=>by have:=jhe (M.calm j);rw [M.hK j] at this;exact this,@jqn M.fr⟩
variable {id T:String} {f1:List D->Option D} {f2:List D->Option (List D)}
theorem qX (hc:WB M (.builtin id) f1) (hg:∀j,Gl (M.X j) x) (hm:∀j,(M.X j).mg x=none) (hv:bootBuiltins x=some (.builtin id)) (ha:WAT M (e::es) fs) (hn:autoParam (x ≠ "__name__") QA.a1._auto_1) (hdb:autoParam ‹"i"› QA.a1._auto_1)
 (h:autoParam (qd e=false) QA.a4._auto_1) (h':autoParam ((es.all fun e=>!qd e)=true) QA.a4._auto_1):WE M ‹"O"› (ji f1 fs):=
 let ⟨_,r1,r2⟩:=hc.h;let ⟨_,h1,h2⟩:=ha.h;⟨_,fun j=>jaL (r1 j) (hg j) (hm j) hv (h1 j) hn hdb (qf h) (JK h'),@jsR M.fr _ _ _ _ r2 h2⟩
theorem jrq (hc:WBO M (.builtin id) f2) (hg:∀j,Gl (M.X j) x) (hm:∀j,(M.X j).mg x=none) (hv:bootBuiltins x=some (.builtin id)) (ha:WAT M (e::es) fs) (hn:autoParam (x ≠ "__name__") QA.a1._auto_1) (hdb:autoParam ‹"i"› QA.a1._auto_1)
 (h:autoParam (qd e=false) QA.a4._auto_1) (h':autoParam ((es.all fun e=>!qd e)=true) QA.a4._auto_1):WO M ‹"O"› (ji f2 fs):=
 let ⟨_,r1,r2⟩:=hc.h;let ⟨_,h1,h2⟩:=ha.h;⟨_,fun j=>jaL (r1 j) (hg j) (hm j) hv (h1 j) hn hdb (qf h) (JK h'),@joa M.fr _ _ _ _ r2 h2⟩
theorem jks (hc:WBO M (.type T) f2) (hg:∀j,Gl (M.X j) x) (hm:∀j,(M.X j).mg x=none) (hv:bootBuiltins x=some (.type T)) (ha:WAT M (e::es) fs) (hn:autoParam (x ≠ "__name__") QA.a1._auto_1) (hdb:autoParam ‹"i"› QA.a1._auto_1)
 (h:autoParam (qd e=false) QA.a4._auto_1) (h':autoParam ((es.all fun e=>!qd e)=true) QA.a4._auto_1):WO M ‹"O"› (ji f2 fs):=
 let ⟨_,r1,r2⟩:=hc.h;let ⟨_,h1,h2⟩:=ha.h;⟨_,fun j=>jbA (r1 j) (hg j) (hm j) hv (h1 j) hn hdb (qf h) (JK h'),@joa M.fr _ _ _ _ r2 h2⟩
theorem jin {y:Str} {p':Pos} (hg:∀j,Gl (M.X j) "isinstance") (hm:∀j,(M.X j).mg "isinstance"=none) (hg':∀j,Gl (M.X j) y) (hm':∀j,(M.X j).mg y=none) (hv':bootBuiltins y=some (.type T)) (hT:okT T=true) (ha:WT M a fa)
 (hn:autoParam (y ≠ "__name__") QA.a1._auto_1) (hdb:autoParam ‹"aH"› QA.a1._auto_1) (h:autoParam (qd a=false) QA.a4._auto_1):WE M (.Call (.Name "isinstance" p) [a,.Name y p'] [] pos) (jkj T fa):=
 let ⟨_,h1,h2⟩:=ha.h
 ⟨_,fun j=>jaL (r:=fun xs H Q=>∃x T b,xs=[x,.ty T]/\IsT M.K H x T b/\Q (.bl b) H) (by have:=jgN (X:=M.X j);rw [M.hK j] at this;exact this) (hg j) (hm j) boot_isinstance (Q6 (h1 j) (Q6 (jsk (hg' j) (hm' j) hv' hn hdb) jbp (qf rfl)) (qf h)) (by decide) (by decide) (qf h) (JK rfl),@jrG M.fr T _ _ h2 hT⟩
theorem jo3 {p' pos':Pos} (hg:∀j,Gl (M.X j) "sorted") (hm:∀j,(M.X j).mg "sorted"=none) (hg':∀j,Gl (M.X j) "set") (hm':∀j,(M.X j).mg "set"=none) (ha:WAT M [e] fs) (h:autoParam (qd e=false) QA.a4._auto_1) (sub:∀i j,(M.X i).prog=(M.X j).prog ∧ (M.X i).w=(M.X j).w) (j0:M.ι) :
 WO M (.Call (.Name "sorted" p) [.Call (.Name "set" p') [e] [] pos'] [] pos) (jgA fs):=
 let ⟨ta,h1,h2⟩:=ha.h
 ⟨_,fun j=>by
  have r1:=jhK (X:=M.X j) (M.calm j);have r2:=jcj (X:=M.X j) (M.calm j);have eS:∀a ns,je1 (M.X j) a ns=je1 (M.X j0) a ns:=fun a ns=>by unfold je1;rw [(sub j j0).1,(sub j j0).2]
  rw [M.hK j] at r1;simp only [eS] at r1 r2;exact jaL r2 (hg j) (hm j) boot_sorted (Q6 (jbA r1 (hg' j) (hm' j) boot_set (h1 j) (by decide) (by decide) (qf h) (JK rfl)) jbp (qf rfl)) (by decide) (by decide) (qf rfl) (JK rfl),@jpF M.fr (M.X j0) _ _ h2⟩
theorem js6 {p1 p2 pos1 pos2:Pos} (hg1:∀j,Gl (M.X j) "list") (hm1:∀j,(M.X j).mg "list"=none) (hg2:∀j,Gl (M.X j) "zip") (hm2:∀j,(M.X j).mg "zip"=none) (ha:WAT M [a,b] fs) (h:autoParam (qd a=false) QA.a4._auto_1) (h':autoParam (qd b=false) QA.a4._auto_1) :
 WO M (.Call (.Name "list" p1) [.Call (.Name "zip" p2) [a,b] [] pos2] [] pos1) (eLZ fs):=
 let ⟨_,h1,h2⟩:=ha.h
 ⟨jcR M.K _,fun j=>by have:=jg3 (p1:=p1) (p2:=p2) (pos1:=pos1) (pos2:=pos2) (M.calm j) (hg1 j) (hm1 j) (hg2 j) (hm2 j) (h1 j) (by rw [qf h,qf h'];rfl) (by rw [qf h'];rfl) (by rw [qf rfl];rfl);rw [M.hK j] at this;exact this,@jte M.fr _ _ h2⟩
theorem qi {k:Nat} {g:Addr} {fd:FuncData} {ps:List Str} (F:∀j,FnOk (M.X j).prog (M.X j).w (M.X j).K (M.X j).mg (M.X j).base JJ k g fd ps (@spS M.fr f1)) (hr:∀j,Room k (M.X j).A) (hg:∀j,Gl (M.X j) x) (hm:∀j,(M.X j).mg x=some (.ref g)) (hk:∀j,PySem.W.keepIn (M.X j).K (.ref g)=true)
 (hb:∀j,Binds (M.X j).K fd ps []) (ha:WA M (e::es) fs) (hdb:autoParam ‹"i"› QA.a1._auto_1) (h:autoParam (qd e=false) QA.a4._auto_1) (h':autoParam ((es.all fun e=>!qd e)=true) QA.a4._auto_1):WE M ‹"O"› (ji f1 fs):=
 let ⟨_,h1,h2⟩:=ha.h;⟨_,fun j=>ji1 (F j) (hr j) (hg j) (hm j) (hk j) (hb j) .nil jop (h1 j) hdb (qf h) (JK h'),@jqh M.fr _ _ f1 E0 h2⟩
theorem j9 {k:Nat} {g:Addr} {fd:FuncData} {ps:List Str} (F:∀j,FnOk (M.X j).prog (M.X j).w (M.X j).K (M.X j).mg (M.X j).base JJ k g fd ps (@spO M.fr f2)) (hr:∀j,Room k (M.X j).A) (hg:∀j,Gl (M.X j) x) (hm:∀j,(M.X j).mg x=some (.ref g)) (hk:∀j,PySem.W.keepIn (M.X j).K (.ref g)=true)
 (hb:∀j,Binds (M.X j).K fd ps []) (ha:WA M (e::es) fs) (hdb:autoParam ‹"i"› QA.a1._auto_1) (h:autoParam (qd e=false) QA.a4._auto_1) (h':autoParam ((es.all fun e=>!qd e)=true) QA.a4._auto_1):WO M ‹"O"› (ji f2 fs):=
 let ⟨_,h1,h2⟩:=ha.h;⟨_,fun j=>ji1 (F j) (hr j) (hg j) (hm j) (hk j) (hb j) .nil jop (h1 j) hdb (qf h) (JK h'),@jmC M.fr _ _ f2 E0 h2⟩
variable {m:D->L2.Env->Option L2.Env} {ms:List D->L2.Env->Option L2.Env} {tg iter:Expr}
theorem jW {i:Nat} (hN:∀j,(M.X j).N.Nodup) (hi:M.N[i]?=some x) (hx:∀j,Loc (M.X j).env.scope x) (hf:∀j,(M.X j).fn x=true\/(M.X j).env.scope.names.lookup x=some .local):WG M (.Name x pos) (jz i):=⟨_,fun j=>jeD (hN j) (by rw [M.hN j];exact hi) (hx j) (hf j),@jhV M.fr i⟩
theorem Q3:WGs M [] Qn:=⟨_,fun _=>jii,@joN M.fr⟩
theorem qp (h1:WG M e m) (h2:WGs M es ms) (hs:autoParam (∀j,(assignEach (e::es) (M.X j).env).map (·.2)=assign e (M.X j).env::‹"aM"›.map (·.2)) QA.a3._auto_1):WGs M (e::es) (j2 m ms):=let ⟨_,a1,a2⟩:=h1.h;let ⟨_,b1,b2⟩:=h2.h;⟨_,fun j=>jf9 (a1 j) (b1 j) (hs j),@jlq M.fr _ _ _ _ a2 b2⟩
theorem Q5 {k n:Nat} (h:WGs M es ms) (hn:autoParam (∀j,‹"aM"›.length=n) QA.a3._auto_1) (hst:autoParam (∀j,‹"aM"›.findIdx? (·.1)=none) QA.a3._auto_1):WG M (.Tuple es k pos) (Qh n ms):=let ⟨_,a1,a2⟩:=h.h;⟨jnl M.K n _,fun j=>by have:=jlM (k:=k) (pos:=pos) (M.calm j) (a1 j) (hn j) (hst j);rw [M.hK j] at this;exact this,@joe M.fr n _ _ a2⟩
theorem WI.toT {f:L2.Env->Option (List D)} (h:WI M tg e f):WIT M tg e f:=let ⟨_,h1,h2⟩:=h.h;⟨_,h1,@IOk.t M.fr _ _ h2⟩
theorem jch (h:WE M e fe):WI M tg e (jY fe):=let ⟨_,h1,h2⟩:=h.h;⟨jgx M.K _,fun j=>by have:=jiA (tg:=tg) (h1 j);rw [M.hK j] at this;exact this,@jo5 M.fr _ _ h2⟩
theorem j7 (h:WT M e fe):WIT M tg e (jY fe):=let ⟨_,h1,h2⟩:=h.h;⟨jgx M.K _,fun j=>by have:=jiA (tg:=tg) (h1 j);rw [M.hK j] at this;exact this,@jnN M.fr _ _ h2⟩
theorem jpx (h:WE M e fe):WI M tg e (jbW fe):=let ⟨_,h1,h2⟩:=h.h;⟨joZ M.K _,fun j=>by have:=jpr (tg:=tg) (h1 j);rw [M.hK j] at this;exact this,@jsG M.fr _ _ h2⟩
theorem JU (hg:∀j,Gl (M.X j) "range") (hm:∀j,(M.X j).mg "range"=none) (ha:WAT M [a] fs) (h:autoParam (qd a=false) QA.a4._auto_1):WI M tg (.Call (.Name "range" p) [a] [] pos) (Qz fs):=let ⟨_,h1,h2⟩:=ha.h;⟨_,fun j=>jjb (hg j) (hm j) (h1 j) (by rw [qf h];rfl),@jo6 M.fr _ _ h2⟩
theorem jbf {ts:List Expr} {k:Nat} {tp:Pos} (hg:∀j,Gl (M.X j) "zip") (hm:∀j,(M.X j).mg "zip"=none) (ha:WAT M [a,b] fs) (h:autoParam (qd a=false) QA.a4._auto_1) (h':autoParam (qd b=false) QA.a4._auto_1):WIT M (.Tuple ts k tp) (.Call (.Name "zip" p) [a,b] [] pos) (ZW fs):=let ⟨_,h1,h2⟩:=ha.h;⟨jpZ M.K _,fun j=>by have:=jqm (elts:=ts) (x1:=k) (tpos:=tp) (p:=p) (pos:=pos) (hg j) (hm j) (h1 j) (by rw [qf h,qf h'];rfl) (by rw [qf h'];rfl);rw [M.hK j] at this;exact this,@jpc M.fr _ _ h2⟩
theorem ja9 {ts:List Expr} {k:Nat} {tp:Pos} (hg:∀j,Gl (M.X j) "enumerate") (hm:∀j,(M.X j).mg "enumerate"=none) (ha:WA M [a] fs) (h:autoParam (qd a=false) QA.a4._auto_1):WI M (.Tuple ts k tp) (.Call (.Name "enumerate" p) [a] [] pos) (Qy fs):=let ⟨_,h1,h2⟩:=ha.h;⟨jk3 M.K _,fun j=>by have:=jmw (elts:=ts) (x1:=k) (tpos:=tp) (p:=p) (pos:=pos) (hg j) (hm j) (h1 j) (by rw [qf h];rfl);rw [M.hK j] at this;exact this,@jpC M.fr _ _ h2⟩
variable {st:Stmt} {sts body:List Stmt} {F F' B:FS}
theorem qA:WSs M [] qw:=⟨_,fun _=>jnR,@jqr M.fr⟩
theorem jl (h:WS M st F):WSs M [st] F:=let ⟨_,h1,h2⟩:=h.h;⟨_,fun j=>jmW (h1 j),h2⟩
theorem jf (h:WS M st F) (h':WSs M sts F'):WSs M (st::sts) (jy F F'):=let ⟨_,h1,h2⟩:=h.h;let ⟨_,k1,k2⟩:=h'.h;⟨_,fun j=>jkS (h1 j) (k1 j),@jrD M.fr _ _ _ _ h2 k2⟩
theorem jn4 (h:WT M e fe) (hs:autoParam (∀j,swapsWith e none pos.line (M.X j).env=pure false) QA.a3._auto_1):WS M (.Expr e pos) (jf8 fe):=let ⟨_,h1,h2⟩:=h.h;⟨_,fun j=>ji7 (h1 j) (hs j),@jqy M.fr _ _ h2⟩
theorem qq (h:WE M e fe):WS M (.Return (some e) pos) (ze fe):=let ⟨_,h1,h2⟩:=h.h;⟨_,fun j=>jhL (h1 j),@jrA M.fr _ _ h2⟩
theorem zQ (h:WO M e fo):WS M (.Return (some e) pos) (zi fo):=let ⟨_,h1,h2⟩:=h.h;⟨_,fun j=>jhL (h1 j),@joS M.fr _ _ h2⟩
theorem jaK (i:Nat) (hN:autoParam (M.N[i]?=some x) QA.a4._auto_1) (hv:autoParam (∀j,Vis (M.X j).env.scope x) QA.a7._auto_1) (hd:autoParam ‹"i"› QA.a1._auto_1)
 (hcd:autoParam ‹"al"› QA.a1._auto_1):WS M (.Return (some (.Name x p)) pos) (jbU i):=⟨_,fun j=>jhL ‹"1"›,@jpg M.fr i⟩
theorem Jg (hc:WC M c ga) (h:WSs M sts F) (h':WSs M body F'):WS M (.If c sts body pos) (Zu ga F F'):=let ⟨_,l1,l2⟩:=hc.h;let ⟨_,h1,h2⟩:=h.h;let ⟨_,k1,k2⟩:=h'.h;⟨_,fun j=>jq3 (l1 j) (h1 j) (k1 j),@js5 M.fr _ _ _ _ _ _ l2 h2 k2⟩
theorem jF {i:Nat} {pos':Pos} (h:WE M e fe) (hN:∀j,(M.X j).N.Nodup) (hi:M.N[i]?=some x) (hx:∀j,Loc (M.X j).env.scope x) (hf:∀j,(M.X j).fn x=true\/(M.X j).env.scope.names.lookup x=some .local) (hs:autoParam ‹"6"› QA.a3._auto_1) :
 WS M (.Assign [.Name x pos'] e pos) (jI i fe):=let ⟨_,h1,h2⟩:=h.h;⟨_,fun j=>jhR (hN j) (by rw [M.hN j];exact hi) (hx j) (h1 j) (hs j) (hf j),@joA M.fr _ _ i h2⟩
theorem J4 {i:Nat} {pos':Pos} (h:WO M e fo) (hN:∀j,(M.X j).N.Nodup) (hi:M.N[i]?=some x) (hx:∀j,Loc (M.X j).env.scope x) (hf:∀j,(M.X j).fn x=true\/(M.X j).env.scope.names.lookup x=some .local) (hs:autoParam ‹"6"› QA.a3._auto_1) :
 WS M (.Assign [.Name x pos'] e pos) (Jm i fo):=let ⟨_,h1,h2⟩:=h.h;⟨_,fun j=>jhR (hN j) (by rw [M.hN j];exact hi) (hx j) (h1 j) (hs j) (hf j),@jqk M.fr _ _ i h2⟩
theorem jsX (h:WE M e fe) (hg:WG M tg m) (hs:autoParam (∀j,swapsWithSole [tg] e pos.line (M.X j).env=pure false) QA.a3._auto_1) (hw:autoParam (∀j,swappedStores [tg] e (M.X j).env=pure none) QA.a3._auto_1) (h1:autoParam (∀j,(assignEach [tg] (M.X j).env).map (·.2)=[assign tg (M.X j).env]) QA.a3._auto_1) :
 WS M (.Assign [tg] e pos) (jqt m fe):=let ⟨_,a1,a2⟩:=h.h;let ⟨_,b1,b2⟩:=hg.h;⟨_,fun j=>jlr (a1 j) (b1 j) (hs j) (hw j) (h1 j),@jrU M.fr _ _ _ _ b2 a2⟩
theorem jmc {i:Nat} {pos':Pos} {y:Str} {py:Pos} (hN:M.N[i]?=some y) (hv:∀j,Vis (M.X j).env.scope y) (hk:WE M b fb) (h:WE M e fe) (hd:autoParam ‹"aH"› QA.a1._auto_1) (hcd:autoParam ‹"aZ"› QA.a1._auto_1)
 (ha:autoParam (∀j v,assign (.Subscript (.Name y py) b pos') (M.X j).env v=(do
  let ov <- holding [v] (eval (.Name y py) (M.X j).env)
  let iv <- holding [v,ov] (eval b (M.X j).env)
  standAt pos'
  holding [v,ov,iv] (setItem ov iv v)
  release [v,ov,iv] [])) QA.a10._auto_1)
 (hs:autoParam (∀j,swapsWithSole [.Subscript (.Name y py) b pos'] e pos.line (M.X j).env=pure false) QA.a3._auto_1) (hw:autoParam (∀j,swappedStores [.Subscript (.Name y py) b pos'] e (M.X j).env=pure none) QA.a3._auto_1)
 (h1:autoParam (∀j,(assignEach [.Subscript (.Name y py) b pos'] (M.X j).env).map (·.2)=[assign (.Subscript (.Name y py) b pos') (M.X j).env]) QA.a3._auto_1):WS M (.Assign [.Subscript (.Name y py) b pos'] e pos) (jeX i fb fe):=
 let ⟨_,a1,a2⟩:=h.h;let ⟨_,b1,b2⟩:=hk.h;⟨_,fun j=>jlr (a1 j) (jqK ‹"1"› (b1 j) jfI (ha j)) (hs j) (hw j) (h1 j),@jrB M.fr _ _ _ _ i b2 a2⟩
theorem jlp (i:Nat) (h:WS M st F):WS M st (jhZ i F):=let ⟨_,h1,h2⟩:=h.h;⟨_,h1,@jsq M.fr _ _ i h2⟩
theorem zT (hi:WI M tg iter fo) (hg:WG M tg m) (hb:WSs M body B) (hp:autoParam (∀j,PassesOwn (model (M.X j).prog (M.X j).w) (M.X j).A (M.X j).env (M.X j).xe) QA.a11._auto_1) (hs:autoParam ‹"4"› QA.a10._auto_1):WS M (.For tg iter body [] pos) (zW fo m B):=let ⟨_,i1,i2⟩:=hi.h;let ⟨_,g1,g2⟩:=hg.h;let ⟨_,b1,b2⟩:=hb.h;⟨_,fun j=>jqj (hp j) (M.calm j) (i1 j) (g1 j) (b1 j) (hs j),@jsc M.fr _ _ _ _ _ _ i2 g2 b2⟩
theorem jc5 (hc:WC M c ga) (hb:WSs M body B) (hp:autoParam (∀j,PassesOwn (model (M.X j).prog (M.X j).w) (M.X j).A (M.X j).env (M.X j).xe) QA.a11._auto_1):WS M (.While c body [] pos) (Qb ga B):=let ⟨_,c1,c2⟩:=hc.h;let ⟨_,b1,b2⟩:=hb.h;⟨_,fun j=>jli (hp j) (c1 j) (b1 j),@jmV M.fr _ _ _ _ c2 b2⟩
theorem Qc {i:Nat} {y:Str} {py:Pos} (hN:M.N[i]?=some y) (hv:∀j,Vis (M.X j).env.scope y) (h:WE M e fe) (hd:autoParam ‹"aH"› QA.a1._auto_1) (hcd:autoParam ‹"aZ"› QA.a1._auto_1)
 (hbase:autoParam (∀j,attributeBase (.Name y py) "append" (M.X j).env (eval (.Name y py) (M.X j).env)=eval (.Name y py) (M.X j).env) QA.a3._auto_1) (hline:autoParam (‹"ak"›=true) QA.a4._auto_1) (h':autoParam (qd e=false) QA.a4._auto_1)
 (hs:autoParam (∀j,swapsWith (.Call (.Attribute (.Name y py) "append" apos) [e] [] cpos) none pos.line (M.X j).env=pure false) QA.a3._auto_1):WS M (.Expr (.Call (.Attribute (.Name y py) "append" apos) [e] [] cpos) pos) (JD i fe):=
 let ⟨_,a1,a2⟩:=h.h
 ⟨_,fun j=>ji7 (te:=tBM M.K "list" jeJ _ _) (by have:=jox (X:=M.X j) (apos:=apos) (cpos:=cpos) PySem.F.plainAttrs_list PySem.F.slot_list_append PySem.F.type_list_append jjg (ZO (i:=i) (pos:=py) (by rw [M.hN j];exact hN) (hv j) hd hcd) (Q6 (a1 j) jbp (qf h')) (hbase j) (by rw [qf h'];rfl) hline (qf h') (JK rfl);rw [M.hK j] at this;exact this) (hs j),@jry M.fr _ _ i a2⟩
def Fm.blk (M:Fm) (N:List Str) (scope:Scope):Fm:=⟨M.ι×Addr×Shared×Hp×List Addr,fun i=>(M.X i.1).blk N scope i.2.1 i.2.2.1 i.2.2.2.1 i.2.2.2.2,M.K,N,fun i=>M.hK i.1,fun _=>rfl,fun i=>M.calm i.1⟩
variable {ifs:List Expr} {scope sc:Scope} {Lc Fn:List Str} {ix:List Nat}
theorem j8 {i n:Nat} (hN:∀j,(M.X j).N.Nodup) (hi:M.N[i]?=some x) (hn:i<n) (hx:∀j,Loc (M.X j).env.scope x) (hf:∀j,(M.X j).fn x=true\/(M.X j).env.scope.names.lookup x=some .local):WL M n (.Name x pos) (jz i):=⟨_,fun j=>jeD (hN j) (by rw [M.hN j];exact hi) (hx j) (hf j),@jhV M.fr i,jjJ hn⟩
def jre (n:Nat) (t:TGs):Prop:=(∀xs σ H Q,t xs σ H Q->t xs σ H fun σ2 H2=>Q σ2 H2/\σ2.length=σ.length/\∀j,n<=j->σ2[j]?=σ[j]?)/\∀xs σ H (Q Q':St->Hp->Prop),(∀σ H,Q σ H->Q' σ H)->t xs σ H Q->t xs σ H Q'
structure WLs (M:Fm) (n:Nat) (tg:List Expr) (m:List D->L2.Env->Option L2.Env):Prop where
 h:∃t:TGs,(∀i,PGs (M.X i) tg t)/\@ji9 M.fr t m/\jre n t
theorem jbv {n:Nat}:WLs M n [] Qn:=⟨jqg,fun _=>jii,@joN M.fr,fun xs σ H Q h=>⟨h.1,h.2,rfl,fun _ _=>rfl⟩,fun xs σ H Q Q' hq h=>⟨h.1,hq _ _ h.2⟩⟩
theorem zP {i n:Nat} (hN:∀j,(M.X j).N.Nodup) (hi:M.N[i]?=some x) (hn:i<n) (hx:∀j,Loc (M.X j).env.scope x) (hf:∀j,(M.X j).fn x=true\/(M.X j).env.scope.names.lookup x=some .local) (h:WLs M n es ms)
 (hs:autoParam (∀j,(assignEach (.Name x pos::es) (M.X j).env).map (·.2)=assign (.Name x pos) (M.X j).env::‹"aM"›.map (·.2)) QA.a3._auto_1):WLs M n (.Name x pos::es) (j2 (jz i) ms):=
 let ⟨_,b1,b2,b3,b4⟩:=h.h
 ⟨_,fun j=>jf9 (jeD (hN j) (by rw [M.hN j];exact hi) (hx j) (hf j)) (b1 j) (hs j),@jlq M.fr _ _ _ _ (@jhV M.fr i) b2,fun xs σ H Q ⟨v,r,e,q⟩=>⟨v,r,e,b4 _ _ _ _ _ (fun σ2 H2 ⟨q1,q2,q3⟩=>⟨q1,by rw [q2];simp,fun k hk=>by rw [q3 k hk,YS (by omega)]⟩) (b3 _ _ _ _ q)⟩,
  fun xs σ H Q Q' hq ⟨v,r,e,q⟩=>⟨v,r,e,b4 _ _ _ _ _ hq q⟩⟩
theorem jbj {k n l:Nat} (h:WLs M n es ms) (hn:autoParam (∀j,‹"aM"›.length=l) QA.a3._auto_1) (hst:autoParam (∀j,‹"aM"›.findIdx? (·.1)=none) QA.a3._auto_1):WL M n (.Tuple es k pos) (Qh l ms):=let ⟨_,a1,a2,a3,_⟩:=h.h;⟨jnl M.K l _,fun j=>by have:=jlM (k:=k) (pos:=pos) (M.calm j) (a1 j) (hn j) (hst j);rw [M.hK j] at this;exact this,@joe M.fr l _ _ a2,fun x σ H Q ⟨a,xs,e,hq,hl,q⟩=>⟨a,xs,e,hq,hl,a3 _ _ _ _ q⟩⟩
theorem jX:WTs M [] ‹"l"›:=⟨_,fun _=>jmL,@jqz M.fr⟩
theorem jci (h:WC M e ga):WTs M [e] ga:=let ⟨_,h1,h2⟩:=h.h;⟨_,fun j=>jnK (h1 j),h2⟩
theorem Qe (hsc:∀j,(M.X j).env.scope=sc) (ok:LcOk sc M.N scope Fn ix) (hi:WIT M tg iter fo) (hg:WL ‹"ao"› Lc.length tg m) (ht:WTs ‹"ao"› ifs ga) (he:WE ‹"ao"› e fe)
 (hs:autoParam ‹"4"› QA.a10._auto_1):WO M ‹"M"› (JV fo m ga fe Lc.length ix):=
 let ⟨_,i1,i2⟩:=hi.h;let ⟨_,g1,g2,g3⟩:=hg.h;let ⟨_,t1,t2⟩:=ht.h;let ⟨_,e1,e2⟩:=he.h
 ⟨_,fun j=>joT (hsc j) (M.hN j) (M.calm j) ok (i1 j) (fun C s H fp=>g1 (j,C,s,H,fp)) g3 (fun C s H fp=>t1 (j,C,s,H,fp)) (fun C s H fp=>e1 (j,C,s,H,fp)) (hs j),@jsy M.fr _ _ _ _ _ _ _ _ _ _ i2 g2 t2 e2⟩
def jiL (sc scope:Scope):Scope:={ scope with names:=scope.names.map fun (n,k)=>if (k == NameKind.free && sc.kind == .function && sc.names.lookup n == some .cell) then (n,NameKind.cell) else (n,k) }
theorem jn7 {N1:List Str} {scope1:Scope} (hsc:∀j,(M.X j).env.scope=sc) (ok:LcOk (jiL sc scope1) N1 scope Fn ix) (hi:WIT (M.blk N1 scope1) tg iter fo) (hg:WL ((M.blk N1 scope1).blk (Lc++Fn) scope) Lc.length tg m) (ht:WTs ((M.blk N1 scope1).blk (Lc++Fn) scope) ifs ga) (he:WE ((M.blk N1 scope1).blk (Lc++Fn) scope) e fe)
 (hs:autoParam (∀j x,foldedSetIterable iter ((M.blk N1 scope1).X j).env x=pure x) QA.a10._auto_1):WO (M.blk N1 scope1) ‹"M"› (JV fo m ga fe Lc.length ix):=
 Qe (M:=M.blk N1 scope1) (sc:=jiL sc scope1) (fun j=>by rw [<-hsc j.1];rfl) ok hi hg ht he hs
theorem jf0 {i:Nat} {y:Str} {py spos:Pos} (hNd:∀j,(M.X j).N.Nodup) (hy:M.N[i]?=some y) (hyl:∀j,(M.X j).env.scope.names.lookup y=some .local) (hsc:∀j,(M.X j).env.scope=sc) (ok:LcOk sc M.N scope Fn ix) (hi:WIT M tg iter fo) (hg:WL ‹"ao"› Lc.length tg m) (ht:WTs ‹"ao"› ifs ga) (he:WE ‹"ao"› e fe)
 (hsw:autoParam (∀j,swapsWith ‹"M"› (some (.Name y py)) spos.line (M.X j).env=pure true) QA.a3._auto_1) (hs:autoParam ‹"4"› QA.a10._auto_1):WS M (.Assign [.Name y py] ‹"M"› spos) (jI i (jM (JV fo m ga fe Lc.length ix))):=
 let ⟨_,i1,i2⟩:=hi.h;let ⟨_,g1,g2,g3⟩:=hg.h;let ⟨_,t1,t2⟩:=ht.h;let ⟨_,e1,e2⟩:=he.h
 ⟨_,fun j=>jdd (hNd j) (by rw [M.hN j];exact hy) (hyl j) (hsc j) (M.hN j) (M.calm j) ok (i1 j) (fun C s H fp=>g1 (j,C,s,H,fp)) g3 (fun C s H fp=>t1 (j,C,s,H,fp)) (fun C s H fp=>e1 (j,C,s,H,fp)) (hsw j) (hs j),@joA M.fr _ _ i (@EOkO.e M.fr _ _ (@jsy M.fr _ _ _ _ _ _ _ _ _ _ i2 g2 t2 e2))⟩
end
section
variable {P:Program} {w:World} {K:PySem.W.Frag} {mg:Str->Option Value} {base:Heap} {y qual:Str} {st:Stmt} {f:Addr} {fd:FuncData} {N ps:List Str} {k a n:Nat} {m:FS}
abbrev jot (P:Program) (w:World) (K:PySem.W.Frag) (mg:Str->Option Value) (base:Heap) (N:List Str) (qual:Str) (scope:Scope) (f:Addr) (cdv:Value) (A:Around) (outer:List PySem.Env) (s:Shared) (H:Hp) (E:XK):Fm:=⟨Unit,fun _=>(jho JJ P w K mg base N qual scope f cdv A outer s H E).nox,K,N,fun _=>rfl,fun _=>rfl,fun _=>rfl⟩
theorem zY (F:Fun K y qual st f fd) (S:FnScope N ps (jd st)) (ha:a=ps.length) (hn:N.length=n)
 (h:∀(cdv:Value) (A:Around) (outer:List PySem.Env) (s:Shared) (H:Hp) (E:XK),Room k ‹"aG"›->WSs (jot P w K mg base N qual (jd st) f cdv A outer s H E) (jG st) m) :
 FnOk P w K mg base JJ (k+1) f fd ps (@spS ⟨K⟩ (zk a n m)):=by
 letI:Fr:=⟨K⟩
 refine F.ok S (fun vs H Q E h=>(jsj h).trans ha) (fun cdv A outer s H vs Q E hr q=>?_);obtain ⟨t,h1,h2⟩:=(h cdv A outer s H E hr).h;exact ⟨t,h1 (),jqP h2 (by rw [<-hn]) q⟩
theorem Jz (F:Fun K y qual st f fd) (S:FnScope N ps (jd st)) (ha:a=ps.length) (hn:N.length=n)
 (h:∀(cdv:Value) (A:Around) (outer:List PySem.Env) (s:Shared) (H:Hp) (E:XK),Room k ‹"aG"›->WSs (jot P w K mg base N qual (jd st) f cdv A outer s H E) (jG st) m) :
 FnOk P w K mg base JJ (k+1) f fd ps (@spO ⟨K⟩ (zO a n m)):=by
 letI:Fr:=⟨K⟩
 refine F.ok S (fun vs H Q E h=>(jq9 h).trans ha) (fun cdv A outer s H vs Q E hr q=>?_);obtain ⟨t,h1,h2⟩:=(h cdv A outer s H E hr).h;exact ⟨t,h1 (),jp4 h2 (by rw [<-hn]) q⟩
end
end L2
namespace L2
open PySem PySem.Spec PyProof.Rows
def qF:List Int->List D->Int->Option D
 | i::ks,d::ds,k=>if i=k then some d else qF ks ds k
 | _,_,_=>none
def jef:List Int->List D->Int->D->List D
 | i::ks,d::ds,k,e=>(if i=k then e else d)::jef ks ds k e
 | _,_,_,_=>[]
def jdj:List Int->List V->Int->V->List V
 | i::ks,d::ds,k,e=>(if i=k then e else d)::jdj ks ds k e
 | _,_,_,_=>[]
section
variable [Fr] {G H:Hp}
theorem jaV {i:Int} {ks:List Int} {v:V} {vs:List V}:qK (i::ks) (v::vs)=(Sum.inl i,v)::qK ks vs:=rfl
theorem jbd {vs:List V} {ds:List D} (r:Reps G vs ds):∀{ks:List Int} (k:Int),ks.length=vs.length->
 (∀d,qF ks ds k=some d->∃v,ja2 (qK ks vs) (Sum.inl k)=some v/\Rep G v d)/\(qF ks ds k=none->ja2 (qK ks vs) (Sum.inl k)=none):=by
 induction vs generalizing ds with
 | nil=>
   intro ks k hl;cases ks with
   | nil=>have hn:qF [] ds k=none:=rfl;rw [hn];exact ⟨fun d h=>(nomatch h),fun _=>rfl⟩
   | cons i ks=>cases hl
 | cons v vs ih=>
   intro ks k hl;cases ks with
   | nil=>cases hl
   | cons i ks=>
     cases r with
     | @cons _ d _ ds r t=>
       have ih':=ih t (ks:=ks) k (by simpa using hl);by_cases e:i=k
       . refine ⟨fun d' h=>⟨v,?_,?_⟩,fun h=>?_⟩
         . rw [jaV];exact jbc (by rw [e])
         . have h':(if i=k then some d else qF ks ds k)=some d':=h;rw [if_pos e] at h';cases h';exact r
         . have h':(if i=k then some d else qF ks ds k)=none:=h;rw [if_pos e] at h';cases h'
       . have h0:qF (i::ks) (d::ds) k=qF ks ds k:=if_neg e;rw [h0,jaV,ja0 (show ¬(Sum.inl i:zw)=Sum.inl k from fun z=>e (by injection z))];exact ih'
theorem jfF {vs:List V} {ds:List D} (r:Reps G vs ds) {ks:List Int} (k:Int) (hl:ks.length=vs.length):(ja2 (qK ks vs) (Sum.inl k)).isSome=(qF ks ds k).isSome:=by
 obtain ⟨h1,h2⟩:=jbd r k hl;cases e:qF ks ds k with
 | none=>rw [h2 e];rfl
 | some d=>obtain ⟨v,hv,_⟩:=h1 d e;rw [hv];rfl
theorem jfB {v:V}:∀{ks:List Int} {vs:List V} {k:Int},ks.length=vs.length->(jdj ks vs k v).length=ks.length
 | [],[],_,_=>rfl
 | [],_::_,_,h=>by cases h
 | _::_,[],_,h=>by cases h
 | i::ks,u::vs,k,h=>by show (jdj ks vs k v).length+1=ks.length+1;rw [jfB (by simpa using h)]
theorem jk5 {v:V} {d:D} (q:Rep G v d) {vs:List V} {ds:List D} (r:Reps G vs ds):∀{ks:List Int} {k:Int},Reps G (jdj ks vs k v) (jef ks ds k d):=by
 induction vs generalizing ds with
 | nil=>intro ks k;cases r;cases ks <;> exact .nil
 | cons u vs ih=>
   intro ks k;cases r with
   | cons a t=>
     cases ks with
     | nil=>exact .nil
     | cons i ks=>
       refine .cons ?_ (ih t);by_cases e:i=k
       . rw [if_pos e,if_pos e];exact q
       . rw [if_neg e,if_neg e];exact a
theorem jiT {v:V}:∀{ks:List Int} {vs:List V} {k:Int},ks.length=vs.length->(qK ks vs).map (fun kv=>if kv.1=(Sum.inl k:zw) then (kv.1,v) else kv)=qK ks (jdj ks vs k v)
 | [],[],_,_=>rfl
 | [],_::_,_,h=>by cases h
 | _::_,[],_,h=>by cases h
 | i::ks,u::vs,k,h=>by
   show _=qK (i::ks) ((if i=k then v else u)::jdj ks vs k v);rw [jaV,jaV,List.map_cons,jiT (by simpa using h)];congr 1;by_cases e:i=k
   . subst e;simp
   . rw [if_neg (show ¬(Sum.inl i:zw)=Sum.inl k from fun z=>e (by injection z)),if_neg e]
theorem jil {v:V} {k:Int}:∀{ks:List Int} {vs:List V},ks.length=vs.length->qK ks vs++[(Sum.inl k,v)]=qK (ks++[k]) (vs++[v])
 | [],[],_=>rfl
 | [],_::_,h=>by cases h
 | _::_,[],h=>by cases h
 | i::ks,u::vs,h=>by show (Sum.inl i,u)::(qK ks vs++[(Sum.inl k,v)])=qK (i::(ks++[k])) (u::(vs++[v]));rw [jil (by simpa using h)];rfl
omit [Fr] in
theorem jc4 {ks:List Int} {vs:List V} (h:ks.length=vs.length):(qK ks vs).length=ks.length:=by unfold qK;simp [h]
def jpy (neg:Bool):R2:=fun x y H Q=>∃a o,y=.ref a/\jdO H a x o/\Q (.bl (neg != o.isSome)) H
def jaD (neg:Bool):D->D->Option D
 | .int i,.dic ks ds=>some (.bl (neg != (qF ks ds i).isSome))
 | _,_=>none
theorem jll {neg:Bool} {x y d:D} (q:jaD neg x y=some d):∃i ks ds,x=.int i/\y=.dic ks ds/\D.bl (neg != (qF ks ds i).isSome)=d:=by
 cases x with
 | int i=>
   cases y with
   | dic ks ds=>exact ⟨i,ks,ds,rfl,rfl,Option.some.inj q⟩
   | _=>exact qj q
 | _=>exact qj q
theorem job (neg:Bool):ROk (jpy neg) (jaD neg):=fun G H x y dx dy d Q s rx ry q k=>by
 obtain ⟨i,ks,ds,rfl,rfl,rfl⟩:=jll q
 (have hh:=RepT.of_int rx;subst hh)
 cases ry with
 | @dic a _ vs _ h hl r=>refine ⟨a,ja2 (qK ks vs) (Sum.inl i),rfl,.inl ⟨_,Sum.inl i,h,rfl,rfl⟩,?_⟩;rw [jfF r i hl];exact k _ G H (.refl s) (.bl _)
def jiu:D->D->Option D
 | .dic ks ds,.int i=>qF ks ds i
 | _,_=>none
theorem jka {x y d:D} (q:jiu x y=some d):∃i ks ds,x=.dic ks ds/\y=.int i/\qF ks ds i=some d:=by
 cases x with
 | dic ks ds=>
   cases y with
   | int i=>exact ⟨i,ks,ds,rfl,rfl,q⟩
   | _=>exact qj q
 | _=>exact qj q
theorem jpY {td ty:TE} {fd fk:L2.Env->Option D} (hd:zG td fd) (hk:zG ty fk):EOk (joH td ty) (jk jiu fd fk):=fun G0 H0 G H σ ρ Q d e q k=>by
 obtain ⟨x,qa,q⟩:=bind_some q;obtain ⟨y,qb,q⟩:=bind_some q;obtain ⟨i,ks,ds,rfl,rfl,q⟩:=jka q;refine hd G0 H0 G H σ ρ _ _ e qa fun u G1 H1 x1 r1=>?_;refine hk G0 H0 G1 H1 σ ρ _ _ (e.grow x1) qb fun v G2 H2 x2 r2=>?_;have r1':=r1.mono x2.gg x2.hh;cases r1' with
 | @dic a _ vs _ h hl r=>
   (have hh:=RepT.of_int r2;subst hh)
   obtain ⟨v,h1,h2⟩:=(jbd r i hl).1 d q;exact ⟨a,v,rfl,.inl ⟨_,Sum.inl i,h,rfl,h1.symm⟩,k v G2 H2 (x1.trans x2) h2⟩
def EOkD (t:TE) (f:L2.Env->Option (List Int×List D)):Prop:=∀G0 H0 G H σ ρ (Q:VK) p,EnvOk G0 H0 G H σ ρ->f ρ=some p->
 (∀a vs G' H',Ext G H G' H'->H a=none->G' a=none->H' a=some (.dK (qK p.1 vs))->p.1.length=vs.length->Reps G' vs p.2->Q (.ref a) H')->t σ H Q
def tFz (t:TE):TE:=fun σ H Q=>t σ H fun v H1=>∃a kvs,v=.ref a/\H1 a=some (.dK kvs)/\∀o,Q v (upd H1 a (.frz o (.dK kvs)))
def jr3 (f:L2.Env->Option (List Int×List D)):L2.Env->Option D:=fun ρ=>(f ρ).map fun p=>.dic p.1 p.2
theorem EOkD.e {t:TE} {f:L2.Env->Option (List Int×List D)} (h:EOkD t f):EOk (tFz t) (jr3 f):=fun G0 H0 G H σ ρ Q d e q k=>by
 unfold jr3 at q;cases z:f ρ with
 | none=>rw [z] at q;cases q
 | some ds=>rw [z] at q;cases q;refine h G0 H0 G H σ ρ _ ds e z fun a vs G' H' x hn hg ha hl r=>⟨a,_,rfl,ha,fun o=>?_⟩;have x':Ext G H G' (upd H' a (.frz o (.dK (qK ds.1 vs)))):=⟨fun b u w=>by rw [jC (jH w hn)];exact x.hh b u w,x.gg,fun b u w=>by rw [jC (jH w hg)];exact x.gh b u w,x.nw⟩;exact k _ _ _ (x'.freeze hn hg jB) (.dic jB hl (r.mono (.upd hg)))
def jiv:L2.Env->Option (List Int×List D):=fun _=>some ([],[])
theorem joW:EOkD jlY jiv:=fun G0 H0 G H σ ρ Q p e q k hp hn=>by cases q;exact k hp [] G _ (.new e.same hn) hn (e.same.free hn) (by rw [jB];rfl) rfl .nil
def jlt (fk fv:L2.Env->Option D):L2.Env->Option (List Int×List D):=fun ρ=>match fk ρ,fv ρ with
 | some (.int i),some d=>some ([i],[d])
 | _,_=>none
theorem jo2 {tk tv:TE} {fk fv:L2.Env->Option D} (hk:EOk tk fk) (hv:EOk tv fv):EOkD (jn8 [(tk,tv)]) (jlt fk fv):=fun G0 H0 G H σ ρ Q p e q k a ha=>by
 unfold jlt at q;split at q
 . rename_i i d z1 z2;cases q;have x0:Ext G H G (upd H a (.dK [])):=.new e.same ha;refine hk _ _ _ _ _ _ _ _ (e.grow x0) z1 fun x G1 H1 x1 r1=>hv _ _ _ _ _ _ _ _ ((e.grow x0).grow x1) z2 fun y G2 H2 x2 r2=>?_
   (have hh:=Rep.of_int r1;subst hh)
   have h2:H2 a=some (.dK []):=(x1.trans x2).hh _ _ jB;have ga:G2 a=none:=(x1.trans x2).gone (e.same.free ha) jB;refine ⟨h2,[(Sum.inl i,y)],rfl,by show 1<=15;decide,?_⟩;have x3:Ext G H G2 H2:=x0.trans (x1.trans x2);refine k a [y] G2 _ ⟨fun b o z=>?_,x3.gg,fun b o z=>?_,x3.nw⟩ ha ga ?_ rfl (.cons r2 .nil)
   . rw [jC (jH z ha)];exact x3.hh b o z
   . rw [jC (jH z ga)];exact x3.gh b o z
   . rw [jB];rfl
 . cases q
def jfg:List D->Option (List Int×List D)
 | [.dic ks ds]=>some (ks,ds)
 | _=>none
def jlA:List V->Hp->VK->Prop:=fun xs H Q=>∃a kvs,xs=[.ref a]/\Rd H a (.dK kvs)/\∀p,H p=none->Q (.ref p) (upd H p (.dK kvs))
theorem jmS {As:TA} {fs:L2.Env->Option (List D)} (h:jbB As fs):EOkD (tCB jlA As) (ji jfg fs):=fun G0 H0 G H σ ρ Q p e q k=>by
 obtain ⟨ds,q1,q2⟩:=bind_some q;refine h _ _ _ _ _ _ _ _ e q1 fun vs G1 H1 x1 r1=>?_;unfold jfg at q2;split at q2
 . cases q2;cases r1 with
   | cons r t=>cases t;obtain ⟨_,_,rfl,h,hl,r⟩:=r.of_dic;exact ⟨_,_,rfl,h,fun b hb=>k b _ G1 _ (x1.trans (.new x1.gh hb)) (x1.hh.free hb) (x1.gh.free hb) jB hl r⟩
 . cases q2
def jc7:List D->Option (List D)
 | [.dic ks _]=>if zI ks.length then some (ks.map .int) else none
 | _=>none
def jlw:List V->Hp->VK->Prop:=fun xs H Q=>∃a ks vs,xs=[.ref a]/\Rd H a (.dK (qK ks vs))/\ks.length=vs.length/\∀p,H p=none->Q (.ref p) (upd H p (.lst (ks.map V.int)))
theorem jmY:jf2 jlw jc7:=fun G H xs ds es Q s r q k=>by
 unfold jc7 at q;split at q
 . split at q
   . cases q;cases r with
     | cons r t=>cases t;obtain ⟨_,_,rfl,h,hl,r⟩:=r.of_dic;exact ⟨_,_,_,rfl,h,hl,fun b hb=>k b _ G _ (.new s hb) hb (s.free hb) jB (Reps.of_ints _)⟩
   . cases q
 . cases q
def jdU (i:Nat) (fo:L2.Env->Option (List Int×List D)):FS:=fun ρ=>match fo ρ with
 | some p=>.next (ρ.set i (.od p.1 p.2))
 | none=>.fail
theorem jpO {te:TE} {fo:L2.Env->Option (List Int×List D)} (i:Nat) (h:EOkD te fo):SOk (jdK te (jaf i)) (jdU i fo):=fun G0 H0 G H σ ρ E e q=>by
 unfold jdU at q;split at q
 . rename_i p z;exact h _ _ _ _ _ _ _ _ e z fun a vs G' H' x hn hg hh hl r=>q G' H' _ x.gg (e.setD x hn hg hh hl r)
 . exact q.elim
def jkz (t:TE):TS:=fun D σ H=>t σ H fun v H1=>∃a kvs,v=.ref a/\H1 a=some (.dK kvs)/\∀o,D.rt v (upd H1 a (.frz o (.dK kvs)))
def jf5 (i:Nat):FS:=fun ρ=>match ρ[i]? with
 | some (.od ks ds)=>.ret (.dic ks ds)
 | _=>.fail
theorem jpG (i:Nat):SOk (jkz (jeC i)) (jf5 i):=fun G0 H0 G H σ ρ E e q=>by
 unfold jf5 at q;split at q
 . rename_i ks ds z;obtain ⟨a,vs,h1,h2,h3,h4,hl,h5⟩:=e.od z;refine ⟨_,h1,a,_,rfl,h4,fun o=>?_⟩;have x':Ext G0 H0 G (upd H a (.frz o (.dK (qK ks vs)))):=⟨fun b u w=>by rw [jC (jH w h2)];exact e.ext.hh b u w,e.ext.gg,fun b u w=>by rw [jC (jH w h3)];exact e.same b u w,e.ext.nw⟩;exact q _ _ _ (x'.freeze h2 h3 jB) (.dic jB hl (h5.mono (.upd h3)))
 . exact q.elim
def Qi (ks:List Int) (k:Int):List Int:=if k∈ks then ks else ks++[k]
def jbP (ks:List Int) (ds:List D) (k:Int) (d:D):List D:=if k∈ks then jef ks ds k d else ds++[d]
theorem jn1 {ks:List Int} {vs:List V} {k:Int} (hl:ks.length=vs.length):((qK ks vs).any fun kv=>decide (kv.1=(Sum.inl k:zw)))=decide (k∈ks):=by
 induction ks generalizing vs with
 | nil=>rfl
 | cons i ks ih=>
   cases vs with
   | nil=>cases hl
   | cons v vs=>
     rw [jaV,List.any_cons,ih (by simpa using hl)];by_cases e:i=k
     . subst e;simp
     . have:¬(Sum.inl i:zw)=Sum.inl k:=fun z=>e (by injection z);simp [this,Ne.symm e]
def Zr (i:Nat) (fk fv:L2.Env->Option D):FS:=fun ρ=>match ρ[i]?,fv ρ,fk ρ with
 | some (.od ks ds),some d,some (.int k)=>if zI ks.length then .next (ρ.set i (.od (Qi ks k) (jbP ks ds k d))) else .fail
 | _,_,_=>.fail
theorem jpn {tk tv:TE} {fk fv:L2.Env->Option D} (i:Nat) (hk:EOk tk fk) (hv:EOk tv fv):SOk (joQ (jeC i) tk tv) (Zr i fk fv):=fun G0 H0 G H σ ρ E e q=>by
 unfold Zr at q;split at q
 . rename_i ks ds d k z1 z2 z3;split at q
   . rename_i hz;obtain ⟨a,vs,h1,h2,h3,h4,hl,h5⟩:=e.od z1;refine hv _ _ _ _ _ _ _ _ e z2 fun v G' H' x r=>⟨_,h1,hk _ _ _ _ _ _ _ _ (e.grow x) z3 fun w G2 H2 x2 r2=>?_⟩
     (have hh:=Rep.of_int r2;subst hh)
     have xx:=x.trans x2;have e':=(e.grow x).grow x2;have h5':=h5.mono xx.gg;have r':=r.mono x2.gg;refine ⟨a,_,rfl,.inl ⟨qK ks vs,Sum.inl k,xx.hh _ _ h4,rfl,by rw [jc4 hl];exact ZG hz,rfl⟩,?_⟩;have key:Z9 (qK ks vs) (Sum.inl k) v=qK (Qi ks k) (if k∈ks then jdj ks vs k v else vs++[v]):=by
       unfold Z9 Qi;rw [jn1 hl];by_cases hm:k∈ks
       . rw [if_pos (YO hm),if_pos hm,if_pos hm,jiT hl]
       . rw [if_neg (by simpa using hm),if_neg hm,if_neg hm,jil hl]
     rw [key];refine q G2 _ σ xx.gg (e'.putD z1 h1 ?_ ?_)
     . unfold Qi;by_cases hm:k∈ks
       . rw [if_pos hm,if_pos hm,jfB hl]
       . rw [if_neg hm,if_neg hm];simp [hl]
     . unfold jbP;by_cases hm:k∈ks
       . rw [if_pos hm,if_pos hm];exact jk5 r' h5'
       . rw [if_neg hm,if_neg hm];exact h5'.snoc r'
   . exact q.elim
 . exact q.elim
end
def Itd (a:Addr) (o:Obj):It:=⟨fun i H=>∃ks vs,H a=some (.frz o (.dK (qK ks vs)))/\ks.length=vs.length/\i<ks.length,
 fun i H x H'=>H'=H/\∀ks vs,H a=some (.frz o (.dK (qK ks vs)))->ks.length=vs.length->∃k,ks[i]?=some k/\x=.int k,fun i H=>∃ks vs,H a=some (.frz o (.dK (qK ks vs)))/\ks.length=vs.length/\ks.length<=i⟩
def jrt (tl:TE):TI:=fun σ H R=>tl σ H fun x H1=>∃a o ks vs,x=.ref a/\H1 a=some (.frz o (.dK (qK ks vs)))/\ks.length=vs.length/\R (Itd a o) H1
section
variable [Fr]
def jet (fe:L2.Env->Option D):L2.Env->Option (List D):=fun ρ=>match fe ρ with
 | some (.dic ks _)=>some (ks.map .int)
 | _=>none
omit [Fr] in
theorem jpH {o o':Obj} {ks ks':List Int} {vs vs':List V} (hl:ks.length=vs.length) (hl':ks'.length=vs'.length) (h:HO.frz o (.dK (qK ks vs))=.frz o' (.dK (qK ks' vs'))):ks=ks':=by injection h with _ h;injection h with h;have e:=congrArg (List.map fun kv:zw×V=>kv.1) h;unfold qK at e;rw [List.map_fst_zip (by simp [hl]),List.map_fst_zip (by simp [hl'])] at e;exact (List.map_inj_right fun x y z=>by injection z).mp e
theorem jrs {te:TE} {fe:L2.Env->Option D} (h:EOk te fe):IOk (jrt te) (jet fe):=fun G0 H0 G H σ ρ R ds e q k=>by
 unfold jet at q;split at q
 . rename_i ks' ds' z;cases q;refine h _ _ _ _ _ _ _ _ e z fun v G1 H1 x1 r1=>?_;cases r1 with
   | @dic a o _ vs _ h hl r=>refine ⟨a,o,ks',vs,rfl,x1.gh _ _ h,hl,k (Itd a o) G1 H1 x1 fun i G2 H2 s1 s2 s3=>?_⟩;have h2:H2 a=some (.frz o (.dK (qK ks' vs))):=s2 _ _ h;refine ⟨fun d hd=>?_,fun hd=>⟨ks',vs,h2,hl,by simpa using hd⟩⟩;rw [List.getElem?_map] at hd;obtain ⟨i',hi,rfl⟩:=map_some hd;refine ⟨⟨ks',vs,h2,hl,(Ym.mp hi).1⟩,fun x H' ⟨e1,e2⟩=>?_⟩;obtain ⟨k',hk',rfl⟩:=e2 ks' vs h2 hl;rw [hi] at hk';cases hk';subst e1;exact ⟨G2,.refl s3,.int _⟩
 . cases q
end
section
variable {X:Cx}
theorem jqN (hu:X.A.units+1<cLine):OpR X (compareOp .In) (jpy false):=fun pins s σ H x y v u Q I rx ry ⟨a,o,e,g,q⟩=>by subst e;obtain rfl:u=Value.ref a:=ry;exact jth hu I g rx fun s' I'=>⟨.bl o.isSome,H,I',rfl,by simpa using q⟩
theorem jkb (hu:X.A.units+1<cLine):OpR X (compareOp .NotIn) (jpy true):=fun pins s σ H x y v u Q I rx ry ⟨a,o,e,g,q⟩=>by subst e;obtain rfl:u=Value.ref a:=ry;exact jn5 hu I g rx fun s' I'=>⟨.bl (!o.isSome),H,I',rfl,by cases o <;> exact q⟩
theorem jhl:CallR X (.type "dict") jlA:=fun pins s σ H xs us Q I r ⟨a,kvs,e,h,q⟩=>by subst e;obtain ⟨u,rfl,ru⟩:=jbM r;cases ru;exact jkr I h fun p s' hp I'=>⟨.ref p,_,I',rfl,q p hp⟩
theorem Inv.fz {pins:List (Addr×Obj)} {σ:St} {H:Hp} {s:Shared} {a:Addr} {kvs:List (zw×V)} (I:Inv X pins σ H s) (h:H a=some (.dK kvs)):∃o,Inv X pins σ (upd H a (.frz o (.dK kvs))) s:=by
 have ok:=(show ObjOk X.prog X.w H s.heap a (.dK kvs) from I.hok a _ h);obtain ⟨o,ho⟩:∃o,s.heap.get? a=some o:=let ⟨_,_,_,_,o,_,_,e,_⟩:=ok;⟨o,e⟩;have ne:∀b (u:HO),H b=some u->u≠.dK kvs->b≠a:=fun b u e hu z=>by subst z;rw [h] at e;exact hu (Option.some.inj e).symm
 refine ⟨o,?_⟩;have:=I.un (t':=s.toks) (h':=s.heap) (H':=upd H a (.frz o (.dK kvs))) ⟨fun b ob e _ _ _=>e,fun b ob e _ _ _=>⟨ob.slots,e⟩,fun b ob _ n _=>by rw [jC fun z=>by subst z;rw [h] at n;cases n];exact n,fun b ob e _=>⟨ob,e⟩,
  fun b xs e=>by rw [jC (ne b _ e (fun z=>by cases z))];exact e,fun b ob u e=>by rw [jC (ne b _ e (fun z=>by cases z))];exact e,fun b ps e=>⟨#[],by rw [jC (ne b _ e (fun z=>by cases z)),Array.append_empty];exact e⟩⟩ ?_
 . exact this
 . intro b u e;by_cases hb:b=a
   . subst hb;rw [jB] at e;cases e;exact ⟨ho,ok⟩
   . rw [jC hb] at e;refine (I.hok b u e).stay (fun c v _ q=>q) (fun c q=>?_) fun c xs q=>?_
     . rw [jC (ne c _ q (fun z=>by cases z))];exact q
     . rw [jC (ne c _ q (fun z=>by cases z))];exact q
theorem jlh {e:Expr} {t:TE} {pos:Pos} (he:PE X e t):PS X (.Return (some e) pos) (jkz t):=fun pins s σ H D I h=>
 wpAny_Return_some (qr ‹"aI"› fun v s1 z=>by obtain ⟨x,H1,I1,r1,a,kvs,ex,ha,q⟩:=z;obtain ⟨o,I2⟩:=I1.fz ha;exact ⟨x,σ,_,I2,r1,q o⟩)
def epO (o:Obj):Nat:=match o.data with
 | .dict _ ep=>ep
 | _=>0
def szO (o:Obj):Nat:=match o.data with
 | .dict es _=>es.size
 | _=>0
theorem jkX {pins:List (Addr×Obj)} {σ:St} {H:Hp} {s:Shared} {a:Addr} {o:Obj} {kvs:List (zw×V)} (I:Inv X pins σ H s) (h:H a=some (.frz o (.dK kvs))) :
 ∃vs,KV kvs vs/\s.heap.DictAt (jT X.prog X.w) a vs (epO o)/\vs.length=szO o/\(a == sysModules)=false/\kvs.length<=sizeLine:=by
 obtain ⟨ho,z,hd,vs,r,o',es,ep,h1,h2,h3,h4,h5,h6⟩:=(show ObjOk X.prog X.w H s.heap a (.frz o (.dK kvs)) from I.hok a _ h);rw [ho] at h1;cases h1;have e1:epO o=ep:=by unfold epO;rw [h3]
 have e2:szO o=es.size:=by unfold szO;rw [h3]
 refine ⟨vs,r,⟨o,es,ho,h2,by rw [e1];exact h3,h4,h5,h6⟩,?_,hd,z⟩;rw [e2,<- h5.length];simp
theorem jeF {P:Program} {w:World} {i:Int} {u:Value} (h:(jT P w).is (Sum.inl i) u=true):RelV (.int i) u:=by have h':ZN (Sum.inl i) u=true:=h;cases u <;> simp [ZN,Value.isInt] at h' <;> first | (subst h';exact ⟨_,rfl⟩) | skip
theorem jkL {ks:List Int} {vs:List V} {ws:List (zw×Value)} (hl:ks.length=vs.length) (r:KV (qK ks vs) ws):ws.length=ks.length/\∀(i:Nat) k,ks[i]?=some k->∃u,ws[i]?=some (Sum.inl k,u):=by
 have hlen:ws.length=ks.length:=by rw [<-KV.length r,jc4 hl]
 refine ⟨hlen,fun i k hk=>?_⟩;have hi:i<vs.length:=by rw [<-hl];exact (Ym.mp hk).1
 have hz:(qK ks vs)[i]?=some (Sum.inl k,vs[i]):=by unfold qK;rw [YQ];exact ⟨by rw [List.getElem?_map,hk];rfl,Ya hi⟩
 obtain ⟨q,hq,e1,e2⟩:=Paired.get r hz;exact ⟨q.2,by rw [hq];congr 1;exact Prod.ext e1.symm rfl⟩
theorem jjY {P:Program} {w:World} {K:PySem.W.Frag} {tg:Expr} (a it:Addr) (o:Obj):Turn P w K tg (Itd a o) [it] it (fun i h=>h.IsKeyIter it a i (szO o) (epO o)) where
 mem:=by simp
 obj:=fun i h st b hb=>by
  have e:b=it:=by simpa using hb
  subst e;obtain ⟨o,e,c,d⟩:=st;exact ⟨o,e,fun v z=>by rw [d] at z;cases z⟩
 keep:=fun i h h' st k=>st.at fun o e=>k it (by simp) o e
 item:=by intro X hP hw hK hc i pins s σ H E I hf st hg;subst hP hw hK;obtain ⟨ks,vs,hq,hl,hi⟩:=hg;obtain ⟨ws,r,dd,hn,hd,_⟩:=jkX I hq;obtain ⟨hlen,hat⟩:=jkL hl r;obtain ⟨u,hu⟩:=hat i ks[i] (Ya hi);obtain ⟨f0,f1,f2,f3,f4,f5⟩:=hf it (by simp);rw [<-hn] at st;refine wpAny_pyNext_dict_item st dd hu fun key h' hkey st' sb=>?_;rw [hn] at st';have I1:Inv X pins σ H { s with heap:=h' }:=I.turned (t':=s.toks) (fun b o hb e=>(sb.2 b hb).trans e) f0 f1 f3 f4 f5;obtain ⟨o',e,c,d⟩:=id st';refine ⟨key,rfl,jik (s:={ s with heap:=h' }) e c d (by decide) ⟨.int ks[i],H,I1,jeF hkey,⟨rfl,fun ks' vs' hq' hl'=>?_⟩,st',fun b hb=>(hf b hb).1⟩⟩;rw [hq] at hq';have:=jpH hl hl' (Option.some.inj hq');subst this;exact ⟨_,Ya hi,rfl⟩
 done:=by intro X hP hw hK hc i pins s σ H E I hf st hg;subst hP hw hK;obtain ⟨ks,vs,hq,hl,hi⟩:=hg;obtain ⟨ws,r,dd,hn,hd,_⟩:=jkX I hq;obtain ⟨hlen,hat⟩:=jkL hl r;obtain ⟨f0,f1,f2,f3,f4,f5⟩:=hf it (by simp);rw [<-hn] at st;exact wpAny_pyNext_dict_end (I.ok.hd hc) st dd (Yz (by omega)) fun h' eb=>⟨rfl,I.turned (t':=s.toks) (fun b o hb e=>eb b o hb e) f0 f1 f3 f4 f5⟩
 self:=fun _ _ _ _ _ st h=>wpAny_pyIter_keyiter st h
theorem jn2 {tg l:Expr} {tl:TE} (hl:PE X l tl):PI X tg l (jrt tl):=by
 intro pins s σ H R I h;refine qr (hl pins s σ H _ I h) fun v s1 zz=>?_;obtain ⟨x,H1,I1,r1,q1⟩:=zz;obtain ⟨a,o,ks,vs,e,hq,hlen,q⟩:=q1;subst e;cases r1;obtain ⟨ws,r,dd,hn,hd,_⟩:=jkX I1 hq;refine wpAny_pyIter_dict hd dd ?_;rw [hn];refine ⟨s1.heap.objs.size,[s1.heap.objs.size],_,_,H1,rfl,I1.kept (t':=s1.toks) fun b o e=>Yh _ e,jjY a _ o,⟨_,Yy _ rfl,rfl,rfl⟩,fun b hb=>?_,q⟩;have e:b=s1.heap.objs.size:=by simpa using hb
 subst e;exact I1.fpOk (Yq _) (I1.hok.fresh (Yq _))
end
end L2
namespace L2
open PySem PySem.Spec PyProof.Rows
section
variable {X:Cx}
theorem jhT (hc:X.calm=true):CallR X (.type "list") jlw:=fun pins s σ H xs us Q I r ⟨a,ks,vs,e,h,hl,q⟩=>by
 subst e;obtain ⟨u,rfl,ru⟩:=jbM r;cases ru;obtain ⟨z,hd,ws,rel,dd⟩:=QP I.hok h;obtain ⟨ep,dat⟩:=dd.dictAt;obtain ⟨hlen,hat⟩:=jkL hl rel;refine PySem.W.kdl_call (PySem.W.kdl_dict (knd:=jT X.prog X.w) (kvs:=ws) (ep:=ep) hd) (I.ok.hd hc) dat (by rw [hlen,<- jc4 hl];exact z) fun h' tk acc c hk hD hacc=>?_;have hv:Vals (ks.map V.int) acc.toList:=Paired.of (by rw [Yd,<- hlen,<- hacc.1];simp) fun i x y e1 e2=>by rw [List.getElem?_map] at e1;obtain ⟨k,hk',rfl⟩:=map_some e1;obtain ⟨k',u,h1,h2⟩:=hacc.2 i y (by rw [<-yb];exact e2);obtain ⟨u',hu'⟩:=hat i k hk';rw [hu'] at h1;cases h1;exact jeF h2
 refine ⟨.ref s.heap.objs.size,_,I.laid (a:=s.heap.objs.size) (o:=.lst (ks.map V.int)) (t':=tk) hk (Yq _) ⟨by rw [Yd,<- jc4 hl];exact z,acc.toList,c,hv,by rw [Array.toArray_toList];exact hD⟩,rfl,q _ (I.hok.fresh (Yq _))⟩
end
section
variable {prog:Program} {w:World} {A:Around} {E:Value->Shared->Prop} {s:Shared}
def ZA:Int:=0xFCA86420
theorem jfD {Q:Int->Shared->Prop} (h:Q ZA { s with toks:=s.toks+1 }):wpAny (model prog w) A (pyHash .none) Q E s:=by
 have hT:s.TypeIs .none "NoneType":=rfl;unfold pyHash pyHashByItsType;refine Yb ?_;rw [cRoomFor,if_neg (by decide)];refine Yj ?_;refine Yb (yW hT F.slot_NoneType_hash.lookup ?_);show wpAny _ _ (if (some (Value.builtin "NoneType.__hash__") == some Value.none)=true then _ else _) Q E s;rw [if_neg (by rw [beq_builtin_none];exact Yi)];refine Yb (yW hT F.slot_NoneType_hash.lookup ?_);show wpAny _ _ (callSpecialIfBoundUnlessNone? .none "__hash__" _ >>= _) Q E s;refine Yb (wpAny_callSpecialIfBoundUnlessNone?_slot hT F.slot_NoneType_hash
  (yF F.slot_NoneType_hash hT F.entry_NoneType_hash
   (show wpAny _ _ (do ret (<- mkInt ZA)) _ _ s from wpAny_ret_mkInt ?_) (F.args_NoneType_hash_1 _)))
 show wpAny _ _ (if (decide (-(2:Int) ^ 63<=ZA) && decide (ZA<2 ^ 63))=true then _ else _) Q E _;rw [if_pos (by decide)];exact Yj h
def jfq:Option zw->Value->Bool
 | some k,v=>ZN k v
 | none,.none=>true
 | none,_=>false
theorem qm {k:Option zw} {v:Value} (h:jfq k v=true):(k=none/\v=.none)\/∃k',k=some k'/\ZN k' v=true:=by
 cases k with
 | some k=>exact .inr ⟨k,rfl,h⟩
 | none=>cases v <;> first | exact .inl ⟨rfl,rfl⟩ | cases h
theorem jiI {k:zw} {v:Value} (h:ZN k v=true):RelV (kV k) v/\jgn (kV k)=true:=by
 rcases j6 h with ⟨i,t,rfl,rfl⟩ | ⟨x,t,rfl,rfl⟩
 . exact ⟨⟨t,rfl⟩,rfl⟩
 . exact ⟨⟨t,rfl⟩,rfl⟩
def jh7 (prog:Program) (w:World):PySem.KeyKind prog w (Option zw) where
 is:=jfq
 hash:=fun k=>match k with | some k=>jrv w k | none=>ZA
 inj:=fun v a b ha hb=>by
   rcases qm ha with ⟨rfl,rfl⟩ | ⟨a',rfl,ha'⟩
   . rcases qm hb with ⟨rfl,_⟩ | ⟨b',rfl,hb'⟩
     . rfl
     . rcases j6 hb' with ⟨i,t,_,e⟩ | ⟨x,t,_,e⟩ <;> cases e
   . rcases qm hb with ⟨rfl,rfl⟩ | ⟨b',rfl,hb'⟩
     . rcases j6 ha' with ⟨i,t,_,e⟩ | ⟨x,t,_,e⟩ <;> cases e
     . rw [(jT prog w).inj v a' b' ha' hb']
 byValue:=fun k v h=>by
   rcases qm h with ⟨rfl,rfl⟩ | ⟨k',rfl,h'⟩
   . rfl
   . exact (jT prog w).byValue k' v h'
 pyHash:=fun {A E s k v Q} hv h=>by
   rcases qm hv with ⟨rfl,rfl⟩ | ⟨k',rfl,h'⟩
   . exact jfD h
   . exact (jT prog w).pyHash h' h
 eqBool:=fun {A E s a b u v Q} hu hv h=>by
   rcases qm hu with ⟨rfl,rfl⟩ | ⟨a',rfl,ha'⟩
   . rcases qm hv with ⟨rfl,rfl⟩ | ⟨b',rfl,hb'⟩
     . exact jfr (y:=.non) (x:=.non) rfl rfl rfl rfl prog w E Q (by simpa [eqV] using h)
     . obtain ⟨r,f⟩:=jiI hb';have e:eqV .non (kV b')=false:=by cases b' <;> rfl
       exact jfr (y:=.non) rfl r rfl f prog w E Q (by rw [e];simpa using h)
   . rcases qm hv with ⟨rfl,rfl⟩ | ⟨b',rfl,hb'⟩
     . obtain ⟨r,f⟩:=jiI ha';have e:eqV (kV a') .non=false:=by cases a' <;> rfl
       exact jfr (x:=.non) r rfl f rfl prog w E Q (by rw [e];simpa using h)
     . refine (jT prog w).eqBool ha' hb' ?_;have e:decide (some a'=some b')=decide (a'=b'):=by
        by_cases z:a'=b'
        . subst z;simp
        . have:¬some a'=some b':=fun q=>z (Option.some.inj q);rw [YV z,YV this]
       rw [e] at h;exact h
 «strs»:=fun k x t v h=>by
   rcases qm h with ⟨rfl,e⟩ | ⟨k',rfl,h'⟩
   . cases e
   . exact (jT prog w).strs k' x t v h'
end
section
variable {X:Cx} {pins:List (Addr×Obj)} {σ:St} {H:Hp} {s:Shared} {a:Addr} {A:Around} {E:Value->Shared->Prop}
theorem jmm {kvs:List (zw×V)} (I:Inv X pins σ H s) (e:Rd H a (.dK kvs)):∃f,s.heap.MapOf (jh7 X.prog X.w) a f/\f none=none:=by
 obtain ⟨z,hd,vs,rel,dd⟩:=QP I.hok e;obtain ⟨o,es,ep,h1,h2,h3,h4,h5,h6⟩:=dd;refine ⟨findBy jfq es,⟨o,es,ep,h1,h2,h3,fun q hq=>?_,fun k=>rfl⟩,?_⟩
 . obtain ⟨k,k1,k2⟩:=h4 q hq;exact ⟨some k,k1,k2⟩
 . unfold findBy;have:es.find? (fun q=>jfq none q.key)=none:=by
    rw [Array.find?_eq_none];intro q hq hn;obtain ⟨k,k1,k2⟩:=h4 q hq;rcases qm hn with ⟨_,e⟩ | ⟨k',e,_⟩
    . rcases j6 k1 with ⟨i,t,_,e'⟩ | ⟨x,t,_,e'⟩ <;> · rw [e] at e';cases e'
    . cases e
   rw [this];rfl
theorem jpf {kvs:List (zw×V)} {Q:Value → Shared → Prop} (I:Inv X pins σ H s) (e:Rd H a (.dK kvs)) (h:∀s',Inv X pins σ H s' → Q .none s'):wpAny ‹"d"› A (call (.builtin "dict.get") [.ref a,.none]) Q E s:=by obtain ⟨z,hd,vs,rel,dd⟩:=QP I.hok e;obtain ⟨f,hm,hf⟩:=jmm I e;refine K2 yz dd.typeIs y9 (KP _ _) (meets_dict_get (jh7 X.prog X.w) a (k:=none) rfl hd) ⟨f,hm,?_⟩;rw [hf];exact h _ (I.tok _)
end
def jl2 (td ty:TE):TE:=fun σ H Q=>td σ H fun x H1=>∃a,x=.ref a/\IsD H1 a/\ty σ H1 fun y H2=>(∃o,jdO H2 a y o/\Q (o.getD .non) H2)\/(y=.non/\(∃kvs,Rd H2 a (.dK kvs))/\Q .non H2)
theorem jk0 {X:Cx} {o e:Expr} {apos cpos:Pos} {td ty:TE} (hu:X.A.units+1<cLine) (ho:PE X o td) (he:PE X e ty) (m:M1 X o "get" apos e cpos):PE X (.Call (.Attribute o "get" apos) [e] [] cpos) (jl2 td ty):=by
 intro pins s σ H Q I h;refine wpAny_Call_method m.base m.few m.line KO yz PySem.F.type_dict_get (qr (ho pins s σ H _ I h) fun u s1 z=>?_);obtain ⟨x,H1,I1,rx,a,ex,d,q1⟩:=z;subst ex;obtain rfl:u=Value.ref a:=rx;obtain ⟨t1,t2,_⟩:=jhM I1 d;refine ⟨t1,t2,?_⟩;rw [m.trees];refine Ks rfl (ke (yE (qr (he pins s1 σ H1 _ I1 q1) fun iv s2 z=>yV ?_)));obtain ⟨y,H2,I2,ry,q2⟩:=z;rcases q2 with ⟨ov,g,q2⟩ | ⟨ey,⟨kvs,g⟩,q2⟩
 . exact jqF hu I2 g ry fun w' s3 I3 rw'=>⟨_,H2,I3,rw',q2⟩
 . subst ey;obtain rfl:iv=Value.none:=ry;exact jpf I2 g fun s3 I3=>⟨.non,H2,I3,rfl,q2⟩
section
variable [Fr]
def jby:D->D->Option D
 | .dic ks ds,.int i=>some ((qF ks ds i).getD .non)
 | .dic _ _,.non=>some .non
 | _,_=>none
theorem jhP {x y d:D} (q:jby x y=some d):∃ks ds,x=.dic ks ds/\((∃i,y=.int i/\(qF ks ds i).getD .non=d)\/(y=.non/\D.non=d)):=by
 cases x with
 | dic ks ds=>
   refine ⟨ks,ds,rfl,?_⟩;cases y with
   | int i=>exact .inl ⟨i,rfl,Option.some.inj q⟩
   | non=>exact .inr ⟨rfl,Option.some.inj q⟩
   | _=>exact qj q
 | _=>exact qj q
theorem jmJ {td ty:TE} {fd fk:L2.Env->Option D} (hd:zG td fd) (hk:zG ty fk):EOk (jl2 td ty) (jk jby fd fk):=fun G0 H0 G H σ ρ Q d e q k=>by
 obtain ⟨x,qa,q⟩:=bind_some q;obtain ⟨y,qb,q⟩:=bind_some q;obtain ⟨ks,ds,rfl,qz⟩:=jhP q;clear q;refine hd G0 H0 G H σ ρ _ _ e qa fun u G1 H1 x1 r1=>?_;cases r1 with
 | @dic a _ vs _ h hl r=>
   refine ⟨a,rfl,.inl ⟨_,h⟩,hk G0 H0 G1 H1 σ ρ _ y (e.grow x1) qb fun v G2 H2 x2 r2=>?_⟩;have h':=h.same x2.hh;rcases qz with ⟨i,rfl,rfl⟩ | ⟨rfl,rfl⟩
   . (have hh:=RepT.of_int r2;subst hh)
     have r':=r.mono x2.gg;obtain ⟨l1,l2⟩:=jbd r' i hl;refine .inl ⟨_,.inl ⟨_,Sum.inl i,h',rfl,rfl⟩,?_⟩;cases z:qF ks ds i with
     | none=>rw [l2 z];exact k _ G2 H2 (x1.trans x2) (by rw [z];exact .non)
     | some d'=>obtain ⟨v,hv,rv⟩:=l1 d' z;rw [hv];exact k _ G2 H2 (x1.trans x2) (by rw [z];exact rv)
   . (have hh:=RepT.of_non r2;subst hh)
     exact .inr ⟨rfl,⟨_,h'⟩,k _ G2 H2 (x1.trans x2) .non⟩
end
end L2
namespace L2
open PySem PySem.Spec PyProof.Rows
section
variable [Fr]
def joG (t:TE) (f:L2.Env->Option (List (List D))):Prop:=∀G0 H0 G H σ ρ (Q:VK) dss,EnvOk G0 H0 G H σ ρ->f ρ=some dss->
 (∀a bs G' H',Ext G H G' H'->(∀b∈a::bs,H b=none/\G' b=none)->(a::bs).Nodup->H' a=some (.lst (bs.map V.ref))->Rows G' H' bs dss->Q (.ref a) H')->t σ H Q
def jbK (m:D->L2.Env->Option L2.Env) (ft:L2.Env->Option Bool) (fe:L2.Env->Option (List D)) (ρ:L2.Env):List D->Option (List (List D))
 | []=>some []
 | d::ds=>(m d ρ).bind fun ρ1=>(ft ρ1).bind fun b=>if b then (fe ρ1).bind fun y=>(jbK m ft fe ρ ds).map (y::·) else jbK m ft fe ρ ds
def jlv (fi:L2.Env->Option (List D)) (m:D->L2.Env->Option L2.Env) (ft:L2.Env->Option Bool) (fe:L2.Env->Option (List D)) (n:Nat) (ix:List Nat):L2.Env->Option (List (List D)):=fun ρ=>(fi ρ).bind fun ds=>if zI ds.length then jbK m ft fe (Ji n ix ρ) ds else none
theorem Rows.snoc {G H:Hp} {bs:List Addr} {dss:List (List D)} {b:Addr} {us:List V} {ds:List D} (h:Rows G H bs dss) (hb:H b=some (.lst us)) (r:Reps G us ds):Rows G H (bs++[b]) (dss++[ds]):=by
 induction h with
 | nil=>exact .cons hb r .nil
 | cons h q t ih=>exact .cons h q ih
theorem jrY {wi:TI} {fi:L2.Env->Option (List D)} {g:TG} {m:D->L2.Env->Option L2.Env} {tt:TT} {ft:L2.Env->Option Bool} {te:TE} {fe:L2.Env->Option (List D)} (n:Nat) (ix:List Nat) (hi:jjP wi fi) (hg:GOk g m) (ht:TOk tt ft) (he:EOkO te fe) :
 joG (tLC wi g tt te n ix) (jlv fi m ft fe n ix):=fun G0 H0 G H σ ρ Q es e q k=>by
 obtain ⟨ds,q1,q2⟩:=bind_some q;split at q2
 . rename_i hz;refine hi _ _ _ _ _ _ _ _ e q1 fun J G1 H1 x1 it=>?_;refine ⟨fun i n' ys H'=>n'=ds.length-i/\i<=ds.length/\ys.length<=i/\∃G' gs hs bs,Ext G1 H1 G' H'/\ys=bs.map V.ref/\bs.Nodup/\(∀b∈bs,H1 b=none/\G' b=none)/\Rows G' H' bs gs/\jbK m ft fe (Ji n ix ρ) (ds.drop i)=some hs/\gs++hs=es,
    ⟨_,rfl,ye _,Yq _,G1,[],es,[],.refl x1.gh,rfl,List.nodup_nil,(fun b hb=>absurd hb YD),Rows.nil,q2,rfl⟩,?_⟩
   rintro i n' ys H' ⟨rfl,hl,hy,G',gs,hs,bs,x2,ey,nd,own,rows,hlc,hes⟩;have hz':=ZG hz;obtain ⟨go,stop⟩:=it i G' H' x2.gg x2.hh x2.gh;by_cases hlt:i<ds.length
   . have hd:ds[i]?=some ds[i]:=Ya hlt;obtain ⟨g1,g2⟩:=go _ hd;rw [KB hlt] at hlc;simp only [jbK] at hlc;obtain ⟨ρ1,hm,hlc⟩:=bind_some hlc;obtain ⟨b,hb,hlc⟩:=bind_some hlc;refine .inr ⟨g1,by omega,fun ys' H'=>ys'.length<=i+1/\∃G' gs hs bs,Ext G1 H1 G' H'/\ys'=bs.map V.ref/\bs.Nodup/\(∀b∈bs,H1 b=none/\G' b=none)/\Rows G' H' bs gs/\jbK m ft fe (Ji n ix ρ) (ds.drop (i+1))=some hs/\gs++hs=es,fun ys' H' ⟨a0,a⟩=>⟨_,by omega,rfl,by omega,a0,a⟩,fun x H2 y=>?_⟩;obtain ⟨G2,x3,r3⟩:=g2 x H2 y;have e3:EnvOk G0 H0 G2 H2 (JT n σ ix) (Ji n ix ρ):=(jlB n ix e).grow ‹"ae"›;refine hg _ _ _ _ _ _ _ _ _ _ e3 r3 hm fun σ2 e4=>ht _ _ _ _ _ _ _ _ e4 hb fun G4 H4 x4=>?_;have x24:=(x2.trans x3).trans x4;have x34:=x3.trans x4;have keep:∀{G5 H5:Hp},Ext G' H' G5 H5->(∀b∈bs,H1 b=none/\G5 b=none)/\Rows G5 H5 bs gs:=fun {G5 H5} x=>⟨fun b hb=>by
       obtain ⟨us,hu⟩:=rows.there b hb;exact ⟨(own b hb).1,x.gone (own b hb).2 hu⟩,rows.keep x.gg fun b hb=>by
       obtain ⟨us,hu⟩:=rows.there b hb;rw [hu];exact x.hh _ _ hu⟩
     cases b with
     | false=>rw [if_neg Yi] at hlc ⊢;exact ⟨by omega,G4,gs,hs,bs,x24,ey,nd,(keep x34).1,(keep x34).2,hlc,hes⟩
     | true=>
       rw [if_pos rfl] at hlc ⊢;obtain ⟨y',hy',hlc⟩:=bind_some hlc;obtain ⟨hs',hh,hlc⟩:=map_some hlc;subst hlc;refine he _ _ _ _ _ _ _ _ (e4.grow x4) hy' fun a us G5 H5 x5 hn hgn ha r5=>?_;have k5:=keep (x34.trans x5);have na:a∉bs:=fun z=>by obtain ⟨us,hu⟩:=rows.there a z;rw [x34.hh _ _ hu] at hn;cases hn
       refine ⟨by simp;omega,G5,gs++[y'],hs',bs++[a],x24.trans x5,by rw [ey,Y0];rfl,?_,fun c hc=>?_,k5.2.snoc ha r5,hh,by simpa using hes⟩
       . rw [KZ];refine ⟨nd,by simp,fun c hc d hd z=>?_⟩;rw [Yu.mp hd] at z;exact na (z ▸ hc)
       . rcases YZ.mp hc with hc | hc
         . exact k5.1 c hc
         . rw [Yu.mp hc];exact ⟨x24.hh.free hn,hgn⟩
   . have hd:ds[i]?=none:=Y4.mpr (by omega);rw [KW (by omega)] at hlc;cases hlc;rw [yM] at hes;subst hes;refine .inl ⟨stop hd,by omega,fun p hp=>?_⟩;have np:∀b∈bs,b≠p:=fun b hb z=>by obtain ⟨us,hu⟩:=rows.there b hb;rw [z,hp] at hu;cases hu
     refine k p bs G' _ ((x1.trans x2).trans (.new x2.gh hp)) (fun b hb=>?_) (yc.mpr ⟨fun z=>np p z rfl,nd⟩) (by rw [jB,ey]) (rows.keep (.refl _) fun b hb=>jC (np b hb));rcases Yn.mp hb with rfl | hb
     . exact ⟨(x1.trans x2).hh.free hp,x2.gh.free hp⟩
     . exact ⟨x1.hh.free (own b hb).1,(own b hb).2⟩
 . cases q2
def jcq (i:Nat) (fo:L2.Env->Option (List (List D))):FS:=fun ρ=>match fo ρ with
 | some dss=>.next (ρ.set i (.oo dss))
 | none=>.fail
theorem jmA {te:TE} {fo:L2.Env->Option (List (List D))} (i:Nat) (h:joG te fo):SOk (jdK te (jaf i)) (jcq i fo):=fun G0 H0 G H σ ρ E e q=>by
 unfold jcq at q;split at q
 . rename_i dss z;exact h _ _ _ _ _ _ _ _ e z fun a bs G' H' x hn nd ha r=>q G' H' _ x.gg (e.setOO x hn nd ha r)
 . exact q.elim
def jog:V->V->Hp->VK->Prop:=fun o i H Q=>∃p xs k v,o=.ref p/\i=.int k/\H p=some (.lst xs)/\0<=k/\xs[k.toNat]?=some v/\Q v H
def asI:D->Option Int
 | .int i=>some i
 | _=>none
def jq5:Slot->Option (List (List D))
 | .oo d=>some d
 | _=>none
theorem jek {o:Option D} {i:Int} (h:o.bind asI=some i):o=some (.int i):=by obtain ⟨d,h1,h2⟩:=bind_some h;cases d <;> cases h2;exact h1
theorem jqM {o:Option Slot} {d:List (List D)} (h:o.bind jq5=some d):o=some (.oo d):=by obtain ⟨s,h1,h2⟩:=bind_some h;cases s <;> cases h2;exact h1
def jf7 (i:Nat) (fk fl fv:L2.Env->Option D) (g:Int->Int->Int) (ρ:L2.Env):Option L2.Env:=
 (ρ[i]?.bind jq5).bind fun dss=>((fk ρ).bind asI).bind fun k=>((fl ρ).bind asI).bind fun l=>((fv ρ).bind asI).bind fun z=>if 0<=k/\0<=l then dss[k.toNat]?.bind fun ds=>(ds[l.toNat]?.bind asI).map fun y=>ρ.set i (.oo (dss.set k.toNat (ds.set l.toNat (.int (g y z))))) else none
def jcl (i:Nat) (fk fl fv:L2.Env->Option D) (g:Int->Int->Int):FS:=fun ρ=>match jf7 i fk fl fv g ρ with
 | some ρ'=>.next ρ'
 | none=>.fail
theorem jqw {tk tl tv:TE} {fk fl fv:L2.Env->Option D} {g:Int->Int->Int} (i:Nat) (hk:zG tk fk) (hl:EOk tl fl) (hv:EOk tv fv):SOk (jow (tOp (rIx Fr.K) (jeC i) tk) tl tv jog (ipI g) jlu) (jcl i fk fl fv g):=fun G0 H0 G H σ ρ E e q=>by
 unfold jcl at q;cases hq:jf7 i fk fl fv g ρ with
 | none=>rw [hq] at q;exact q.elim
 | some ρ'=>
 rw [hq] at q;unfold jf7 at hq;obtain ⟨dss,z1,hq⟩:=bind_some hq;obtain ⟨k,z2,hq⟩:=bind_some hq;obtain ⟨l,z3,hq⟩:=bind_some hq;obtain ⟨z,z4,hq⟩:=bind_some hq;by_cases hkl:0<=k/\0<=l
 case neg=>rw [if_neg hkl] at hq;cases hq
 rw [if_pos hkl] at hq;obtain ⟨ds,hds,hq⟩:=bind_some hq;obtain ⟨y,hy,hq⟩:=map_some hq;subst hq;replace z1:=jqM z1;replace z2:=jek z2;replace z3:=jek z3;replace z4:=jek z4;replace hy:=jek hy;obtain ⟨a,bs,h1,h2,h3,h4,h5⟩:=e.oo z1;obtain ⟨b,us,b1,b2,b3⟩:=h5.get hds;have hkb:k.toNat<bs.length:=(Ym.mp b1).1;refine ⟨_,h1,hk _ _ _ _ _ _ _ _ e z2 fun kv G1 H1 x1 r1=>?_⟩
 (have hh:=RepT.of_int r1;subst hh)
 refine .inl ⟨a,bs.map V.ref,k,.ref b,rfl,rfl,.inl (.inl (x1.hh _ _ h2)),?_,hl _ _ _ _ _ _ _ _ (e.grow x1) z3 fun lv G2 H2 x2 r2=>?_⟩
 . unfold atI ixN;rw [if_pos hkl.1,Yd,if_pos (by omega)];show (bs.map V.ref)[k.toNat]?=_;rw [List.getElem?_map,b1];rfl
 (have hh:=Rep.of_int r2;subst hh)
 obtain ⟨v,hv1,hv2⟩:=b3.get hy
 (have hh:=Rep.of_int hv2;subst hh)
 have x12:=x1.trans x2;refine ⟨b,us,l,.int y,rfl,rfl,x12.hh _ _ b2,hkl.2,hv1,hv _ _ _ _ _ _ _ _ (e.grow x12) z4 fun zv G3 H3 x3 r3=>?_⟩
 (have hh:=Rep.of_int r3;subst hh)
 have x13:=x12.trans x3;refine ⟨y,z,rfl,rfl,b,us,l,l.toNat,rfl,rfl,x13.hh _ _ b2,?_,?_⟩
 . have:l.toNat<us.length:=(Ym.mp hv1).1;unfold ixN;rw [if_pos hkl.2,if_pos (by omega)]
 . exact q G3 _ σ x13.gg ((e.grow x13).putOO z1 h1 (x13.hh _ _ h2) b1 ((b3.mono x13.gg).set (.int _) _))
def jpt:Slot->Option D
 | .sh d=>some d
 | _=>none
theorem jo8 {o:Option Slot} {d:D} (h:o.bind jpt=some d):o=some (.sh d):=by obtain ⟨s,h1,h2⟩:=bind_some h;cases s <;> cases h2;exact h1
def jnC (i:Nat) (fv:L2.Env->Option D) (g:Int->Int->Int):FS:=fun ρ=>match ((ρ[i]?.bind jpt).bind asI).bind fun y=>((fv ρ).bind asI).map fun z=>(y,z) with
 | some p=>.next (ρ.set i (.sh (.int (g p.1 p.2))))
 | none=>.fail
theorem jsi {tv:TE} {fv:L2.Env->Option D} {g:Int->Int->Int} (i:Nat) (hv:EOk tv fv):SOk (jsd i tv (ipI g)) (jnC i fv g):=fun G0 H0 G H σ ρ E e q=>by
 unfold jnC at q;cases hq:((ρ[i]?.bind jpt).bind asI).bind fun y=>((fv ρ).bind asI).map fun z=>(y,z) with
 | none=>rw [hq] at q;exact q.elim
 | some p=>
 rw [hq] at q;obtain ⟨y,z1,hq⟩:=bind_some hq;obtain ⟨z,z2,hq⟩:=map_some hq;subst hq;obtain ⟨v,h1,r⟩:=e.sh (jo8 (jek z1))
 (have hh:=Rep.of_int r;subst hh)
 refine ⟨_,h1,hv _ _ _ _ _ _ _ _ e (jek z2) fun zv G1 H1 x1 r1=>?_⟩
 (have hh:=Rep.of_int r1;subst hh)
 exact ⟨y,z,rfl,rfl,q G1 H1 _ x1.gg ((e.grow x1).set (.int _))⟩
theorem jpW {t:TS}:SOk t fun _=>.fail:=fun G0 H0 G H σ ρ E e q=>q.elim
end
section
variable {X:Cx}
theorem jku:jrj X jog:=fun pins s σ H o i ov iv Q I ro ri zz=>by obtain ⟨p,xs,k,v,e1,e2,hp,h0,hx,q⟩:=zz;subst e1;subst e2;cases ro;obtain ⟨t,rfl⟩:=ri;obtain ⟨its,r,pl,hz⟩:=I.list (.inl (.inl hp));obtain ⟨w,ew,rw'⟩:=r.get hx;have hl:=r.length;have hn:=jat;have hlt:k.toNat<xs.length:=(Ym.mp hx).1;exact wpAny_getItem_list pl.isList h0 (by omega) (by simpa using ew) ⟨v,H,I,rw',q⟩
end
end L2
namespace L2
open PySem PySem.Spec PyProof.Rows
section
variable {prog:Program} {w:World} {A:Around} {E:Value->Shared->Prop} {s:Shared}
theorem jhy:typeLookup (.type "list_reverseiterator") "__len__"=pure none:=by rw [KM,Kd];kernel_rfl
theorem jlc:typeLookup (.type "list_reverseiterator") "__length_hint__"=pure (some (.builtin "list_reverseiterator.__length_hint__")):=by rw [KM,Kd];kernel_rfl
theorem jkx {a:Addr} {Q:Bool → Shared → Prop} (hT:s.TypeIs (.ref a) "list_reverseiterator") (h:Q false s):wpAny (model prog w) A (Builtin.List.listLengthHint (.ref a)) Q E s:=by
 unfold Builtin.List.listLengthHint;refine Yb (yW hT jhy ?_);show wpAny _ _ (specialOf (Value.ref a) (Str.ofString "__length_hint__") >>= _) _ _ s;refine Yb (yW hT jlc ?_);generalize hid:("list_reverseiterator.__length_hint__":String)=id0
 wp_delta
 rw [show splitId id0=some ("list_reverseiterator","__length_hint__") from by subst hid;decide +kernel];subst hid;refine Yb (K6 (T := "list_reverseiterator") (b:=true) hT (by rw [isSubtype_type];kernel_rfl) ?_);refine Ki (fun hab=>absurd hab (by decide)) (fun _=>?_);refine Ki (fun _=>?_) (fun hab=>absurd ‹"aL"› hab);refine Ki (fun hab=>absurd hab ‹"aL"›) (fun _=>?_);exact Yj h
theorem jkW {it l:Addr} {items:Array Value} {Q:Value->Shared->Prop} (hh:A.handled=none) (hne:l≠it) (hit:s.heap.IsRevIter it l ((items.size:Int)-1)) (hl:s.heap.IsList l items) (hn:items.size<=sizeLine)
 (hQ:∀h' tk acc c,(∀b o,b≠it → s.heap.get? b=some o → h'.get? b=some o) → h'.get? s.heap.objs.size=some { cls:=.type "list",dict:=none,data:=.seq acc c,slots:=#[] } → ItemsOf (fun i v=>items[items.size-1-i]?=some v) acc items.size → Q (.ref s.heap.objs.size) { s with heap:=h',toks:=tk }) :
 wpAny (model prog w) A (call (.type "list") [.ref it]) Q E s:=by
 refine callType_codes (Q₁:=fun obj s₁=>obj=.ref s.heap.objs.size ∧ s₁={ s with heap:=s.heap.push { cls:=.type "list",data:=.seq #[] } }) PySem.F.called_list (PySem.F.typeCall_list_1 _) PySem.F.entry_list_init (code_list_new _ ⟨rfl,rfl⟩) fun obj s₁ e₁=>?_;obtain ⟨rfl,rfl⟩:=e₁;generalize hSd:s.heap.objs.size=S at *
 have hS:(s.heap.push { cls:=.type "list",data:=.seq #[] }).get? S=some { cls:=.type "list",data:=.seq #[] }:=by rw [← hSd];exact Yy _ rfl
 refine ⟨⟨_,hS,rfl⟩,PySem.F.args_list_init_2 _ _,?_⟩;generalize hG:s.heap.push { cls:=.type "list",data:=.seq #[] }=G at *
 have up:∀b o,s.heap.get? b=some o->G.get? b=some o:=fun b o e=>by rw [<-hG];exact Yh _ e
 have nS:∀b o,s.heap.get? b=some o->b≠S:=fun b o e=>by rw [<-hSd];exact Yv (Yw e)
 obtain ⟨oi,ei,_⟩:=id hit;obtain ⟨ol,el,_⟩:=id hl;have itS:=nS _ _ ei;have lS:=nS _ _ el;show wpAny _ _ (do let old <- Builtin.List.listItems (.ref S);Builtin.List.listUpdate (.ref S) (fun _=>#[]);letGo old.toList.reverse;Builtin.List.listExtendWith (.ref S) (.ref it) .none) _ _ _;refine Yb ?_;unfold Builtin.List.listItems;refine Yb (yQ hS rfl (Yj ?_));show wpAny _ _ (updateSeq S (fun _=>#[]) >>= fun _=>letGo (#[]:Array Value).toList.reverse >>= fun _=>Builtin.List.listExtendWith (.ref S) (.ref it) .none) _ _ _;refine Yb (yg hS rfl ?_);have hS2:=YU (Obj.mapSeq (fun _=>(#[]:Array Value))) hS rfl;refine Yb (kl ?_);have sb1:Heap.SameBut S G (G.update S ‹"aW"›):=Heap.SameBut.update ..
 generalize G.update S ‹"aW"›=G1 at hS2 sb1 ⊢;have up1:∀b o,s.heap.get? b=some o->G1.get? b=some o:=fun b o e=>sb1.extBut b o (nS b o e) (up b o e);have W:=Walks.listRev (prog:=prog) (w:=w) (A:=A.in1.in1) hh it l hne items;have hSf:S∉[it,l]:=by simp only [Yn,YD,Kv,not_or];exact ⟨Ne.symm itS,Ne.symm lS⟩
 have key:∀(R:Result → Shared → Prop),(∀h' tk acc c,(∀b o,b≠it → s.heap.get? b=some o → h'.get? b=some o) → h'.get? S=some { cls:=.type "list",dict:=none,data:=.seq acc c,slots:=#[] } → ItemsOf (fun i v=>items[items.size-1-i]?=some v) acc items.size → R (.ok (.ret .none)) { s with heap:=h',toks:=tk }) →
  ∀(h:Heap) (c₁ tk:Nat),(∀b o,s.heap.get? b=some o → h.get? b=some o) → h.get? S=some { cls:=.type "list",data:=.seq #[] c₁ } →
  codeAny (model prog w) A.in1 (.builtin "list.extend.loop" ⟨[.ref S,.ref it,.none],[]⟩) R { s with heap:=h,toks:=tk }:=fun R hR h c₁ tk hk hS₁=>by
  refine codeAny_extend_loopS W.toS hn S hSf .none items.size 0 { s with heap:=h,toks:=tk } #[] c₁ rfl (ye _) ⟨ye _,?_,hl.at fun o e=>hk _ o e⟩ hS₁ (ItemsOf.nil _) fun s' acc' c' hm hS' hacc=>?_
  . have:=hit.at (h':=h) fun o e=>hk _ o e;simpa using this
  . rw [Moved.eq_with hm];refine hR s'.heap s'.toks acc' c' (fun b o hb e=>hm.heap b o (fun hmem=>?_) (hk b o e)) hS' hacc;rcases Yn.mp hmem with e' | hmem
    . exact nS _ _ e e'
    . exact hb (Yu.mp hmem)
 unfold Builtin.List.listExtendWith;have hit1:G1.IsRevIter it l ((items.size:Int)-1):=hit.at fun o e=>up1 _ o e;refine Yb (wpAny_typeOf (T := "list_reverseiterator") (Heap.IsRevIter.typeIs (s:={ s with heap:=G1 }) hit1) ?_);have hsr:Builtin.List.listSameRef (.ref S) (.ref it)=false:=by simp [Builtin.List.listSameRef,Ne.symm itS]
 have t1:(Value.type "list_reverseiterator" == Value.type "list")=false:=by decide
 have t2:(Value.type "list_reverseiterator" == Value.type "tuple")=false:=by decide
 simp only [hsr,t1,t2,Bool.or_false,YY,yu];refine Yb (wpAny_pyIter_revIter hit1 ?_);refine Yb (Y8 (jkx (Heap.IsRevIter.typeIs (s:={ s with heap:=G1 }) hit1) ?_));refine Ki (fun _=>?_) (fun _=>Yj ⟨yt Ke _,key _ (fun h' tk acc c h1 h2 h3=>⟨rfl,hQ h' tk acc c h1 h2 h3⟩) _ _ _ up1 hS2⟩);refine Yb (kj ?_);refine Yb ?_;show wpAny _ _ (updateSeq S (·.push .none) >>= fun _=>updateSeq S (·.pop)) _ _ _;refine Yb (yg hS2 rfl ?_);have hS3:=YU (Obj.mapSeq (·.push Value.none)) hS2 rfl;have sb2:Heap.SameBut S G1 (G1.update S (Obj.mapSeq (·.push Value.none))):=Heap.SameBut.update ..
 generalize G1.update S (Obj.mapSeq (·.push Value.none))=G2 at hS3 sb2 ⊢;refine yg (hz:=by seq_fits) hS3 rfl ?_;have hS4:=YU (Obj.mapSeq (·.pop)) hS3 rfl;have sb3:Heap.SameBut S G2 (G2.update S (Obj.mapSeq (·.pop))):=Heap.SameBut.update ..
 generalize G2.update S (Obj.mapSeq (·.pop))=G3 at hS4 sb3 ⊢;refine Yj ⟨yt Ke _,key _ (fun h' tk acc c h1 h2 h3=>⟨rfl,hQ h' tk acc c h1 h2 h3⟩) _ _ _ (fun b o e=>sb3.extBut b o (nS b o e) (sb2.extBut b o (nS b o e) (up1 b o e))) hS4⟩
end
def jdq (K:PySem.W.Frag) (ta:TA):TE:=fun σ H Q=>ta σ H fun vs H1=>∃p xs,vs=[.ref p]/\Jp K H1 p xs/\∀l,H1 l=none->Q (.ref l) (upd H1 l (.lst xs.reverse))
section
variable {X:Cx}
theorem jhi {a:Expr} {ta:TA} {p1 p2 pos1 pos2:Pos} (hc:X.calm=true) (hg1:Gl X "list") (hm1:X.mg "list"=none) (hg2:Gl X "reversed") (hm2:X.mg "reversed"=none) (ha:PA X [a] ta)
 (hs:autoParam (starEach [a] X.env=[(false,eval a X.env)]) QA.a4._auto_1)
 (hs3:autoParam (starEach [.Call (.Name "reversed" p2) [a] [] pos2] X.env=[(false,eval (.Call (.Name "reversed" p2) [a] [] pos2) X.env)]) QA.a4._auto_1) :
 PE X (.Call (.Name "list" p1) [.Call (.Name "reversed" p2) [a] [] pos2] [] pos1) (jdq X.K ta):=by
 intro pins s σ H Q I h;refine Call_ (JN I hg1 hm1 boot_list (Y5 ?_ hs3 rfl));rw [hs3];show wpAny _ _ (spliced ((false,eval (.Call (.Name "reversed" p2) [a] [] pos2) X.env)::backTo pos1 [])) _ _ s;refine yE (Call_ (JN I hg2 hm2 boot_reversed (Y5 (qr (ha pos2 pins s σ H _ I h) fun us s1 zz=>?_) hs rfl)));obtain ⟨vs,H1,I1,r1,q1⟩:=zz;obtain ⟨pa,xs,e,hp,q⟩:=q1;subst e;obtain ⟨u,rfl,ru⟩:=Vals.one r1;cases ru;obtain ⟨its,rx,pl,hz⟩:=I1.list hp;have lx:=rx.length;have lta:@LT.lt Nat instLTNat pa s1.heap.objs.size:=by obtain ⟨_,e,_⟩:=pl.isList;exact ltN e
 refine call_reversed_list pl.isList ?_;refine yV ?_;have up:∀b o,s1.heap.get? b=some o->(s1.heap.push (revObj pa ((its.toArray.size:Int)-1))).get? b=some o:=fun b o e=>Yh _ e;have hsz:(s1.heap.push (revObj pa ((its.toArray.size:Int)-1))).objs.size=s1.heap.objs.size+1:=yh ..
 refine jkW (items:=its.toArray) (I.ok.hd hc) (l:=pa) (Yv lta) ⟨_,Yy _ rfl,rfl,rfl⟩ (pl.isList.at fun o e=>up _ o e) (by simp;omega) fun h' tk acc c hk hD hacc=>?_;have hv:Vals xs.reverse acc.toList:=Paired.of (by rw [kx,lx];have:=hacc.1;simpa using this.symm) fun i x y e1 e2=>by
  have e3:=hacc.2 i y (by rw [<-yb];exact e2);have hi:i<xs.length:=by simpa using (Ym.mp e1).1
  rw [List.getElem?_reverse hi] at e1;have e4:its[xs.length-1-i]?=some y:=by rw [lx];simpa using e3
  obtain ⟨y',h1,h2⟩:=Paired.get rx e1;rw [e4] at h1;cases h1;exact h2
 have hD':h'.get? (s1.heap.objs.size+1)=some { cls:=.type "list",dict:=none,data:=.seq acc c,slots:=#[] }:=by have:=hD;rw [hsz] at this;exact this
 have I2:=I1.laid (a:=s1.heap.objs.size+1) (o:=.lst xs.reverse) (t':=tk) (h':=h') (fun b o e=>hk b o (Yv (Yw e)) (up b o e)) (KG _) ⟨by rw [kx];exact hz,acc.toList,c,hv,by rw [Array.toArray_toList];exact hD'⟩;refine ⟨.ref (s1.heap.objs.size+1),_,I2,?_,q _ (I1.hok.fresh (KG _))⟩;show Value.ref _=Value.ref _;rw [hsz]
end
section
variable [Fr]
def jmk:List D->Option (List D)
 | [.lst l]=>some l.reverse
 | _=>none
theorem jq6 {As:TA} {fs:L2.Env->Option (List D)} (h:jbB As fs):EOkO (jdq Fr.K As) (ji jmk fs):=fun G0 H0 G H σ ρ Q es e q k=>by
 obtain ⟨ds,q1,q2⟩:=bind_some q;refine h _ _ _ _ _ _ _ _ e q1 fun vs G1 H1 x1 r1=>?_;unfold jmk at q2;split at q2
 . cases q2;cases r1 with
   | cons r t=>cases t;obtain ⟨_,_,rfl,h,r⟩:=r.of_lst;exact ⟨_,_,rfl,.inl h,fun l hl=>k l _ G1 _ (x1.trans (.new x1.gh hl)) (x1.hh.free hl) (x1.gh.free hl) jB r.reverse⟩
 . cases q2
end
def jok:R2:=fun x y H Q=>∃l xs n,x=.ref l/\y=.int n/\Rd H l (.lst xs)/\0<=n/\xs.length*n.toNat<=sizeLine/\n<2 ^ 63/\∀p,H p=none->Q (.ref p) (upd H p (.lst (List.replicate n.toNat xs).flatten))
section
variable {X:Cx}
theorem jgR {xs:List V} {its:List Value} (r:Vals xs its):∀n,Vals (List.replicate n xs).flatten (List.replicate n its).flatten
 | 0=>.nil
 | n+1=>by rw [yw,yw,Kx,Kx];exact r.append (jgR r n)
theorem jga {α} (its:Array α):∀(n:Nat) (acc:Array α),List.foldl (fun x1 x2=>x1++x2) acc (List.replicate n its)=(acc.toList++(List.replicate n its.toList).flatten).toArray
 | 0,acc=>by simp
 | n+1,acc=>by rw [yw,List.foldl_cons,jga its n];simp [yw]
theorem jmR:OpR X (binaryOp .Mult) jok:=by
 intro pins s σ H x y v u Q I rx ry h;obtain ⟨l,xs,n,rfl,rfl,hH,h0,hz,h63,q⟩:=h;cases rx;obtain ⟨t,rfl⟩:=ry;obtain ⟨z,its,k,r,e⟩:=hH.ok I.hok;have hl:=r.length;have e24:sizeLine=2 ^ 24:=by rw [PySem.sizeLine_eq]
 have e9:its.toArray.size*n.toNat=xs.length*n.toNat:=by rw [YI,hl]
 refine wpAny_binaryOp_repeat_ref (T := "list") (U:="int") (by decide) ⟨_,e,rfl⟩ (fun s'=>typeIs_int s' n t) noFill_list_mul PySem.F.fills_int_mul PySem.F.slot_int_rmul repeat_list PySem.F.slot_int_index.lookup
  (call_meets PySem.F.slot_int_rmul (typeIs_int s n t) PySem.F.entry_int_rmul (PySem.F.args_int_rmul_2 _ _) (int___rmul___int_list n t l its.toArray k)
   ⟨e,rfl,⟨_,e,rfl⟩,call_meets PySem.F.slot_list_mul ⟨_,e,rfl⟩ PySem.F.entry_list_mul (PySem.F.args_list_mul_2 _ _)
     (AutoListH.list___mul___list_int_3 l its.toArray k n t (by simp [Builtin.List.listFitsIndex];omega) (by omega) (by simp [Builtin.List.listTooLong];rw [<-hl];omega))
     ⟨e,?_⟩⟩)
 have ea:List.foldl (fun x1 x2=>x1++x2) #[] (List.replicate (if its.toArray.isEmpty=true then 0 else n.toNat) its.toArray)=((List.replicate n.toNat its).flatten).toArray:=by
  rw [jga];cases its with
  | nil=>simp
  | cons a as=>simp
 rw [ea];exact ⟨.ref _,_,I.lnew (t':=s.toks) (jgR r _) (by rw [List.length_flatten];simp;rw [Nat.mul_comm];exact hz),rfl,q _ I.fresh⟩
end
section
variable [Fr]
def jnS:D->D->Option (List D)
 | .lst l,.int n=>if 0<=n/\l.length*n.toNat<=sizeLine/\n<2 ^ 63 then some (List.replicate n.toNat l).flatten else none
 | _,_=>none
theorem jgU {G:Hp} {vs:List V} {ds:List D} (r:Reps G vs ds):∀n,Reps G (List.replicate n vs).flatten (List.replicate n ds).flatten
 | 0=>.nil
 | n+1=>by rw [yw,yw,Kx,Kx];exact r.append (jgU r n)
theorem jsB:jqf jok jnS:=fun G H x y dx dy d Q s rx ry q k=>by
 unfold jnS at q;split at q
 . split at q
   . rename_i hz;cases q;obtain ⟨_,_,rfl,h,r⟩:=rx.of_lst;cases ry with
     | int n=>exact ⟨_,_,_,rfl,rfl,h,hz.1,by rw [r.length];exact hz.2.1,hz.2.2,fun p hp=>k p _ G _ (.new s hp) hp (s.free hp) jB (jgU r _)⟩
   . cases q
 . cases q
end
section
variable {prog:Program} {w:World} {A:Around} {E:Value->Shared->Prop} {s:Shared}
end
section
variable {X:Cx}
end
section
variable [Fr]
end
end L2
namespace L2
open PySem PySem.Spec PyProof.Rows
structure WD (M:Fm) (e:Expr) (f:L2.Env->Option (List Int×List D)):Prop where
 h:∃t,(∀i,PE (M.X i) e t)/\@EOkD M.fr t f
section
variable {M:Fm} {a b c e o:Expr} {es:List Expr} {fa fb fc fe:L2.Env->Option D} {fo:L2.Env->Option (List D)} {fs:L2.Env->Option (List D)} {fd:L2.Env->Option (List Int×List D)} {ga gb:L2.Env->Option Bool} {pos p apos cpos:Pos} {x:Str}
theorem jr7 (ha:WT M a fa) (hb:WT M b fb):WO M (.BinOp a .Mult b pos) (jk jnS fa fb):=let ⟨_,h1,h2⟩:=ha.h;let ⟨_,k1,k2⟩:=hb.h;⟨_,fun j=>jkp jmR (h1 j) (k1 j),@joO M.fr _ _ _ _ _ _ (@jsB M.fr) h2 k2⟩
theorem jrN {p1 p2 pos1 pos2:Pos} (hg1:∀j,Gl (M.X j) "list") (hm1:∀j,(M.X j).mg "list"=none) (hg2:∀j,Gl (M.X j) "reversed") (hm2:∀j,(M.X j).mg "reversed"=none) (ha:WAT M [a] fs) (h:autoParam (qd a=false) QA.a4._auto_1) :
 WO M (.Call (.Name "list" p1) [.Call (.Name "reversed" p2) [a] [] pos2] [] pos1) (ji jmk fs):=
 let ⟨_,h1,h2⟩:=ha.h
 ⟨jdq M.K _,fun j=>by have:=jhi (p1:=p1) (p2:=p2) (pos1:=pos1) (pos2:=pos2) (M.calm j) (hg1 j) (hm1 j) (hg2 j) (hm2 j) (h1 j) (by rw [qf h];rfl) (by rw [qf rfl];rfl);rw [M.hK j] at this;exact this,@jq6 M.fr _ _ h2⟩
theorem jbE {n:Nat} (h:n+64<cLine):n+1<cLine:=by omega
theorem joJ (hu:∀j,(M.X j).A.units+64<cLine):WCmp M .In (jaD false):=⟨_,fun j=>jqN (jbE (hu j)),@job M.fr false⟩
theorem jl1 (hu:∀j,(M.X j).A.units+64<cLine):WCmp M .NotIn (jaD true):=⟨_,fun j=>jkb (jbE (hu j)),@job M.fr true⟩
theorem jpV (hu:∀j,(M.X j).A.units+64<cLine) (ha:WT M a fa) (hb:WT M b fb) (hs:autoParam (jp6 b) QA.a12._auto_1):WE M (.Subscript a b pos) (jk jiu fa fb):=let ⟨_,h1,h2⟩:=ha.h;let ⟨_,k1,k2⟩:=hb.h;⟨_,fun j=>jnc (jbE (hu j)) (h1 j) (k1 j) hs,@jpY M.fr _ _ _ _ h2 k2⟩
theorem jnY (hu:∀j,(M.X j).A.units+64<cLine) (ha:WT M o fa) (hb:WT M e fb) (h':autoParam (qd e=false) QA.a4._auto_1)
 (hbase:autoParam (∀j,attributeBase o "get" (M.X j).env (eval o (M.X j).env)=eval o (M.X j).env) QA.a3._auto_1) (hline:autoParam (‹"ak"›=true) QA.a4._auto_1):WE M (.Call (.Attribute o "get" apos) [e] [] cpos) (jk jby fa fb):=
 let ⟨_,h1,h2⟩:=ha.h;let ⟨_,k1,k2⟩:=hb.h;⟨_,fun j=>jk0 (jbE (hu j)) (h1 j) (k1 j) ⟨hbase j,by rw [qf h'];rfl,hline,by rw [qf h'];rfl⟩,@jmJ M.fr _ _ _ _ h2 k2⟩
theorem jmt:WBO M (.type "list") jc7:=⟨_,fun j=>jhT (M.calm j),@jmY M.fr⟩
theorem jk2:WD M (.Dict [] [] pos) jiv:=⟨_,fun _=>jkO,@joW M.fr⟩
theorem js3 (ha:WE M a fa) (hb:WE M b fb):WD M (.Dict [some a] [b] pos) (jlt fa fb):=let ⟨_,h1,h2⟩:=ha.h;let ⟨_,k1,k2⟩:=hb.h;⟨_,fun j=>jn6 (jmg (h1 j) (k1 j) jnX) rfl rfl (by simp) (by show 1<=15;decide),@jo2 M.fr _ _ _ _ h2 k2⟩
theorem jmZ (hg:∀j,Gl (M.X j) "dict") (hm:∀j,(M.X j).mg "dict"=none) (ha:WAT M [e] fs) (h:autoParam (qd e=false) QA.a4._auto_1):WD M (.Call (.Name "dict" p) [e] [] pos) (ji jfg fs):=let ⟨_,h1,h2⟩:=ha.h;⟨_,fun j=>jbA jhl (hg j) (hm j) boot_dict (h1 j) (by decide) (by decide) (qf h) (JK rfl),@jmS M.fr _ _ h2⟩
theorem jpq {tg:Expr} (h:WE M e fe):WI M tg e (jet fe):=let ⟨_,h1,h2⟩:=h.h;⟨_,fun j=>jn2 (h1 j),@jrs M.fr _ _ h2⟩
variable {m:D->L2.Env->Option L2.Env} {tg iter:Expr} {st:Stmt} {sts body:List Stmt} {F F' B:FS}
theorem jeP {i:Nat} {pos':Pos} (h:WD M e fd) (hN:∀j,(M.X j).N.Nodup) (hi:M.N[i]?=some x) (hx:∀j,Loc (M.X j).env.scope x) (hf:∀j,(M.X j).fn x=true\/(M.X j).env.scope.names.lookup x=some .local) (hs:autoParam ‹"6"› QA.a3._auto_1) :
 WS M (.Assign [.Name x pos'] e pos) (jdU i fd):=let ⟨_,h1,h2⟩:=h.h;⟨_,fun j=>jhR (hN j) (by rw [M.hN j];exact hi) (hx j) (h1 j) (hs j) (hf j),@jpO M.fr _ _ i h2⟩
theorem je8 {i:Nat} {pos':Pos} {y:Str} {py:Pos} (hu:∀j,(M.X j).A.units+64<cLine) (hN:M.N[i]?=some y) (hv:∀j,Vis (M.X j).env.scope y) (hk:WE M b fb) (h:WE M e fe) (hd:autoParam ‹"aH"› QA.a1._auto_1) (hcd:autoParam ‹"aZ"› QA.a1._auto_1)
 (hs:autoParam (∀j,swapsWith e (some (.Subscript (.Name y py) b pos')) pos.line (M.X j).env=pure false) QA.a3._auto_1):WS M (.Assign [.Subscript (.Name y py) b pos'] e pos) (Zr i fb fe):=
 let ⟨_,a1,a2⟩:=h.h;let ⟨_,b1,b2⟩:=hk.h;⟨_,fun j=>jnf (jbE (hu j)) ‹"1"› (b1 j) (a1 j) (hs j),@jpn M.fr _ _ _ _ i b2 a2⟩
theorem jiP (i:Nat) (hN:autoParam (M.N[i]?=some x) QA.a4._auto_1) (hv:autoParam (∀j,Vis (M.X j).env.scope x) QA.a7._auto_1) (hd:autoParam ‹"i"› QA.a1._auto_1)
 (hcd:autoParam ‹"al"› QA.a1._auto_1):WS M (.Return (some (.Name x p)) pos) (jf5 i):=⟨_,fun j=>jlh ‹"1"›,@jpG M.fr i⟩
theorem jkH:WS M st (fun _=>.fail):=⟨fun _ _ _=>False,fun _ _ _ _ _ _ _ h=>h.elim,@jpW M.fr _⟩
variable {ifs:List Expr} {scope sc:Scope} {Lc Fn:List Str} {ix:List Nat}
theorem jnj {i:Nat} {y:Str} {py spos:Pos} (hNd:∀j,(M.X j).N.Nodup) (hy:M.N[i]?=some y) (hyl:∀j,(M.X j).env.scope.names.lookup y=some .local) (hsc:∀j,(M.X j).env.scope=sc) (ok:LcOk sc M.N scope Fn ix) (hi:WIT M tg iter fo) (hg:WL ‹"ao"› Lc.length tg m) (ht:WTs ‹"ao"› ifs ga) (he:WO ‹"ao"› e fs)
 (hsw:autoParam (∀j,swapsWith ‹"M"› (some (.Name y py)) spos.line (M.X j).env=pure true) QA.a3._auto_1) (hs:autoParam ‹"4"› QA.a10._auto_1):WS M (.Assign [.Name y py] ‹"M"› spos) (jcq i (jlv fo m ga fs Lc.length ix)):=
 let ⟨_,i1,i2⟩:=hi.h;let ⟨_,g1,g2,g3⟩:=hg.h;let ⟨_,t1,t2⟩:=ht.h;let ⟨_,e1,e2⟩:=he.h
 ⟨_,fun j=>jdd (hNd j) (by rw [M.hN j];exact hy) (hyl j) (hsc j) (M.hN j) (M.calm j) ok (i1 j) (fun C s H fp=>g1 (j,C,s,H,fp)) g3 (fun C s H fp=>t1 (j,C,s,H,fp)) (fun C s H fp=>e1 (j,C,s,H,fp)) (hsw j) (hs j),@jmA M.fr _ _ i (@jrY M.fr _ _ _ _ _ _ _ _ _ _ i2 g2 t2 e2)⟩
structure WIp (M:Fm) (op:Operator) (g:Int->Int->Int):Prop where
 h:∀j,PIp (M.X j) op (ipI g)
theorem joC:WIp M .Add (fun i j=>i+j):=⟨fun _=>jpN⟩
theorem jsu:WIp M .Sub (fun i j=>i-j):=⟨fun _=>jo1⟩
theorem jp2 {i:Nat} {op:Operator} {g:Int->Int->Int} {pos':Pos} (ho:WIp M op g) (h:WE M e fe) (hN:∀j,(M.X j).N.Nodup) (hi:M.N[i]?=some x) (hx:∀j,Loc (M.X j).env.scope x) (hf:∀j,(M.X j).fn x=true\/(M.X j).env.scope.names.lookup x=some .local) :
 WS M (.AugAssign (.Name x pos') op e pos) (jnC i fe g):=let ⟨_,h1,h2⟩:=h.h;⟨_,fun j=>jqS (hN j) (by rw [M.hN j];exact hi) (hx j) (h1 j) (ho.h j) (hf j),@jsi M.fr _ _ g i h2⟩
theorem jim {i:Nat} {y:Str} {py p1 tpos:Pos} {op:Operator} {g:Int → Int → Int} (ho:WIp M op g) (hN:M.N[i]?=some y) (hv:∀j,Vis (M.X j).env.scope y) (hk:WT M a fa) (hl:WE M b fb) (h:WE M e fe) (hd:autoParam ‹"aH"› QA.a1._auto_1) (hcd:autoParam ‹"aZ"› QA.a1._auto_1) (hs:autoParam (jeQ a) QA.a8._auto_1)
 (ha:autoParam (∀ov iv new,augStore b ov iv new=(do holding [new,ov,iv] (setItem ov iv new);release [new,ov,iv] [];pure .next)) QA.a5._auto_1):WS M (.AugAssign (.Subscript (.Subscript (.Name y py) a p1) b tpos) op e pos) (jcl i fa fb fe g):=
 let ⟨_,a1,a2⟩:=hk.h;let ⟨_,b1,b2⟩:=hl.h;let ⟨_,e1,e2⟩:=h.h
 ⟨_,fun j=>jm1 (joy (r:=rIx M.K) (by rw [<-M.hK j];exact jld) ‹"1"› (a1 j) hs) (b1 j) jku (e1 j) (ho.h j) jfI ha,@jqw M.fr _ _ _ _ _ _ g i a2 b2 e2⟩
end
end L2
namespace L2
open PySem PySem.Spec PyProof.Rows
abbrev TLk:=V->TT
section
variable {X:Cx} {op op':CmpOp} {ops:List CmpOp} {b b' a:Expr} {bs:List Expr} {r:R2} {tb ta:TE} {l:TLk} {pos:Pos}
end
section
variable [Fr]
variable {r:R2} {f:D->D->Option D} {ta tb:TE} {fa fb:L2.Env->Option D} {l:TLk} {m:D->L2.Env->Option Bool}
end
section
variable {M:Fm} {a b b':Expr} {bs:List Expr} {op op':CmpOp} {ops:List CmpOp} {f:D->D->Option D} {fa fb:L2.Env->Option D} {m:D->L2.Env->Option Bool} {pos:Pos}
end
end L2
namespace L2
open PySem PySem.Spec PyProof.Rows
def jhS:V->List V->Hp->VK->Prop:=fun x vs H Q=>∃(l:Addr) (bs:List Bool) (b:Bool),x=.ref l/\vs=[.bl b]/\Rd H l (.lst (bs.map V.bl))/\Q (.int ((bs.countP (· == b):Nat):Int)) H
theorem jfJ:∀{bs:List Bool} {its:List Value},Vals (bs.map V.bl) its->its=bs.map Value.bool
 | [],_,h=>by cases h;rfl
 | b::bs,_,h=>by
   cases h with
   | cons r t=>cases r;rw [jfJ t];rfl
section
variable {X:Cx}
theorem jl5:MtR X "list.count" jhS:=by
 intro pins s σ H x vs v us Q I rx rv h;obtain ⟨l,bs,b,rfl,rfl,hH,q⟩:=h;cases rx;obtain ⟨u,rfl,ru⟩:=rv.one;cases ru;obtain ⟨z,its,n,r,e⟩:=hH.ok I.hok;have hits:=jfJ r;subst hits;refine call_meets PySem.F.slot_list_count ⟨_,e,rfl⟩ PySem.F.entry_list_count (PySem.F.args_list_count_2 _ _) (PySem.SeqAt.list_countAt l (bs.map Value.bool).toArray n none #[] (.bool b) (isBoolOf b)) ⟨e,fun y hy=>?_,?_⟩
 . have hy':y∈bs.map Value.bool:=by simpa using hy
   obtain ⟨c,_,rfl⟩:=Y3.mp hy';exact PySem.SeqAt.EqAt.bool_bool c b
 . have ec:List.countP (isBoolOf b) (bs.map Value.bool).toArray.toList=bs.countP (· == b):=by show List.countP (isBoolOf b) (bs.map Value.bool)=_;rw [List.countP_map];rfl
   rw [ec];exact ⟨.int _,H,I.tok _,⟨_,rfl⟩,q⟩
end
section
variable [Fr]
def jco:D->List D->Option D
 | .lst l,[.bl b]=>(jdF l).map fun bs=>.int ((bs.countP (· == b):Nat):Int)
 | _,_=>none
theorem jlV {G:Hp} {bs:List Bool} {vs:List V} (h:Reps G vs (bs.map D.bl)):vs=bs.map V.bl:=h.bls
def eBM (f:D->List D->Option D) (fa:L2.Env->Option D) (fs:L2.Env->Option (List D)):L2.Env->Option D:=fun ρ=>(fa ρ).bind fun x=>(fs ρ).bind fun xs=>f x xs
theorem jm9 {to:TE} {t:TA} {fa:L2.Env → Option D} {fs:L2.Env → Option (List D)} (ha:zG to fa) (hs:AOk t fs):EOk (tBM Fr.K "list" jhS to t) (eBM jco fa fs):=fun G0 H0 G H σ ρ Q d e q k=>by
 obtain ⟨x,qa,q⟩:=bind_some q;obtain ⟨xs,qs,q⟩:=bind_some q;refine ha G0 H0 G H σ ρ _ x e qa fun u G1 H1 x1 r1=>?_;unfold jco at q;split at q
 . obtain ⟨bs,hb,q⟩:=map_some q;subst q;obtain ⟨_,_,rfl,h,r⟩:=r1.of_lst;rw [jbr hb] at r;have hv:=jlV r;subst hv;refine ⟨.inl ⟨rfl,_,.inl h⟩,hs G0 H0 G1 H1 σ ρ _ _ (e.grow x1) qs fun vs G2 H2 x2 r2=>?_⟩;cases r2 with
   | cons r2 t2=>
     cases t2
     (have hh:=Rep.of_bl r2;subst hh)
     exact ⟨_,bs,_,rfl,rfl,h.same x2.hh,k _ G2 H2 (x1.trans x2) (.int _)⟩
 . cases q
end
section
variable {M:Fm} {o e:Expr} {fa fe:L2.Env->Option D} {apos cpos:Pos}
theorem jmE (ha:WT M o fa) (hb:WE M e fe) (h':autoParam (qd e=false) QA.a4._auto_1)
 (hbase:autoParam (∀j,attributeBase o "count" (M.X j).env (eval o (M.X j).env)=eval o (M.X j).env) QA.a3._auto_1) (hline:autoParam (‹"ak"›=true) QA.a4._auto_1):WE M (.Call (.Attribute o "count" apos) [e] [] cpos) (eBM jco fa (jc fe jj)):=
 let ⟨_,h1,h2⟩:=ha.h;let ⟨_,k1,k2⟩:=hb.h
 ⟨tBM M.K "list" jhS _ _,fun j=>by have:=jox (X:=M.X j) (apos:=apos) (cpos:=cpos) PySem.F.plainAttrs_list PySem.F.slot_list_count PySem.F.type_list_count jl5 (h1 j) (Q6 (k1 j) jbp (qf h')) (hbase j) (by rw [qf h'];rfl) hline (qf h') (JK rfl);rw [M.hK j] at this;exact this,@jm9 M.fr _ _ _ _ h2 (@jkQ M.fr _ _ _ _ k2 (@a_nil M.fr))⟩
end
section
variable {P:Program} {w:World} {K:PySem.W.Frag} {mg:Str->Option Value} {base:Heap} {f:Addr} {fd:FuncData} {ps:List Str} {k:Nat}
theorem jqI:FnOk P w K mg base JJ k f fd ps (@spS ⟨K⟩ fun _=>none):=⟨fun vs H Q E z=>(by obtain ⟨_,_,_,_,_,h,_⟩:=z;cases h),fun A outer s H args us vs Q E _ _ _ _ z=>by obtain ⟨_,_,_,_,_,h,_⟩:=z;cases h⟩
end
end L2
namespace QS
open PySem.W PyProof.Rows
def ans {α:Type} (n:Nat) (K:Nat->Int):KasT α->(α->Prop)->Prop
 | .ret a,Q=>Q a
 | .ask i j k,Q=>i<n/\j<n/\ans n K (k (decide (K i<K j))) Q
theorem QR {α β:Type} {n:Nat} {K:Nat->Int} {f:α->KasT β} {Q:β->Prop}:∀{t:KasT α},ans n K t (fun a=>ans n K (f a) Q)->ans n K (t.bind f) Q
 | .ret _,h=>h
 | .ask _ _ k,h=>⟨h.1,h.2.1,QR (t:=k _) h.2.2⟩
theorem Jf {α:Type} {n:Nat} {K:Nat->Int} {Q Q':α->Prop} (hq:∀a,Q a->Q' a):∀{t:KasT α},ans n K t Q->ans n K t Q'
 | .ret a,h=>hq a h
 | .ask _ _ k,h=>⟨h.1,h.2.1,Jf hq (t:=k _) h.2.2⟩
structure PA (n:Nat) (p:Array Nat):Prop where
 size:p.size=n
 perm:p.toList.Perm (List.range n)
def key (K:Nat->Int) (p:Array Nat) (i:Nat):Int:=K (p.getD i 0)
section
variable {n:Nat} {K:Nat->Int} {p:Array Nat}
theorem PA.at (h:PA n p) {i:Nat} (hi:i<n):p[i]?=some (p.getD i 0):=by rw [yZ,YK (by rw [h.size];exact hi)];rfl
theorem PA.lt (h:PA n p) {i:Nat} (hi:i<n):p.getD i 0<n:=by have e:=h.at hi;have m:p.getD i 0∈p.toList:=Array.mem_toList_iff.mpr (Array.mem_of_getElem? e);exact KA.mp (h.perm.mem_iff.mp m)
theorem PA.inj (h:PA n p) {i j:Nat} (hi:i<n) (hj:j<n) (e:p.getD i 0=p.getD j 0):i=j:=by
 have nd:p.toList.Nodup:=h.perm.nodup_iff.mpr List.nodup_range;have hi':i<p.toList.length:=by rw [YL,h.size];exact hi
 have hj':j<p.toList.length:=by rw [YL,h.size];exact hj
 refine (KC (h₀:=hi') (h₁:=hj') nd).mp ?_;have a:=h.at hi;have b:=h.at hj;rw [<-yb,Ya hi'] at a;rw [<-yb,Ya hj'] at b;rw [Option.some.inj a,Option.some.inj b,e]
theorem PA.rev (h:PA n p) (i j:Nat):PA n (kas_rev p i j):=⟨(mirror_size _ _ _ _).trans h.size,(Array.perm_iff_toList_perm.mp (mirror_perm _ _ _ _)).trans h.perm⟩
theorem PA.bub (h:PA n p) (i j:Nat):PA n (bubble p i j):=⟨(bubble_size _ _ _).trans h.size,(Array.perm_iff_toList_perm.mp (bubble_perm _ _ _)).trans h.perm⟩
theorem Jq {q:Array Nat} {i j:Nat} (h:p[i]?=q[j]?):key K p i=key K q j:=by unfold key;rw [yZ,yZ,h]
theorem jiF (h:PA n p) {m i:Nat} (hm:m<=n):key K (kas_rev p 0 m) i=if i<m then key K p (m-1-i) else key K p i:=by
 have e:=getElem?_mirror_all (xs:=p) (i:=0) (j:=m) (by rw [h.size];exact hm) i;by_cases c:i<m
 . rw [if_pos c];rw [if_pos ⟨ye _,c⟩,KL] at e;exact Jq e
 . rw [if_neg c];rw [if_neg (by omega)] at e;exact Jq e
theorem jiQ (h:PA n p) {k d i:Nat} (hk:k<n) (hd:d<=k):key K (bubble p k d) i=if i=k-d then key K p k else if k-d<i/\i<=k then key K p (i-1) else key K p i:=by
 have e:=getElem?_bubble (xs:=p) (by rw [h.size];exact hk) d hd i;by_cases c:i=k-d
 . rw [if_pos c] at e ⊢;exact Jq e
 . rw [if_neg c] at e ⊢;by_cases c2:k-d<i/\i<=k
   . rw [if_pos c2] at e ⊢;exact Jq e
   . rw [if_neg c2] at e ⊢;exact Jq e
theorem jaZ {α:Type} (h:PA n p) {i j:Nat} {k:Bool->KasT α} {Q:α->Prop} (hi:i<n) (hj:j<n) (y:key K p i<key K p j->ans n K (k true) Q) (z:¬key K p i<key K p j->ans n K (k false) Q):ans n K (.ask (p.getD i 0) (p.getD j 0) k) Q:=by
 refine ⟨h.lt hi,h.lt hj,?_⟩;show ans n K (k (decide (key K p i<key K p j))) Q;by_cases c:key K p i<key K p j
 . rw [YO c];exact y c
 . rw [YV c];exact z c
def Ris (K:Nat->Int) (p:Array Nat) (m:Nat):Prop:=∀i,i+1<m->key K p i<key K p (i+1)
theorem Ris.all {m:Nat} (h:Ris K p m):∀{d i:Nat},i+d+1<m->key K p i<key K p (i+d+1)
 | 0,i,hi=>h i hi
 | d+1,i,hi=>kH (h.all (d:=d) (by omega)) (h (i+d+1) (by omega))
theorem Ris.lt {m i j:Nat} (h:Ris K p m) (hij:i<j) (hj:j<m):key K p i<key K p j:=by obtain ⟨d,rfl⟩:∃d,j=i+d+1:=⟨j-i-1,by omega⟩;exact h.all hj
variable (hK:∀i j,i<n->j<n->i≠j->K i≠K j)
include hK
theorem jgY (h:PA n p) {i j:Nat} (hi:i<n) (hj:j<n) (hij:i≠j):key K p i≠key K p j:=hK _ _ (h.lt hi) (h.lt hj) fun e=>hij (h.inj hi hj e)
theorem jg1 (h:PA n p):∀(f m:Nat),1<=m->m+f=n->Ris K p m->ans n K (kas_asc p f m) fun r=>m<=r/\r<=n/\Ris K p r/\(r<n->key K p r<key K p (r-1))
 | 0,m,h1,hm,hr=>⟨Yq _,by omega,hr,by omega⟩
 | f+1,m,h1,hm,hr=>by
   refine jaZ h (by omega) (by omega) (fun c=>?_) fun c=>?_
   . exact ⟨Yq _,by omega,hr,fun _=>c⟩
   . refine Jf (fun r q=>⟨by omega,q.2.1,q.2.2.1,q.2.2.2⟩) (jg1 h f (m+1) (by omega) (by omega) fun i hi=>?_);by_cases e:i+1<m
     . exact hr i e
     . have e':i=m-1:=by omega
       subst e';have ne:=jgY hK h (i:=m) (j:=m-1) (by omega) (by omega) (by omega);rw [show m-1+1=m by omega];omega
theorem jiE (h:PA n p):∀(f m:Nat),2<=m->m+f=n->(∀i,i+1<m->key K p (i+1)<key K p i)->ans n K (kas_desc f p m 0) fun r=>r.1=p/\r.2.2=0/\m<=r.2.1/\r.2.1<=n/\∀i,i+1<r.2.1->key K p (i+1)<key K p i
 | 0,m,h1,hm,hr=>⟨rfl,rfl,Yq _,by show m<=n;omega,hr⟩
 | f+1,m,h1,hm,hr=>by
   refine jaZ h (by omega) (by omega) (fun c=>?_) fun c=>?_
   . refine Jf (fun r q=>⟨q.1,q.2.1,by omega,q.2.2.2⟩) (jiE h f (m+1) (by omega) (by omega) fun i hi=>?_);by_cases e:i+1<m
     . exact hr i e
     . have e':i=m-1:=by omega
       subst e';rw [show m-1+1=m by omega];exact c
   . have ne:=jgY hK h (i:=m) (j:=m-1) (by omega) (by omega) (by omega);refine jaZ h (by omega) (by omega) (fun c2=>⟨rfl,rfl,Yq _,by show m<=n;omega,hr⟩) fun c2=>?_;omega
theorem jlD (h:PA n p) (hn:1<=n):ans n K (kas_count n p) fun r=>PA n r.2/\1<=r.1/\r.1<=n/\Ris K r.2 r.1:=by
 unfold kas_count;refine QR (Jf (fun r q=>?_) (jg1 hK h (n-1) 1 (by omega) (by omega) fun i hi=>by omega));obtain ⟨q1,q2,q3,q4⟩:=q;by_cases c1:r=n
 . rw [if_pos (by rw [c1];exact K8 _)];exact ⟨h,q1,q2,q3⟩
 . rw [if_neg (by rw [kL];exact c1)];by_cases c2:r>1
   . rw [if_pos c2];exact jaZ h (by omega) (by omega) (fun _=>⟨h,q1,q2,q3⟩) fun c=>absurd (q3.lt (by omega) (by omega)) c
   . rw [if_neg c2];have e:r=1:=by omega
     subst e;unfold kas_descPart;refine QR (Jf (fun r q=>?_) (jiE hK h (n-(1+1)) (1+1) (by omega) (by omega) fun i hi=>by
       have e':i=0:=by omega
       subst e';exact q4 (by omega)))
     obtain ⟨z,m,t⟩:=r;obtain ⟨rfl,z2,z3,z4,z5⟩:=q;dsimp only at z2 z3 z4 z5 ⊢;subst z2;rw [if_neg (by omega)];unfold kas_tail3;have h':=h.rev 0 m;refine QR (Jf (fun r q=>?_) (jg1 hK h' (n-m) m (by omega) (by omega) fun i hi=>?_))
     . exact ⟨h',by omega,q.2.1,q.2.2.1⟩
     . rw [jiF h z4,jiF h z4,if_pos (by omega),if_pos hi];have:=z5 (m-1-(i+1)) (by omega);rw [show m-1-(i+1)+1=m-1-i by omega] at this;exact this
theorem jcV (h:PA n p) {k:Nat} (hk:k<n) (hr:Ris K p k):∀(f l r:Nat),l<=r->r<=k->r-l<=f->(∀i,i<l->key K p i<key K p k)->(∀i,r<=i->i<k->key K p k<key K p i)->ans n K (kas_place p k f l r) fun x=>x<=k/\(∀i,i<x->key K p i<key K p k)/\∀i,x<=i->i<k->key K p k<key K p i
 | 0,l,r,h1,h2,h3,h4,h5=>by
   have e:l=r:=by omega
   subst e;exact ⟨h2,h4,h5⟩
 | f+1,l,r,h1,h2,h3,h4,h5=>by
   unfold kas_place;by_cases c:l>=r
   . rw [if_pos c];have e:l=r:=by omega
     subst e;exact ⟨h2,h4,h5⟩
   . rw [if_neg c];refine jaZ h hk (by omega) (fun d=>?_) fun d=>?_
     . refine jcV h hk hr f l ((l+r)/2) (by omega) (by omega) (by omega) h4 fun i hi hik=>?_;by_cases e:i=(l+r)/2
       . subst e;exact d
       . exact kH d (hr.lt (by omega) hik)
     . have ne:=jgY hK h (i:=k) (j:=(l+r)/2) hk (by omega) (by omega);refine jcV h hk hr f ((l+r)/2+1) r (by omega) h2 (by omega) (fun i hi=>?_) h5;by_cases e:i=(l+r)/2
       . subst e;omega
       . have:=hr.lt (i:=i) (j:=(l+r)/2) (by omega) (by omega);omega
theorem jmj:∀(f:Nat) (p:Array Nat) (k:Nat),PA n p->1<=k->k+f=n->Ris K p k->ans n K (kas_bin f p k) fun r=>PA n r/\Ris K r n
 | 0,p,k,h,h1,hk,hr=>by
   have e:k=n:=by omega
   subst e;exact ⟨h,hr⟩
 | f+1,p,k,h,h1,hk,hr=>by
   unfold kas_bin;refine QR (Jf (fun l q=>?_) (jcV hK h (k:=k) (by omega) hr k 0 k (by omega) (by omega) (by omega) (fun i hi=>by omega) fun i hi hk=>by omega));obtain ⟨q1,q2,q3⟩:=q;refine jmj f _ (k+1) (h.bub k (k-l)) (by omega) (by omega) fun i hi=>?_;rw [jiQ h (by omega) (by omega),jiQ h (by omega) (by omega),show k-(k-l)=l by omega];by_cases c1:i=l
   . rw [if_pos c1,if_neg (by omega),if_pos (by omega)];exact q3 _ (by omega) (by omega)
   . rw [if_neg c1];by_cases c2:l<i/\i<=k
     . rw [if_pos c2,if_neg (by omega),if_pos (by omega)];have:=hr (i-1) (by omega);rw [show i-1+1=i by omega] at this;rw [show i+1-1=i by omega];exact this
     . rw [if_neg c2];by_cases c3:i+1=l
       . rw [if_pos c3];exact q2 i (by omega)
       . rw [if_neg c3,if_neg (by omega)];exact hr i (by omega)
theorem jnV (hn:1<=n):ans n K (kas_sort n) fun r=>PA n r/\Ris K r n:=by
 unfold kas_sort;have h0:PA n (List.toArray (List.range n)):=⟨by simp,List.Perm.refl _⟩;refine QR (Jf (fun r q=>?_) (jlD hK h0 hn));obtain ⟨q1,q2,q3,q4⟩:=q;by_cases c:r.1<n
 . rw [if_pos c,Nat.max_eq_left q2];exact jmj hK _ _ _ q1 q2 (by omega) q4
 . rw [if_neg c];have e:r.1=n:=by omega
   rw [e] at q4;exact ⟨q1,q4⟩
end
end QS
namespace QS
open PySem PySem.W PySem.Calls PyProof.Rows
abbrev Tr:=Value×Int×Int
def jbZ (h:Heap) (q:Tr):Prop:=∃a t u,q.1=.ref a ∧ h.get? a=some { cls:=.type "tuple",data:=.seq #[.int q.2.1 t,.int q.2.2 u] }
def t0:Tr:=(.none,0,0)
section
variable {prog:Program} {w:World} {A:Around} {E:Value->Shared->Prop} {s:Shared}
theorem jqJ {p q:Tr} {C:Bool->Shared->Prop} (hp:jbZ s.heap p) (hq:jbZ s.heap q) (e:p.2.1=q.2.1->p.2.2=q.2.2) (h:C (decide (p.2.1<q.2.1)) s):wpAny (model prog w) A (keyLt' (tuples' true) p.1 q.1) C E s:=by
 obtain ⟨a,t,u,ea,ha⟩:=hp;obtain ⟨b,t',u',eb,hb⟩:=hq;rw [ea,eb];refine kat_lt ha rfl hb rfl ?_;show KatLex prog w A true (decide (2<2)) C [(.int p.2.1 t,.int q.2.1 t'),(.int p.2.2 u,.int q.2.2 u')] 0 s;refine kat_cons (wpAny_eqBool_int ?_);by_cases c:p.2.1=q.2.1
 . rw [kL.mpr c];refine kat_yes (kat_cons (wpAny_eqBool_int ?_));rw [kL.mpr (e c)];refine kat_yes (kat_nil ?_);rw [YV (by omega)] at h;exact h
 . rw [Ko.mpr c];exact kat_no (oneLt_int h)
theorem jeb {α:Type} {n:Nat} {K:Nat->Int} {vs:List Value} {κ:SortKind} (hc:∀i j (C:Bool->Shared->Prop),i<n->j<n->C (decide (K i<K j)) s->kas_ask prog w A κ vs i j C s) {Q:α->Shared->Prop}:∀{t:KasT α},ans n K t (fun a=>Q a s)->t.kasWp (kas_ask prog w A κ vs) Q s
 | .ret _,h=>h
 | .ask i j k,h=>hc i j _ h.1 h.2.1 (jeb hc h.2.2)
theorem jjm {T:List Tr}:(List.range T.length).map (fun i=>T.getD i t0)=T:=by
 apply yU;intro i;rw [List.getElem?_map];by_cases h:i<T.length
 . rw [yy h,Ya h];simp [Yc,h]
 . rw [Yz (by simp;omega),Yz (by omega)];rfl
theorem joY {T:List Tr} {p:Array Nat} (h:PA T.length p) (hr:Ris (fun i=>(T.getD i t0).2.1) p T.length):(p.toList.map fun i=>T.getD i t0).Perm T/\(p.toList.map fun i=>T.getD i t0).Pairwise fun a b=>a.2.1<b.2.1:=by
 refine ⟨?_,?_⟩
 . have:=h.perm.map fun i=>T.getD i t0
   rwa [jjm] at this
 . rw [Kf];intro i j hi hj hij;rw [Yd,YL,h.size] at hi hj;have q:=hr.lt hij hj;unfold key at q;have e:∀i (hi:i<T.length),p.getD i 0=p.toList[i]'(by rw [YL,h.size];exact hi):=fun i hi=>by have:=h.at hi;rw [<-yb,Ya (by rw [YL,h.size];exact hi)] at this;exact (Option.some.inj this).symm
   rw [kc,kc,<- e i hi,<- e j hj];exact q
theorem ji6 {h:Heap}:∀{T:List Tr},(∀q∈T,jbZ h q)->∃fs:List Value,fs.length=T.length/\KatTups h (T.map (·.1)) fs/\∀v∈fs,∃k t,v=Value.int k t
 | [],_=>⟨[],rfl,KatTups.nil,fun v hv=>absurd hv YD⟩
 | q::T,hT=>by
   obtain ⟨fs,h1,h2,h3⟩:=ji6 (T:=T) fun x hx=>hT x (Yg _ hx);obtain ⟨a,t,u,ea,ha⟩:=hT q Ye;refine ⟨.int q.2.1 t::fs,by rw [YA,YA,h1],?_,fun v hv=>?_⟩
   . rw [List.map_cons,ea];exact KatTups.cons ha rfl rfl rfl h2
   . rcases Yn.mp hv with rfl | hv
     . exact ⟨_,_,rfl⟩
     . exact h3 v hv
theorem jgo {h:Heap} {a:Addr} {vs:List Value} {q:Tr} (hq:jbZ h q) (hne:∀b o,h.get? b=some o → o.cls=.type "tuple" → b≠a):jbZ (((h.update a (Obj.mapSeq fun _=>#[])).push (seqObj "tuple" vs.toArray 0)).push (seqObj "list" #[] 0)) q:=by obtain ⟨b,t,u,eb,hb⟩:=hq;refine ⟨b,t,u,eb,Yh _ (Yh _ ?_)⟩;rw [Heap.get?_update_ne _ _ _ _ (hne b _ hb rfl)];exact hb
theorem jb1 {a:Addr} {T:List Tr} {n:Nat} {P:PySem.Fin → Shared → Prop} (ho:s.heap.get? a=some (seqObj "list" (T.map (·.1)).toArray n)) (hT:∀q∈T,jbZ s.heap q) (hnd:(T.map (·.2.1)).Nodup) (h64:T.length<64)
 (h:∀T':List Tr,T'.Perm T->T'.Pairwise (fun a b=>b.2.1<a.2.1)->P (.done (.ret .none)) { s with heap:=sortedHeap s.heap a (T.map (·.1)) (T'.map (·.1)).toArray }) :
 wpAny (model prog w) A (Builtin.«list.sort» ⟨[.ref a],[(Str.ofString "reverse",.bool true)]⟩) P E s:=by
 rw [list_sort_rev];have ha:a<s.heap.objs.size:=Yw ho;have hsz:(T.map (·.1)).toArray.size=T.length:=by simp
 refine Yb (listItems_at ho rfl ?_);refine Yb (listUpdate_at ho rfl ?_ (by rw [hsz,KF];omega) (ye _));obtain ⟨e1,ho1⟩:∃e1,‹"D"›.get? a=some (seqObj "list" #[] e1):=⟨_,get?_update_seq ho (fun _=>#[])⟩;refine Yb (seqEpoch_at ho1 rfl ?_);refine Yb (wpAny_newTuple ?_ (by show (T.map (·.1)).length<=_;rw [Yd,KF];omega));refine Yb (wpAny_newList ?_ (ye _));refine Y8 ?_;have ho6:((‹"D"›.push (seqObj "tuple" (T.map (·.1)).toArray 0)).push (seqObj "list" #[] 0)).get? a=some (seqObj "list" #[] e1):=by rw [Heap.get?_push_ne _ _ _ (by rw [size_push',Heap.size_update];exact Yv (yJ ha)),Heap.get?_push_ne _ _ _ (by rw [Heap.size_update];exact Yv ha)];exact ho1
 have hT2:∀q∈T,jbZ ((‹"D"›.push (seqObj "tuple" (T.map (·.1)).toArray 0)).push (seqObj "list" #[] 0)) q:=fun q hq=>jgo (hT q hq) fun b o hb hc z=>by subst z;rw [ho] at hb;cases hb;exact absurd (Value.type.inj hc) (by decide)
 show wpAny (model prog w) A _ P E { s with heap:=(‹"D"›.push (seqObj "tuple" (T.map (·.1)).toArray 0)).push (seqObj "list" #[] 0) };dsimp only;rw [if_pos rfl];refine Yb (kj ?_);by_cases h2:(T.map (·.1)).toArray.size<2
 . rw [if_pos h2,if_pos h2];refine Yb (Yj ?_);rw [StateT.run_pure];refine Yb (Yj ?_);dsimp only;have hp:T.Pairwise (fun a b=>b.2.1<a.2.1):=by
    rw [hsz] at h2
    match T,h2 with
    | [],_=>exact List.Pairwise.nil
    | [q],_=>exact List.pairwise_singleton _ _
   have eo:(if true=true then ((arrOf (SortSt.mk' general' (if true=true then ((T.map (·.1)).toArray.zip (T.map (·.1)).toArray).reverse else (T.map (·.1)).toArray.zip (T.map (·.1)).toArray) #[] 7 none)).map (·.2)).reverse else (arrOf (SortSt.mk' general' (if true=true then ((T.map (·.1)).toArray.zip (T.map (·.1)).toArray).reverse else (T.map (·.1)).toArray.zip (T.map (·.1)).toArray) #[] 7 none)).map (·.2))=(T.map (·.1)).toArray:=by
    rw [if_pos rfl,if_pos rfl];show ((((T.map (·.1)).toArray.zip (T.map (·.1)).toArray).reverse).map (·.2)).reverse=_;rw [hsz] at h2
    match T,h2 with
    | [],_=>simp
    | [q],_=>simp
   refine Yb (seqEpoch_at ho6 rfl ?_);rw [eo];refine Yb (listUpdate_at ho6 rfl ?_ (ye _) (by rw [hsz,KF];omega));simp only [bne_self_eq_false,YY,yu];exact Yj (h T (List.Perm.refl _) hp)
 . rw [if_neg h2,if_neg h2];rw [hsz] at h2;obtain ⟨fs,f1,f2,f3⟩:=ji6 hT2;refine Yb (kat_kind (T:=.type "int") f2 (by omega) (fun v hv=>by obtain ⟨k,t,rfl⟩:=f3 v hv;exact Looks.now) (by decide) ?_);rw [show (Value.type "int" != Value.type "tuple")=true from by decide];have eL:(T.map (·.1)).length=(T.map (·.1)).length:=rfl;rw [kat_pairs true eL,show katRev true (T.map (·.1))=T.reverse.map (·.1) from by rw [ka];rfl];have hl:(T.reverse.map (·.1)).length=T.length:=by simp
   have hrl:T.reverse.length=T.length:=by simp
   have hT3:∀i,i<T.length → jbZ ((‹"D"›.push (seqObj "tuple" (T.map (·.1)).toArray 0)).push (seqObj "list" #[] 0)) (T.reverse.getD i t0):=fun i hi=>by refine hT2 _ (List.mem_reverse.mp ?_);rw [Yc,Ya (by rw [hrl];exact hi)];exact Kr _
   have hget:∀i,(T.reverse.map (·.1)).getD i Value.none=(T.reverse.getD i t0).1:=fun i=>by rw [Yc,Yc,List.getElem?_map];cases T.reverse[i]? <;> rfl
   have hK:∀i j,i<T.length->j<T.length->i≠j->(T.reverse.getD i t0).2.1≠(T.reverse.getD j t0).2.1:=fun i j hi hj hij z=>by
    have nd:(T.reverse.map (·.2.1)).Nodup:=by rw [ka];exact (List.reverse_perm _).nodup_iff.mpr hnd
    have hi':i<(T.reverse.map (·.2.1)).length:=by rw [Yd,hrl];exact hi
    have hj':j<(T.reverse.map (·.2.1)).length:=by rw [Yd,hrl];exact hj
    refine hij ((KC (h₀:=hi') (h₁:=hj') nd).mp ?_);rw [kc,kc];rw [Yc,Yc,Ya (by rw [hrl];exact hi),Ya (by rw [hrl];exact hj)] at z;exact z
   have so:=jnV (n:=T.length) (K:=fun i=>(T.reverse.getD i t0).2.1) hK (by omega);refine Yb (yj (kat_run (ks:=T.reverse.map (·.1)) (vs:=T.reverse.map (·.1)) (G:=fun p s'=>s'={ s with heap:=(‹"D"›.push (seqObj "tuple" (T.map (·.1)).toArray 0)).push (seqObj "list" #[] 0) } ∧ PA T.length p ∧ Ris (fun i=>(T.reverse.getD i t0).2.1) p T.length)
    (Q:=fun st' s'=>∃p:Array Nat,arrOf st'=p.map (kas_item ((T.reverse.map (·.1)).toArray.zip (T.reverse.map (·.1)).toArray)) ∧ failedOf st'=none ∧ s'={ s with heap:=(‹"D"›.push (seqObj "tuple" (T.map (·.1)).toArray 0)).push (seqObj "list" #[] 0) } ∧ PA T.length p ∧ Ris (fun i=>(T.reverse.getD i t0).2.1) p T.length)
    rfl (by rw [hl];omega) (by rw [hl];exact h64) (fun p st' s' a1 a2 a3 a4=>⟨p,a2,a3,a4⟩) ?_) ?_ fun _ _ e=>e)
   . rw [hl];refine jeb (n:=T.length) (K:=fun i=>(T.reverse.getD i t0).2.1) (fun i j C hi hj hC=>?_) (Jf (fun p q=>⟨rfl,q.1,q.2⟩) so);unfold kas_ask;rw [hget,hget];refine jqJ (hT3 i hi) (hT3 j hj) (fun z=>?_) hC;by_cases c:i=j
     . rw [c]
     . exact absurd z (hK i j hi hj c)
   . rintro ⟨⟨⟩,st'⟩ s' ⟨p,har,hf,rfl,hp,hr⟩;dsimp only;have hout:=kat_snds (ks:=T.reverse.map (·.1)) (vs:=T.reverse.map (·.1)) rfl har;have e1':(p.toList.map fun i=>(T.reverse.map (·.1)).getD i Value.none)=(p.toList.map fun i=>T.reverse.getD i t0).map (·.1):=by rw [YG];exact yY fun i _=>hget i
     rw [e1'] at hout;obtain ⟨o1,o2⟩:=joY (T:=T.reverse) (by rw [hrl];exact hp) (by rw [hrl];exact hr);generalize (p.toList.map fun i=>T.reverse.getD i t0)=O at hout o1 o2;have hOl:O.length=T.length:=by rw [o1.length_eq,hrl]
     refine Yb (seqEpoch_at ho6 rfl ?_);rw [hout,if_pos rfl];have er:(O.map (·.1)).toArray.reverse=(O.reverse.map (·.1)).toArray:=by rw [ka];simp
     rw [er];refine Yb (listUpdate_at ho6 rfl ?_ (ye _) (by rw [YI,Yd,kx,hOl,KF];omega));rw [hf];simp only [bne_self_eq_false,YY,yu];exact Yj (h O.reverse ((List.reverse_perm O).trans (o1.trans (List.reverse_perm T))) (List.pairwise_reverse.mpr o2))
theorem jb6 {α β:Type}:∀{as:List β} {ps:List α},as.length=ps.length->(as.zip ps).map (·.1)=as
 | [],[],_=>rfl
 | a::as,p::ps,h=>by rw [yC,List.map_cons,jb6 (by simpa using h)]
 | [],_::_,h=>by simp at h
 | _::_,[],h=>by simp at h
theorem jiU {α β:Type}:∀{as:List β} {ps:List α},as.length=ps.length->(as.zip ps).map (·.2)=ps
 | [],[],_=>rfl
 | a::as,p::ps,h=>by rw [yC,List.map_cons,jiU (by simpa using h)]
 | [],_::_,h=>by simp at h
 | _::_,[],h=>by simp at h
def trs (as:List Addr) (ps:List (Int×Int)):List Tr:=(as.zip ps).map fun q=>(.ref q.1,q.2)
theorem jeI {K:Type} [DecidableEq K] {knd:PySem.KeyKind prog w K} {v d:Addr} {kvs:List (K×Value)} {ep:Nat} {ps:List (Int×Int)} {Q:Value->Shared->Prop} (hh:A.handled=none) (hv:s.heap.IsItemsView v d) (hlast:s.heap.objs.size=v+1) (hm:s.heap.DictAt knd d kvs ep)
 (hl:kvs.length=ps.length) (hps:∀(i:Nat) k x,kvs[i]?=some (k,x)->∃p u,ps[i]?=some p/\x=.int p.2 u/\∀key,knd.is k key=true->∃t,key=.int p.1 t) (hnd:(ps.map (·.1)).Nodup) (h64:ps.length<64)
 (h:∀h' tk l c (T:List Tr),‹"aa"› → s.heap.objs.size ≤ l → h'.get? l=some (seqObj "list" (T.map (·.1)).toArray c) → (∀q∈T,jbZ h' q) → (∀q∈T,∃a,q.1=.ref a ∧ s.heap.objs.size ≤ a ∧ a≠l) → (T.map (·.1)).Nodup → (T.map (·.2)).Perm ps → T.Pairwise (fun a b=>b.2.1<a.2.1) →
  Q (.ref l) { s with heap:=h',toks:=tk }):wpAny (model prog w) A (call (.builtin "sorted") [.ref v] [(Str.ofString "reverse",.bool true)]) Q E s:=by
 refine call_function_entry_kw kind_sorted plain_sorted entry_sorted (args_sorted_rev _ _) ?_;unfold Builtin.«sorted»;refine Yb (m:=checkCount "sorted" 1 1 _) (Yj ?_);refine Yb (kdx_collect (A:=A.in1) (knd:=knd) (kvs:=kvs) (ep:=ep) hh hv hm (by rw [hl,KF];omega) fun h1 tk as hk hal hG=>?_);refine Yb (wpAny_newList ?_ (by rw [Yd,hal,hl,KF];omega));have hal':as.length=ps.length:=hal.trans hl;have e1:(trs as ps).map (·.1)=as.map Value.ref:=by
  unfold trs;rw [YG];have:=congrArg (List.map Value.ref) (jb6 hal')
  rwa [YG] at this
 have e2:(trs as ps).map (·.2)=ps:=by unfold trs;rw [YG];exact jiU hal'
 have e3:(trs as ps).length=ps.length:=by have:=congrArg List.length e2;rwa [Yd] at this
 have hoL:(h1.push (seqObj "list" (as.map Value.ref).toArray 0)).get? h1.objs.size=some (seqObj "list" (as.map Value.ref).toArray 0):=Yy _ rfl;have mem:∀q∈trs as ps,∃(j:Nat) (a:Addr),as[j]?=some a/\ps[j]?=some q.2/\q.1=.ref a:=fun q hq=>by unfold trs at hq;obtain ⟨r,hr,rfl⟩:=Y3.mp hq;obtain ⟨j,hj⟩:=List.mem_iff_getElem?.mp hr;rw [YQ] at hj;exact ⟨j,r.1,hj.1,hj.2,rfl⟩
 have hT:∀q∈trs as ps,jbZ h1 q:=fun q hq=>by obtain ⟨j,a,h3,h4,h5⟩:=mem q hq;obtain ⟨key,k,x,g1,g2,g3⟩:=hG.pairs j a h3;obtain ⟨p,u,f1,rfl,f3⟩:=hps j k x g1;rw [h4] at f1;cases f1;obtain ⟨t,rfl⟩:=f3 key g2;exact ⟨a,t,u,h5,g3⟩
 have up:∀{hx:Heap} {q:Tr},(∀b o,h1.get? b=some o->hx.get? b=some o)->jbZ h1 q->jbZ hx q:=fun {hx q} kp ⟨a,t,u,x1,x2⟩=>⟨a,t,u,x1,kp a _ x2⟩;have hz:s.heap.objs.size<=h1.objs.size:=by obtain ⟨o,ho,_⟩:=hv;rw [hlast];exact Yw (hk _ _ ho)
 rw [<-e1] at hoL;show wpAny _ _ _ _ _ { s with heap:=h1.push (seqObj "list" (as.map Value.ref).toArray 0),toks:=tk };rw [<-e1];refine Yb (Y8 (wpAny_call_entry_kw slot_list_sort ⟨_,hoL,rfl⟩ entry_list_sort (jb1 (s:={ s with heap:=h1.push (seqObj "list" ((trs as ps).map (·.1)).toArray 0),toks:=tk }) hoL (fun q hq=>up (fun b o e=>Yh _ e) (hT q hq)) (by rw [show (trs as ps).map (·.2.1)=((trs as ps).map (·.2)).map (·.1) from by rw [YG];rfl,e2];exact hnd) (by rw [e3];exact h64) fun T' p1 p2=>⟨_,rfl,?_⟩) (args_list_sort_rev _ _)));refine Yj ⟨_,rfl,?_⟩;have hlt:h1.objs.size<(h1.push (seqObj "list" ((trs as ps).map (·.1)).toArray 0)).objs.size:=by rw [size_push'];exact yO _
 obtain ⟨c,hc⟩:=sortedHeap_at (out:=(T'.map (·.1)).toArray) hoL;have keep:∀b o,h1.get? b=some o → (sortedHeap (h1.push (seqObj "list" ((trs as ps).map (·.1)).toArray 0)) h1.objs.size ((trs as ps).map (·.1)) (T'.map (·.1)).toArray).get? b=some o:=fun b o e=>by have hb:b≠h1.objs.size:=Yv (Yw e);rw [sortedHeap_old hb (yK (Yw e) hlt)];exact Yh _ e
 refine h _ tk h1.objs.size c T' (fun b o e=>keep b o (hk b o e)) hz hc (fun q hq=>up keep (hT q (p1.mem_iff.mp hq))) (fun q hq=>?_) ?_ ?_ p2
 . obtain ⟨j,a,h3,h4,h5⟩:=mem q (p1.mem_iff.mp hq);exact ⟨a,h5,yL (hG.above a (YB h3)),Yv (hG.there (YB h3))⟩
 . refine (p1.map (·.1)).nodup_iff.mpr ?_;rw [e1];refine List.Pairwise.map _ (fun a b z=>?_) hG.rise;intro y;cases y;exact Y1 _ z
 . have:=p1.map (·.2)
   rwa [e2] at this
end
end QS
namespace QS
open PySem PySem.W PySem.Calls PyProof.Rows PyProof.V PySem.Spec
def mxN (val:Nat->Int):Nat->Int
 | 0=>val 0
 | k+1=>if val (k+1)>mxN val k then val (k+1) else mxN val k
theorem jkY (val:Nat->Int):∀k,(∃j,j<=k/\mxN val k=val j)/\∀j,j<=k->val j<=mxN val k
 | 0=>⟨⟨0,Yq _,rfl⟩,fun j hj=>by rw [show j=0 by omega];exact yk _⟩
 | k+1=>by
   obtain ⟨⟨i,hi,e⟩,h⟩:=jkY val k;unfold mxN;split
   . rename_i c;refine ⟨⟨k+1,Yq _,rfl⟩,fun j hj=>?_⟩;by_cases z:j=k+1
     . subst z;exact yk _
     . have:=h j (by omega);omega
   . rename_i c;refine ⟨⟨i,by omega,e⟩,fun j hj=>?_⟩;by_cases z:j=k+1
     . subst z;omega
     . exact h j (by omega)
section
variable {prog:Program} {w:World} {A:Around} {R:Result->Shared->Prop} {I S:Addr} {fp wr:List Addr} {n:Nat} {P:Nat->Value->Prop} {St:Nat->Heap->Prop} {val:Nat->Int} {d:Value}
theorem gt_int {a b:Int} {t u:Tok} {s:Shared} {Q:Value->Shared->Prop} {E:Value->Shared->Prop} (h:Q (.bool (decide (a>b))) s):wpAny (model prog w) A (richCompare .Gt (.int a t) (.int b u)) Q E s:=CmpOf.ints_gt (P:=fun i v=>v=.int (if i=0 then a else b) (if i=0 then t else u)) (fun i=>if i=0 then a else b) (fun i v hv=>⟨_,hv⟩) 0 1 _ _ s Q E rfl rfl h
abbrev mlA (I S:Addr) (d:Value):Args:=⟨[.ref I,.none,.ref S],[(Str.ofString "default",d)]⟩
abbrev joM (xs:Array Value) (c:Nat):Obj:={ cls:=.type "list",dict:=none,data:=.seq xs c,slots:=#[] }
theorem jsx (W:Walks prog w A.in1 I fp wr n P St) (hv:∀i v,P i v->∃t,v=.int (val i) t) (hSf:S∉fp):∀(k j:Nat) (s:Shared) (t:Tok) (c:Nat),j+1+k=n->St (j+1) s.heap->s.heap.get? S=some (joM #[.int (mxN val j) t,.int (mxN val j) t] c)->
 (∀t' h' tk,(∀b o,b∉wr → b≠S → s.heap.get? b=some o → h'.get? b=some o) → R (.ok (.ret (.int (mxN val (n-1)) t'))) { s with heap:=h',toks:=tk }) → codeAny (model prog w) A (.builtin "max.loop" (mlA I S d)) R s:=by
 have hSw:S∉wr:=fun z=>hSf (W.sub _ z);have nm:(toString "max"++toString ".loop":String)="max.loop":=by decide
 intro k;induction k with
 | zero=>
   intro j s t c hn hst hS hR;refine yB F.entry_max_loop ?_;rw [yd Kb _];show wpAny _ A.in1 (seqItems? (.ref S) >>= _) _ _ s;refine Yb (yQ hS rfl ?_);show wpAny _ A.in1 (tryCatch (pyNext (.ref I)) _ >>= _) _ _ s;have hst':St n s.heap:=by rw [<-hn];exact hst
   refine Yb (K0 (W.done s _ _ hst' fun h1 tk hk=>?_));have hS1:=hk S _ hSw hS;show wpAny _ A.in1 (updateSeq S (fun _=>#[]) >>= _) _ _ _;refine Yb (yg hS1 rfl (Yb (kl (Yj ?_))));have e:j=n-1:=by omega
   subst e;exact hR t _ tk fun b o hb hbS q=>(yo _ _ (Ne.symm hbS)).trans (hk b o hb q)
 | succ k ih=>
   intro j s t c hn hst hS hR;refine yB F.entry_max_loop ?_;rw [yd Kb _];show wpAny _ A.in1 (seqItems? (.ref S) >>= _) _ _ s;refine Yb (yQ hS rfl ?_);show wpAny _ A.in1 (tryCatch (pyNext (.ref I)) _ >>= _) _ _ s;refine Yb (K0 (W.item (j+1) s _ _ (by omega) hst fun v h1 tk hP hst1 hk=>?_));have hS1:=hk S _ hSw hS;obtain ⟨u,rfl⟩:=hv _ _ hP;show wpAny _ A.in1 (tryCatch (holding [.int (val (j+1)) u,.int (val (j+1)) u] (richCompare .Gt (.int (val (j+1)) u) (.int (mxN val j) t) >>= _)) _ >>= _) _ _ _;refine Yb (K0 (Y8 (Yb (gt_int ?_))));refine Yb (Y8 (yH ?_));refine Yb (kl (Yj ?_));by_cases c:val (j+1)>mxN val j
   . have e:mxN val (j+1)=val (j+1):=by unfold mxN;exact if_pos c
     rw [YO c];simp only [yq];refine Yb (yg hS1 rfl (Yb (kl ?_)));rw [nm];refine Yj ⟨yt Kb _,ih (j+1) _ u _ (by omega) ‹"a1"› (by rw [e];exact YU _ hS1 rfl) fun t' h' tk' hk'=>?_⟩;exact hR t' h' tk' fun b o hb hbS q=>hk' b o hb hbS ((yo _ _ (Ne.symm hbS)).trans (hk b o hb q))
   . have e:mxN val (j+1)=mxN val j:=by rw [mxN];exact if_neg c
     rw [YV c];simp only [YY,yu];refine Yb (kl ?_);rw [nm];exact Yj ⟨yt Kb _,ih (j+1) _ t _ (by omega) hst1 (by rw [e];exact hS1) fun t' h' tk' hk'=>hR t' h' tk' fun b o hb hbS q=>hk' b o hb hbS (hk b o hb q)⟩
theorem jkJ (W:Walks prog w A.in1 I fp wr n P St) (hv:∀i v,P i v->∃t,v=.int (val i) t) (hSf:S∉fp) {s:Shared} {c:Nat} (hst:St 0 s.heap) (hS:s.heap.get? S=some (joM #[] c))
 (hR:∀t' h' tk,0<n->(∀b o,b∉wr->b≠S->s.heap.get? b=some o->h'.get? b=some o)->R (.ok (.ret (.int (mxN val (n-1)) t'))) { s with heap:=h',toks:=tk })
 (hR0:∀h' tk,n=0 → (∀b o,b∉wr → b≠S → s.heap.get? b=some o → h'.get? b=some o) → R (.ok (.ret d)) { s with heap:=h',toks:=tk }):codeAny (model prog w) A (.builtin "max.loop" (mlA I S d)) R s:=by
 have hSw:S∉wr:=fun z=>hSf (W.sub _ z);have nm:(toString "max"++toString ".loop":String)="max.loop":=by decide
 refine yB F.entry_max_loop ?_;rw [yd Kb _];show wpAny _ A.in1 (seqItems? (.ref S) >>= _) _ _ s;refine Yb (yQ hS rfl ?_);show wpAny _ A.in1 (tryCatch (pyNext (.ref I)) _ >>= _) _ _ s;by_cases z:n=0
 . subst z;refine Yb (K0 (W.done s _ _ hst fun h1 tk hk=>?_));show wpAny _ A.in1 (rule _ >>= _) _ _ _;exact Yb (kj (Yj (hR0 h1 tk rfl fun b o hb hbS q=>hk b o hb q)))
 . refine Yb (K0 (W.item 0 s _ _ (by omega) hst fun v h1 tk hP hst1 hk=>?_));have hS1:=hk S _ hSw hS;obtain ⟨u,rfl⟩:=hv _ _ hP;show wpAny _ A.in1 (updateSeq S (fun _=>#[.int (val 0) u,.int (val 0) u]) >>= _) _ _ _;refine Yb (yg hS1 rfl ?_);rw [nm];refine Yj ⟨yt Kb _,jsx W hv hSf (n-1) 0 _ u _ (by omega) ‹"a1"› (YU _ hS1 rfl) fun t' h' tk' hk'=>?_⟩;exact hR t' h' tk' (by omega) fun b o hb hbS q=>hk' b o hb hbS ((yo _ _ (Ne.symm hbS)).trans (hk b o hb q))
end
section
variable {prog:Program} {w:World} {A:Around} {E:Value->Shared->Prop} {s:Shared}
theorem jjU (a v:Value):argsOk "max" ⟨[a],[(Str.ofString "default",v)]⟩:=by unfold argsOk;kernel_rfl
theorem jgz {l:Addr} {xs:Array (Int×Tok)} {d:Value} {Q:Value->Shared->Prop} (hh:A.handled=none) (hl:s.heap.IsList l (intItems xs))
 (h1:∀t h' tk,0<xs.size->‹"ai"›->Q (.int (mxN (numAt xs) (xs.size-1)) t) { s with heap:=h',toks:=tk })
 (h0:∀h' tk,xs.size=0 → ‹"aa"› → Q d { s with heap:=h',toks:=tk }):wpAny (model prog w) A (call (.builtin "max") [.ref l] [(Str.ofString "default",d)]) Q E s:=by
 have nm:(toString "max"++toString ".loop":String)="max.loop":=by decide
 refine kmb_tree F.kind_max F.plain_max F.entry_max (jjU _ _) ?_;show wpAny _ A.in1 (Builtin.Builtins.bindParams "max" ["key","default"] 0 ⟨[],[(Str.ofString "default",d)]⟩ >>= _) _ _ s;refine Yb (wpAny_of_eq (show Builtin.Builtins.bindParams "max" ["key","default"] 0 ⟨[],[(Str.ofString "default",d)]⟩=pure [none,some d] from rfl) ?_);refine Yb (Yj ?_);refine Yb (iter_intList hl fun s₂ e st hfp hlI=>?_);subst e;refine Yb (Kh ?_);rw [nm];have ez:(intItems xs).size=xs.size:=by simp [intItems]
 have W:=Walks.list (prog:=prog) (w:=w) (A:=A.in1) hh s.heap.objs.size l hlI (intItems xs);have hSf:(s.heap.push { cls:=.type "list_iterator",data:=.fields #[.ref l,.int 0 0] }).objs.size∉[s.heap.objs.size,l]:=fun z=>Y1 _ (hfp _ z);have old:∀{h':Heap},(∀b o,b∉[s.heap.objs.size] → b≠(s.heap.push { cls:=.type "list_iterator",data:=.fields #[.ref l,.int 0 0] }).objs.size → ((s.heap.push { cls:=.type "list_iterator",data:=.fields #[.ref l,.int 0 0] }).push { cls:=.type "list",data:=.seq ([]:List Value).toArray }).get? b=some o → h'.get? b=some o) → ∀b o,s.heap.get? b=some o → h'.get? b=some o:=fun {h'} hk b o q=>by have q1:=Yh { cls:=.type "list_iterator",data:=.fields #[.ref l,.int 0 0] } q;refine hk b o (fun z=>?_) (Yv (Yw q1)) (Yh _ q1);rw [Yu.mp z] at q;exact Y1 _ (Yw q)
 refine Yj ⟨yt Kb _,jkJ (n:=(intItems xs).size) (val:=numAt xs) W (fun i v hv=>intItems_at hv) hSf (W.frame _ _ _ st fun b _ o q=>Yh _ q) (Yy _ rfl) (fun t' h' tk hn hk=>?_) fun h' tk hn hk=>?_⟩
 . rw [ez] at hn ⊢;exact h1 t' h' tk hn (old hk)
 . rw [ez] at hn;exact h0 h' tk hn (old hk)
end
end QS
namespace L2
open PySem PySem.Spec PyProof.Rows
def jir (to:TE):TE:=fun σ H Q=>to σ H fun x H1=>∃(a:Addr) (ks xs:List Int),x=.ref a/\Rd H1 a (.dK (qK ks (xs.map V.int)))/\ks.length=xs.length/\ks.Nodup/\ks.length<64 /\
 ∀(l:Addr) (ts:List Addr) (ps:List (Int×Int)) (H':Hp),H1 l=none->(∀t∈ts,H1 t=none)->l∉ts->ts.Nodup->ts.length=ps.length->ps.Perm (ks.zip xs)->ps.Pairwise (fun a b=>b.1<a.1)->(∀b,b≠l->b∉ts->H' b=H1 b)->H' l=some (.lst (ts.map V.ref))->
   (∀(i:Nat) t p,ts[i]?=some t->ps[i]?=some p->H' t=some (.tup [.int p.1,.int p.2]))->Q (.ref l) H'
def jrl (h:Heap) (a:Addr) (p:Int×Int):Prop:=∃t u,h.get? a=some { cls:=.type "tuple",data:=.seq #[.int p.1 t,.int p.2 u] }
section
variable {X:Cx}
theorem jm8 {T:List QS.Tr} (h:∀q∈T,∃a,q.1=Value.ref a):∃ts:List Addr,T.map (·.1)=ts.map Value.ref:=by
 induction T with
 | nil=>exact ⟨[],rfl⟩
 | cons q T ih=>obtain ⟨a,ea⟩:=h q Ye;obtain ⟨ts,e⟩:=ih fun x hx=>h x (Yg _ hx);exact ⟨a::ts,by rw [List.map_cons,List.map_cons,e,ea]⟩
theorem jkd {o:Expr} {to:TE} {p1 apos pos2 pos1 kp cp:Pos} (hc:X.calm=true) (hg:Gl X "sorted") (hm:X.mg "sorted"=none) (ho:PE X o to)
 (hbase:autoParam (attributeBase o "items" X.env (eval o X.env)=eval o X.env) QA.a4._auto_1) (hline:autoParam ((apos.endLine == pos2.line)=true) QA.a4._auto_1)
 (hs:autoParam (starEach [.Call (.Attribute o "items" apos) [] [] pos2] X.env=[(false,eval (.Call (.Attribute o "items" apos) [] [] pos2) X.env)]) QA.a4._auto_1) :
 PE X ‹"9"› (jir to):=by
 intro pins s σ H Q I h;refine Kt (JN I hg hm boot_sorted ?_);refine PyProof.Rows.callWith_kw (rest:=[]) ?_ (by rw [hs];rfl) (by rw [hs];rfl);rw [hs];show wpAny _ _ (spliced ((false,eval (.Call (.Attribute o "items" apos) [] [] pos2) X.env)::backTo pos1 [])) _ _ s;refine yE (wpAny_Call_method0_late hbase hline (qr (ho pins s σ H _ I h) fun v s1 zz=>?_));obtain ⟨x,H1,I1,r1,a,ks,xs,ex,hd,hl,hnd,h64,q⟩:=zz;subst ex;obtain rfl:v=Value.ref a:=r1;obtain ⟨z,hsm,vs,rel,dd⟩:=QP I1.hok hd;obtain ⟨t1,t2,_⟩:=jhM I1 (.inl ⟨_,hd⟩);refine ⟨"dict","dict.items",KO,PySem.F.slot_dict_items,PySem.F.type_dict_items,t1,t2,Ks rfl (PySem.evalArgs_none ?_)⟩;refine K2 PySem.F.slot_dict_items dd.typeIs PySem.F.entry_dict_items (PySem.F.args_dict_items_1 _) (meets_dict_items (jT X.prog X.w) a hsm) ⟨⟨vs,dd⟩,?_⟩;refine yV (PyProof.Rows.kws_cons (Constant_bool (PyProof.Rows.kws_nil ?_)));show wpAny _ _ (call (.builtin "sorted") [.ref s1.heap.objs.size] [(Str.ofString "reverse",.bool true)]) _ _ _;obtain ⟨ep,dat⟩:=dd.dictAt;have hlv:ks.length=(xs.map V.int).length:=by rw [Yd];exact hl
 have lw:vs.length=ks.length:=by rw [<-KV.length rel,jc4 hlv]
 have lp:(ks.zip xs).length=ks.length:=by rw [Kk];omega
 refine QS.jeI (knd:=jT X.prog X.w) (kvs:=vs) (ep:=ep) (ps:=ks.zip xs) (I.ok.hd hc) ⟨_,Yy _ rfl,rfl,rfl⟩ (size_push' _ _) (dat.push _) (by rw [lw,lp]) (fun i k x e=>?_) ?_ (by rw [lp];exact h64) fun h' tk l c T hk hle hol hT hfr hndT hperm hpw=>?_
 . have hi:i<ks.length:=by rw [<-lw];exact (Ym.mp e).1
   have hz:(qK ks (xs.map V.int))[i]?=some (Sum.inl ks[i],V.int (xs[i]'(by omega))):=by unfold qK;rw [YQ];exact ⟨by rw [List.getElem?_map,Ya hi];rfl,by rw [List.getElem?_map,Ya (by omega)];rfl⟩
   obtain ⟨q',hq,e1,e2⟩:=Paired.get rel hz;rw [e] at hq;cases hq;dsimp only at e1 e2;subst e1;obtain ⟨u,rfl⟩:=e2;exact ⟨(ks[i],xs[i]'(by omega)),u,by rw [YQ];exact ⟨Ya hi,Ya (by omega)⟩,rfl,fun key hkey=>jeF hkey⟩
 . have:(ks.zip xs).map (·.1)=ks:=QS.jb6 hl;rw [this];exact hnd
 . obtain ⟨ts,ets⟩:=jm8 fun q hq=>let ⟨a,ea,_⟩:=hfr q hq;⟨a,ea⟩;have sz:s1.heap.objs.size ≤ (s1.heap.push { cls:=.type "dict_items",data:=.fields #[.ref a] }).objs.size:=by rw [size_push'];exact KG _
   have hTl:T.length=ts.length:=by have:=congrArg List.length ets;rwa [Yd,Yd] at this
   have tsT:∀(i:Nat) t,ts[i]?=some t->∃q,T[i]?=some q/\q∈T/\q.1=Value.ref t:=fun i t et=>by have:=congrArg (fun l=>l[i]?) ets;simp only [List.getElem?_map,et,Yl] at this;obtain ⟨q,e1,e2⟩:=map_some this;exact ⟨q,e1,YB e1,e2⟩
   have fresh:∀t∈ts,s1.heap.objs.size<=t/\t≠l:=fun t ht=>by obtain ⟨i,hi⟩:=List.mem_iff_getElem?.mp ht;obtain ⟨q',_,hq,e1⟩:=tsT i t hi;obtain ⟨b,e2,e3,e4⟩:=hfr q' hq;rw [e1] at e2;cases e2;exact ⟨YW sz e3,e4⟩
   have nd:ts.Nodup:=by rw [ets] at hndT;exact List.Pairwise.of_map Value.ref (fun a b hab z=>hab (congrArg Value.ref z)) hndT
   have pl:∀(i:Nat) t p,ts[i]?=some t->(T.map (·.2))[i]?=some p->jrl h' t p:=fun i t p e1 e2=>by obtain ⟨q',f1,f2,f3⟩:=tsT i t e1;rw [List.getElem?_map,f1] at e2;cases e2;obtain ⟨b,t',u,g1,g2⟩:=hT q' f2;rw [f3] at g1;cases g1;exact ⟨t',u,g2⟩
   have lT:(T.map (·.2)).length=ts.length:=by rw [Yd];exact hTl
   have pw:(T.map (·.2)).Pairwise fun a b=>b.1<a.1:=List.pairwise_map.mpr hpw;generalize T.map (·.2)=ps at hperm pl lT pw
   let H':Hp:=fun b=>if b=l then some (.lst (ts.map V.ref)) else if b∈ts then some (.tup [.int ((ps[ts.idxOf b]?).getD (0,0)).1,.int ((ps[ts.idxOf b]?).getD (0,0)).2]) else H1 b
   have HS:H' l=some (.lst (ts.map V.ref)):=if_pos rfl;have HT:∀(i:Nat) t p,ts[i]?=some t->ps[i]?=some p->H' t=some (.tup [.int p.1,.int p.2]):=fun i t p e e1=>by
    have hi:i<ts.length:=(Ym.mp e).1;have ht:t∈ts:=YB e;have hix:ts.idxOf t=i:=by obtain ⟨h1,h2⟩:=jaT ht;exact (KC (h₀:=h1) (h₁:=hi) nd).mp ((Ym.mp h2).2.trans (Ym.mp e).2.symm)
    show (if t=l then _ else if t∈ts then _ else _)=_;rw [if_neg (fresh t ht).2,if_pos ht,hix,e1];rfl
   have HO':∀b,b≠l->b∉ts->H' b=H1 b:=fun b h1 h2=>by show (if b=l then _ else if b∈ts then _ else _)=_;rw [if_neg h1,if_neg h2]
   have lel:s1.heap.objs.size<=l:=YW sz hle;have I2:Inv X pins σ H' { s1 with heap:=h',drawn:=s1.drawn,toks:=tk }:=by
    refine I1.grow (fun b o e=>hk b o (Yh _ e)) (fun b hb=>HO' b (fun z=>?_) (fun z=>?_)) fun b o hb e=>?_
    . rw [z] at hb;exact KY.mpr lel hb
    . exact KY.mpr (fresh b z).1 hb
    . by_cases hbS:b=l
      . subst hbS;rw [HS] at e;cases e;refine ⟨by rw [Yd,<- hTl,hTl,<- lT,hperm.length_eq,lp];exact YW (by omega:ks.length<=64) (by decide),ts.map Value.ref,c,jbl ts,?_⟩;rw [<-ets];exact hol
      . by_cases hbt:b∈ts
        . obtain ⟨h1,h2⟩:=jaT hbt;have hpi:ts.idxOf b<ps.length:=by rw [lT];exact h1
          rw [HT _ b _ h2 (Ya hpi)] at e;cases e;obtain ⟨t',u,g2⟩:=pl _ b _ h2 (Ya hpi);exact ⟨by show 2<=sizeLine;decide,_,.cons ⟨_,rfl⟩ (.cons ⟨_,rfl⟩ .nil),⟨_,g2,rfl,0,rfl⟩⟩
        . rw [HO' b hbS hbt] at e;exact absurd (I1.hok.lt e) (KY.mpr hb)
   exact ⟨.ref l,H',I2,rfl,q l ts ps H' (I1.hok.fresh lel) (fun t ht=>I1.hok.fresh (fresh t ht).1) (fun z=>(fresh l z).2 rfl) nd lT.symm hperm pw HO' HS HT⟩
end
def jj9 (p:Int×Int):List (Int×Int)->List (Int×Int)
 | []=>[p]
 | q::l=>if q.1<p.1 then p::q::l else q::jj9 p l
def jeU:List (Int×Int)->List (Int×Int)
 | []=>[]
 | p::l=>jj9 p (jeU l)
theorem jbG (p:Int×Int):∀l,(jj9 p l).Perm (p::l)
 | []=>List.Perm.refl _
 | q::l=>by
   unfold jj9;split
   . exact List.Perm.refl _
   . exact (List.Perm.cons q (jbG p l)).trans (List.Perm.swap p q l)
theorem Z3:∀l,(jeU l).Perm l
 | []=>List.Perm.refl _
 | p::l=>(jbG p (jeU l)).trans (List.Perm.cons p (Z3 l))
theorem jdV {p:Int×Int}:∀{l:List (Int×Int)},l.Pairwise (fun a b=>b.1<a.1)->(∀q∈l,q.1≠p.1)->(jj9 p l).Pairwise fun a b=>b.1<a.1
 | [],_,_=>List.pairwise_singleton _ _
 | q::l,h,hn=>by
   have h':=Yx.mp h;have hq:=hn q Ye;unfold jj9;split
   . rename_i c;refine Yx.mpr ⟨fun x hx=>?_,h⟩;rcases Yn.mp hx with rfl | hx
     . exact c
     . exact kH (h'.1 x hx) c
   . rename_i c;refine Yx.mpr ⟨fun x hx=>?_,jdV h'.2 fun x hx=>hn x (Yg _ hx)⟩;rcases Yn.mp ((jbG p l).mem_iff.mp hx) with rfl | hx
     . omega
     . exact h'.1 x hx
theorem jbH:∀{l:List (Int×Int)},(l.map (·.1)).Nodup->(jeU l).Pairwise fun a b=>b.1<a.1
 | [],_=>List.Pairwise.nil
 | p::l,h=>by have h':=yc.mp h;refine jdV (jbH h'.2) fun q hq z=>h'.1 ?_;show p.1∈_;rw [<-z];exact KI ((Z3 l).mem_iff.mp hq)
theorem jgu:∀{l m:List (Int×Int)},l.Pairwise (fun a b=>b.1<a.1)->m.Pairwise (fun a b=>b.1<a.1)->l.Perm m->l=m
 | [],m,_,_,h=>by rw [List.nil_perm.mp h]
 | x::l,[],_,_,h=>by cases List.perm_nil.mp h
 | x::l,y::m,h1,h2,h=>by
   have p1:=Yx.mp h1;have p2:=Yx.mp h2;have e:x=y:=by
     rcases Yn.mp (h.mem_iff.mp Ye) with z | z
     . exact z
     . rcases Yn.mp (h.mem_iff.mpr Ye) with w | w
       . exact w.symm
       . have:=p2.1 x z;have:=p1.1 y w;omega
   subst e;rw [jgu p1.2 p2.2 ((List.perm_cons x).mp h)]
section
variable [Fr]
def jqY (p:Int×Int):D:=.tup [.int p.1,.int p.2]
def jcb (fd:L2.Env->Option D):L2.Env->Option (List D):=fun ρ=>match fd ρ with
 | some (.dic ks ds)=>(Ql ds).bind fun xs=>if ks.length=xs.length/\ks.Nodup/\ks.length<64 then some ((jeU (ks.zip xs)).map jqY) else none
 | _=>none
theorem jmn {td:TE} {fd:L2.Env->Option D} (hd:zG td fd):EOkO (jir td) (jcb fd):=fun G0 H0 G H σ ρ Q ds e q k=>by
 unfold jcb at q;split at q
 . rename_i ks es z;obtain ⟨xs,q1,q2⟩:=bind_some q;split at q2
   . rename_i hz;cases q2;refine hd _ _ _ _ _ _ _ _ e z fun v G1 H1 x1 rr=>?_;cases rr with
     | @dic a vs _ _ h hl r=>
       rw [zU q1] at r;rw [r.ints] at h;refine ⟨a,ks,xs,rfl,h,hz.1,hz.2.1,hz.2.2,fun c ts ps H' hc hts hcn hnd hlen hperm hfall hoth hcl htup=>?_⟩;have eps:ps=jeU (ks.zip xs):=by refine jgu hfall (jbH ?_) (hperm.trans (Z3 _).symm);have:(ks.zip xs).map (·.1)=ks:=QS.jb6 hz.1;rw [this];exact hz.2.1
       subst eps;have G2:∃G2:Hp,G2=fun x=>if x∈ts then H' x else G1 x:=⟨_,rfl⟩
       obtain ⟨G2,eG2⟩:=G2;have inT:∀x,x∈ts->G2 x=H' x:=fun x hx=>by rw [eG2];exact if_pos hx
       have outT:∀x,x∉ts->G2 x=G1 x:=fun x hx=>by rw [eG2];exact if_neg hx
       have sG:Same G1 G2:=fun x o w=>by rw [outT x fun z=>by have:=hts x z;rw [x1.gh x o w] at this;cases this];exact w
       have sH:Same H1 H':=fun x o w=>by rw [hoth x (jH w hc) fun z=>by have:=hts x z;rw [w] at this;cases this];exact w
       have x2:Ext G1 H1 G2 H':=⟨sH,sG,fun x o w=>by
        by_cases hx:x∈ts
        . rw [inT x hx] at w;exact w
        . rw [outT x hx] at w;exact sH x o (x1.gh x o w),fun x o w=>by
        by_cases hx:x∈ts
        . exact .inr (hts x hx)
        . rw [outT x hx] at w;exact .inl w⟩
       have gc:G2 c=none:=by rw [outT c hcn];exact x1.gh.free hc
       refine k c _ G2 H' (x1.trans x2) (x1.hh.free hc) gc hcl ?_;have build:∀(vs:List V) (ds:List D),vs.length=ds.length->(∀(i:Nat) v d,vs[i]?=some v->ds[i]?=some d->Rep G2 v d)->Reps G2 vs ds:=by
        intro vs;induction vs with
        | nil=>intro ds hl _;cases ds with | nil=>exact .nil | cons _ _=>simp at hl
        | cons v vs ih=>
          intro ds hl hh;cases ds with
          | nil=>simp at hl
          | cons d ds=>exact .cons (hh 0 v d rfl rfl) ‹"aP"›
       refine build _ _ (by rw [Yd,Yd,hlen]) fun i v d g1 g2=>?_;rw [List.getElem?_map] at g1 g2;obtain ⟨t,et,rfl⟩:=map_some g1;obtain ⟨p,epp,rfl⟩:=map_some g2;exact .tup (by rw [inT t (YB et)];exact htup i t p et epp) (.cons (.int _) (.cons (.int _) .nil))
   . cases q2
 . cases q
end
def jom (K:PySem.W.Frag) (te tf:TE):TE:=fun σ H Q=>te σ H fun x H1=>tf σ H1 fun y H2=>∃(p:Addr) (ns:List Int),x=.ref p/\Jp K H2 p (ns.map V.int)/\(ns=[]->Q y H2)/\∀M,M∈ns->(∀a∈ns,a<=M)->Q (.int M) H2
section
variable {X:Cx}
theorem jnk {e f:Expr} {te tf:TE} {p1 pos1 kp:Pos} (hc:X.calm=true) (hg:Gl X "max") (hm:X.mg "max"=none) (he:PE X e te) (hf:PE X f tf) (hs:autoParam (starEach [e] X.env=[(false,eval e X.env)]) QA.a4._auto_1) :
 PE X (.Call (.Name "max" p1) [e] [⟨some "default",f,kp⟩] pos1) (jom X.K te tf):=by
 intro pins s σ H Q I h;refine Kt (JN I hg hm boot_max ?_);refine PyProof.Rows.callWith_kw (rest:=[]) ?_ (by rw [hs];rfl) (by rw [hs];rfl);rw [hs];show wpAny _ _ (spliced ((false,eval e X.env)::backTo pos1 [])) _ _ s;refine yE (qr ‹"aI"› fun u s1 ⟨x,H1,I1,rx,q1⟩=>yV (PyProof.Rows.kws_cons (qr (hf pins s1 σ H1 _ I1 q1) fun v s2 zz=>PyProof.Rows.kws_nil ?_)));obtain ⟨y,H2,I2,ry,p,ns,ex,hq,q0,q⟩:=zz;subst ex;obtain rfl:u=Value.ref p:=rx;show wpAny _ _ (call (.builtin "max") [.ref p] [(Str.ofString "default",v)]) _ _ _;obtain ⟨its,rv,pl,hz⟩:=I2.list hq;have hi:IntsAre its ns:=Qj rv;obtain ⟨ys,hx⟩:=hi.allInts.items;have hl':s2.heap.IsList p (intItems ys):=hx ▸ pl.isList;have e1:ns=ys.toList.map (·.1):=by rw [<-nums_intItems,<- hx];exact (show numsOf its.toArray.toList=ns from hi.numsOf).symm
 refine QS.jgz (I.ok.hd hc) hl' (fun t h' tk hn hk=>?_) fun h' tk hn hk=>?_
 . obtain ⟨⟨j,hj,ej⟩,hall⟩:=QS.jkY (numAt ys) (ys.size-1);refine ⟨.int _,H2,I2.kept hk,⟨t,rfl⟩,q _ ?_ fun a ha=>?_⟩
   . rw [ej,numAt_eq,e1];exact getD_mem (by rw [Yd,YL];omega)
   . rw [e1] at ha;obtain ⟨j,hj,rfl⟩:=mem_getD ha;rw [Yd,YL] at hj;rw [<-numAt_eq];exact hall j (by omega)
 . refine ⟨y,H2,I2.kept hk,ry,q0 ?_⟩;rw [e1];exact List.map_eq_nil_iff.mpr (List.eq_nil_of_length_eq_zero (by rw [YL];exact hn))
end
section
variable [Fr]
def jh9 (fe ff:L2.Env->Option D):L2.Env->Option D:=fun ρ=>(fe ρ).bind fun x=>(ff ρ).bind fun y=>match x with
 | .lst l=>(Ql l).map fun ns=>match jdt ns with
   | some m=>.int m
   | none=>y
 | _=>none
theorem jpp {te tf:TE} {fe ff:L2.Env->Option D} (he:zG te fe) (hf:EOk tf ff):EOk (jom Fr.K te tf) (jh9 fe ff):=fun G0 H0 G H σ ρ Q d e q k=>by
 obtain ⟨x,qa,q⟩:=bind_some q;obtain ⟨y,qb,q⟩:=bind_some q;split at q
 . rename_i l;obtain ⟨ns,q1,q2⟩:=map_some q;refine he G0 H0 G H σ ρ _ _ e qa fun u G1 H1 x1 r1=>?_;refine hf G0 H0 G1 H1 σ ρ _ y (e.grow x1) qb fun v G2 H2 x2 r2=>?_;obtain ⟨_,_,rfl,h,r⟩:=r1.of_lst;rw [zU q1] at r;rw [r.ints] at h;refine ⟨_,ns,rfl,Or.inl (h.same x2.hh),fun z=>?_,fun M h1 h2=>?_⟩
   . subst z;cases q2;exact k _ G2 H2 (x1.trans x2) r2
   . cases em:jdt ns with
     | none=>rw [jcw em] at h1;cases h1
     | some m=>
       rw [em] at q2;subst q2;obtain ⟨m1,m2⟩:=jft em;have e:M=m:=by have:=h2 m m1;have:=m2 M h1;omega
       subst e;exact k _ G2 H2 (x1.trans x2) (.int _)
 . cases q
def jbu (fd fk fx:L2.Env->Option D):L2.Env->Option D:=fun ρ=>(fd ρ).bind fun d=>(fk ρ).bind fun k=>(fx ρ).bind fun x=>match d,k with
 | .dic ks ds,.int i=>some ((qF ks ds i).getD x)
 | _,_=>none
theorem jnE {td ty tx:TE} {fd fk fx:L2.Env->Option D} (hd:zG td fd) (hk:zG ty fk) (hx:EOk tx fx):EOk (jk4 td ty tx) (jbu fd fk fx):=fun G0 H0 G H σ ρ Q d e q k=>by
 obtain ⟨x,qa,q⟩:=bind_some q;obtain ⟨y,qb,q⟩:=bind_some q;obtain ⟨z,qc,q⟩:=bind_some q;split at q
 . rename_i ks ds i _ _;refine hd G0 H0 G H σ ρ _ _ e qa fun u G1 H1 x1 r1=>?_;cases r1 with
   | @dic a _ vs _ h hl r=>
     refine ⟨a,rfl,.inl ⟨_,h⟩,hk G0 H0 G1 H1 σ ρ _ _ (e.grow x1) qb fun v G2 H2 x2 r2=>?_⟩
     (have hh:=RepT.of_int r2;subst hh)
     refine hx G0 H0 G2 H2 σ ρ _ z ((e.grow x1).grow x2) qc fun w G3 H3 x3 r3=>?_;cases q;have h':=(h.same x2.hh).same x3.hh;have r':=(r.mono x2.gg).mono x3.gg;obtain ⟨l1,l2⟩:=jbd r' i hl;refine ⟨_,.inl ⟨_,Sum.inl i,h',rfl,rfl⟩,?_⟩;cases hz:qF ks ds i with
     | none=>rw [l2 hz];exact k _ G3 H3 ‹"ae"› (by rw [hz];exact r3)
     | some d'=>obtain ⟨v',hv,rv⟩:=l1 d' hz;rw [hv];exact k _ G3 H3 ‹"ae"› (by rw [hz];exact rv)
 . cases q
end
end L2
namespace L2
open PySem PySem.Spec PyProof.Rows
section
variable {M:Fm} {o e f:Expr} {fa fb fx:L2.Env->Option D}
theorem jmf {p1 apos pos2 pos1 kp cp:Pos} (hg:∀j,Gl (M.X j) "sorted") (hm:∀j,(M.X j).mg "sorted"=none) (ha:WT M o fa) (hbase:autoParam (∀j,attributeBase o "items" (M.X j).env (eval o (M.X j).env)=eval o (M.X j).env) QA.a3._auto_1) (hline:autoParam ((apos.endLine == pos2.line)=true) QA.a4._auto_1) :
 WO M ‹"9"› (jcb fa):=
 let ⟨_,h1,h2⟩:=ha.h;⟨_,fun j=>jkd (M.calm j) (hg j) (hm j) (h1 j) (hbase j) hline (by rw [qf rfl];rfl),@jmn M.fr _ _ h2⟩
theorem jmM {apos cpos:Pos} (hu:∀j,(M.X j).A.units+64<cLine) (ha:WT M o fa) (hb:WT M e fb) (hx:WE M f fx) (h':autoParam (qd e=false) QA.a4._auto_1) (h'':autoParam (qd f=false) QA.a4._auto_1)
 (hbase:autoParam (∀j,attributeBase o "get" (M.X j).env (eval o (M.X j).env)=eval o (M.X j).env) QA.a3._auto_1) (hline:autoParam (‹"ak"›=true) QA.a4._auto_1):WE M (.Call (.Attribute o "get" apos) [e,f] [] cpos) (jbu fa fb fx):=
 let ⟨_,h1,h2⟩:=ha.h;let ⟨_,k1,k2⟩:=hb.h;let ⟨_,l1,l2⟩:=hx.h;⟨_,fun j=>jkG (jbE (hu j)) (h1 j) (k1 j) (l1 j) ⟨hbase j,by rw [qf h',qf h''];rfl,hline,by rw [qf h',qf h''];rfl⟩,@jnE M.fr _ _ _ _ _ _ h2 k2 l2⟩
theorem jpE {p1 pos1 kp:Pos} (hg:∀j,Gl (M.X j) "max") (hm:∀j,(M.X j).mg "max"=none) (ha:WT M e fa) (hx:WE M f fx) (h':autoParam (qd e=false) QA.a4._auto_1):WE M (.Call (.Name "max" p1) [e] [⟨some "default",f,kp⟩] pos1) (jh9 fa fx):=let ⟨_,h1,h2⟩:=ha.h;let ⟨_,l1,l2⟩:=hx.h;⟨_,fun j=>by have:=jnk (p1:=p1) (pos1:=pos1) (kp:=kp) (M.calm j) (hg j) (hm j) (h1 j) (l1 j) (by rw [qf h'];rfl);rw [M.hK j] at this;exact this,@jpp M.fr _ _ _ _ h2 l2⟩
end
end L2
namespace Q
open PySem PySem.Spec PyProof.Rows L2
def Qa:FS:=(jy (Zu (qV (jk dLt (ja 1) (ji qS (jc (ja 0) jj))))
 (ze (jk jO (ja 0) (ja 1))) qw)
 (ze (eC (.int 0))))
def qT:List D->Option D:=zk 2 2 Qa
def ZM:FS:=(jy (jI 3 (jk zD (jk qC (ja 0) (eC (.int 6))) (eC (.int 2))))
 (jy ‹"aT"›
 (jy (Zu (qV (jk dEq (ja 2) (eC (.int 1))))
 (jy (jI 3 (jk zD (jk qC (ja 0) (eC (.int 50))) (eC (.int 25))))
 (jI 4 (jk qL (jk qL (ja 3) (eC (.int 1))) (jk qC (jk JA (ja 0) (eC (.int 50))) (eC (.int 40)))))) qw)
 (jy (Zu (qV (jk dEq (ja 2) (eC (.int 2))))
 (jy ‹"T"›
 (jI 4 (jk qL (jk qL (ja 3) (eC (.int 1))) (jk zd (jk qC (jk zd (ja 0) (eC (.int 1664525013))) (eC (.int 2147483629))) (jk jba (eC (.int 10)) (eC (.int 5))))))) qw)
 (jy (jI 5 (jk jO (jM (zV (jc (eC (.int 2)) (jc (eC (.int 1)) (jc (eC (.int 3)) (jc (eC (.int 5)) (jc (jk jba (eC (.int 10)) (eC (.int 15))) (jc (jk qL (eC (.int 1)) (jk qC (jk JA (ja 1) (eC (.int 8))) (eC (.int 50)))) (jc (eC (.int 0)) (jc (eC (.int 4)) jj)))))))))) (jk qC (ja 1) (eC (.int 8)))))
 (jy (jI 6 (jk qC (jk zd (ja 1) (eC (.int 1103515245))) (eC (.int 2147483647))))
 (jy (jI 7 (jk zd (ja 5) (jk zD (ja 4) (ja 3))))
 (jy (jI 8 (jk jO (jM (zV (jc (jk JA (jk zd (ja 7) (jk qC (ja 6) (eC (.int 17)))) (eC (.int 16))) (jc (jk qC (ja 6) (jk qL (ja 7) (eC (.int 1)))) (jc (ji jad (jc (ja 7) (jc (jk qC (ja 6) (eC (.int 9))) jj))) (jc (jq 7) jj)))))) (jk qC (jk JA (ja 6) (eC (.int 17))) (eC (.int 4)))))
 (ze (jaa (jc (jq 3) (jc (jq 4) (jc (jq 8) (jc (jq 5) jj))))))))))))))
def Ja:List D->Option D:=zk 3 9 ZM
def JW:FS:=(jy (jI 2 (ji qT (jc (jq 0) (jc (jq 1) jj))))
 (jy (Jm 3 (zV jj))
 (jy (zW (Qz (jc (jk jO (jM (zV (jc (eC (.int 3)) (jc (eC (.int 4)) (jc (eC (.int 2)) (jc (eC (.int 4)) (jc (eC (.int 1)) (jc (eC (.int 3)) (jc (eC (.int 0)) (jc (eC (.int 4)) jj)))))))))) (jk qC (ja 2) (eC (.int 8)))) jj)) (jz 4)
 (jy (jI 5 (ji qT (jc (jq 0) (jc (jk qL (jk qL (ja 1) (eC (.int 1))) (jk zd (eC (.int 2)) (ja 4))) jj))))
 (JD 3 (ji Ja (jc (jq 5) (jc (ji qT (jc (jq 0) (jc (jk qL (jk qL (ja 1) (eC (.int 2))) (jk zd (eC (.int 2)) (ja 4))) jj))) (jc (jk qC (jk JA (ja 2) (eC (.int 8))) (eC (.int 3))) jj)))))))
 (jy (Zu ‹"7"›
 (jeX 3 (jlK (eC (.int 1))) (jk jO (ja 3) (eC (.int 0)))) qw)
 (jbU 3)))))
def J6:List D->Option (List D):=zO 2 6 JW
def J1:FS:=(jy (jI 1 (jM (ji jfY (jc (jM (jk jdM (jM (JV (jY (ja 0)) (jz 0) ‹"l"› ‹"aj"› 1 [])) (jM (JV (jY (ja 0)) (jz 0) ‹"l"› ‹"aC"› 1 [])))) jj))))
 (zi (JV (Qz (jc (jk zD (ji qS (jc (ja 1) jj)) (eC (.int 1))) jj)) (jz 0) (qV (jk dLt (jk jO (ja 1) (ja 0)) (jk jO (ja 1) (jk qL (ja 0) (eC (.int 1)))))) (jaa (jc (jk jO (ja 1) (ja 0)) (jc (jk jO (ja 1) (jk qL (ja 0) (eC (.int 1)))) jj))) 1 [1])))
def JZ:List D->Option (List D):=zO 1 2 J1
def JX:FS:=(jy (Jm 2 (zV jj))
 (jy (zW (jY (jq 1)) (Qh 2 (j2 (jz 3) (j2 (jz 4) Qn)))
 (Zu (Zx (qV (jk dLe ‹"aj"› (ja 3))) (qV (jk dLe (ja 4) ‹"aC"›)))
 (JD 2 (jk zd (jk jO (ja 0) (eC (.int 3))) (jk zD (ja 4) (ja 3)))) (JD 2 (eC (.int 0)))))
 (jbU 2)))
def J3:List D->Option (List D):=zO 2 5 JX
def Qt:FS:=(jy (jI 2 (jM (ji JZ (jc (jq 0) jj))))
 (jy (Jm 3 (zV jj))
 (jy (zW (Qz (jc (ji qS (jc (ja 0) jj)) jj)) (jz 4)
 (jy (jI 5 (jM (ji J3 (jc ‹"aw"› (jc (jq 2) jj)))))
 (jy (jI 6 (jk jO ‹"aw"› (eC (.int 2))))
 (jy (Jm 7 (zV jj))
 (jy (zW ‹"3"› (jz 8)
 (jy ‹"E"›
 (jy ‹"c"›
 (jy ‹"ac"›
 (jI 6 (jk zD (ja 6) (jk jO (ja 7) (ja 8))))))))
 (jy (zW ‹"3"› (jz 8)
 (jy ‹"C"›
 (jy ‹"Q"›
 (jy ‹"aK"›
 (jI 6 (jk zD (ja 6) (ja 12)))))))
 (jhZ 7 (JD 3 (jq 7)))))))))
 (jbU 3))))
def ZU:List D->Option (List D):=zO 2 13 Qt
def QE:FS:=(zi (JV (Qz (jc (ji qS (jc (ja 0) jj)) jj)) (jz 0) ‹"l"› ‹"a7"› 1 [1]))
def QD:List D->Option (List D):=zO 2 2 QE
def jcT:FS:=(ze (jdS (jkj "int" (ja 0)) (jnU (jkj "bool" (ja 0)))))
def jau:List D->Option D:=zk 1 1 jcT
def jbF:FS:=(jy (Zu (bOr (jdH (qV (jkj "tuple" (ja 0)))) (qV (jk dNe (ji qS (jc (ja 0) jj)) (eC (.int 4)))))
 (ze (eC (.bl false))) qw)
 (jy (Zu (jdH (qV (ji jjc (jc (jM (JV (jbW (jq 0)) (jz 0) ‹"l"› (ji jau (jc (jq 0) jj)) 1 [])) jj))))
 (ze (eC (.bl false))) qw)
 (jy (jI 1 (jk zD ‹"aC"› ‹"aj"›))
 (ze (jdS (jk dGt (ja 1) (eC (.int 0))) (jdS (jk dGe (jk jO (ja 0) (eC (.int 3))) (eC (.int 0))) (jcJ dLe dLe (eC (.int 0)) (jk jO (ja 0) (eC (.int 2))) (jk zd (jk jO (ja 0) (eC (.int 3))) (ja 1)))))))))
def QG:List D->Option D:=zk 1 2 jbF
def jaw:FS:=(ze (jdS (jkj "list" (ja 0)) (ji jjc (jc (jM (JV (jY (ja 0)) (jz 0) ‹"l"› (ji QG (jc (jq 0) jj)) 1 [])) jj))))
def Zm:List D->Option D:=zk 1 1 jaw
def JO:FS:=(Zu (jdH (qV (ji Zm (jc (jq 0) jj))))
 (fun _=>.fail) qw)
def zR:List D->Option D:=zk 1 1 JO
def Zi:FS:=(jy (jI 3 (ji JB (jc (jM (JV (ZW (jc (ja 1) (jc (ja 2) jj))) ‹"aA"› (jdH (qV (ja 1))) (jq 0) 2 [])) jj)))
 (ze (ji jd1 (jc (jk zD (ja 0) (ja 3)) (jc (eC (.int 0)) jj)))))
def jay:List D->Option D:=zk 3 4 Zi
def jhn:FS:=(zi (JV (ZW (jc (ja 0) (jc (ja 1) jj))) ‹"aA"› (qV (jk dEq (ja 1) (ja 2))) (jq 0) 2 [2]))
def Zg:List D->Option (List D):=zO 3 3 jhn
def jcS:FS:=(jy (Jm 3 (zV jj))
 (jy (zW (Qy (jc (jq 2) jj)) (Qh 2 (j2 (jz 4) (j2 (jz 5) Qn)))
 (jy (jI 6 (eBM jco (jM (eSl (ja 2) pNo (pSo (ja 4)))) (jc (jq 5) jj)))
 (JD 3 (eIf (qV (ja 5)) (jk jO (ja 0) (ja 6)) (jk jO (ja 1) (ja 6))))))
 (jbU 3)))
def jaG:List D->Option (List D):=zO 3 7 jcS
def jeE:FS:=(jy (zW (Qy (jc (jq 1) jj)) (Qh 2 (j2 (jz 4) (j2 (jz 5) Qn)))
 (Zu (Zx (qV (jk dGt (jk jO (ja 5) (ja 2)) (eC (.int 0)))) (qV (jk dLt (jk jO (ja 5) (ja 3)) (jk jO ‹"aw"› (ja 3)))))
 (ze (jq 4)) qw))
 (ze (eC .non)))
def Q7:List D->Option D:=zk 4 6 jeE
def je5:FS:=(jy (jdU 3 (ji jfg (jc (ja 2) jj)))
 (jy (Jm 4 (ji jc7 (jc (ja 2) jj)))
 (jy (jI 5 (eC (.int 0)))
 (jy (Qb (qV (jk dLt (ja 5) (ji qS (jc (ja 4) jj))))
 (jy (jI 6 (jk jO (ja 4) (ja 5)))
 (jy (zW (Qz (jc (ji qS (jc ‹"aj"› jj)) jj)) (jz 7)
 (jy (jI 8 (eIf (qV ‹"aU"›) (eC .non) ‹"V"›))
 (Zu (qV (jbL (ja 8)))
 (jy (Zr 3 (jq 7) (jaa (jc (jq 8) (jc (jq 6) (jc (jq 7) jj)))))
 (JD 4 (jq 7))) qw)))
 (jnC 5 (eC (.int 1)) (fun i j=>i+j)))))
 (jf5 3)))))
def jb7:List D->Option D:=zk 3 9 je5
def jdu:FS:=(jy (Jm 2 (zV jj))
 (jy (jI 3 (jk jiu (ja 0) (ja 1)))
 (jy (Qb (qV (jbL (ja 3)))
 (jy (JD 2 (jq 3))
 (jI 3 (jk jby (ja 0) (jk jO (ja 3) (eC (.int 1)))))))
 (zi (ji jmk (jc (ja 2) jj))))))
def jaO:List D->Option (List D):=zO 2 4 jdu
def jcW:FS:=(jy (jcq 3 (jlv (jY (ja 0)) (jz 0) ‹"l"› (ji jd7 (jc (ja 0) jj)) 1 []))
 (jy (zW (jY (jq 1)) (Qh 3 (j2 (jz 4) (j2 (jz 5) (j2 (jz 6) Qn))))
 (jy (Zu (qV (jbL (ja 5)))
 (jcl 3 (ja 4) (jq 5) (jq 2) (fun i j=>i-j)) qw)
 (jcl 3 (ja 4) (jq 6) (jq 2) (fun i j=>i+j))))
 (jhZ 3 (ze (jq 3)))))
def jaW:List D->Option D:=zk 3 7 jcW
def jcH:FS:=(jy (jdU 3 jiv)
 (jy (zW (Qy (jc (jq 2) jj)) (Qh 2 (j2 (jz 4) (j2 (jz 5) Qn)))
 (jy (jI 6 (jk dLt (ji JB (jc (ja 5) jj)) ‹"aw"›))
 (zW (Qy (jc (jq 5) jj)) (Qh 2 (j2 (jz 7) (j2 (jz 8) Qn)))
 (Zu ‹"A"›
 (Zr 3 (jq 7) (jaa (jc (jq 4) (jc (eC .non) (jc (jq 7) jj))))) qw))))
 (jf5 3)))
def jaF:List D->Option D:=zk 3 9 jcH
def jfb:FS:=(ze (ji JB (jc (jM (JV (jY (ja 0)) (jz 0) ‹"l"› (jk jO (ja 0) (ja 1)) 1 [1])) jj)))
def Zn:List D->Option D:=zk 2 2 jfb
def Ze:FS:=(jy (jI 4 (jk jO (jk jO (ja 3) (eC (.int 0))) (eC (.int 0))))
 (jy (Jm 5 (zV (jc (jk zD ‹"aw"› (ji JB (jc (jk jO (ja 2) (ja 4)) jj))) jj)))
 (jy (zW (jY (jq 3)) (Qh 3 (j2 (jz 6) (j2 (jz 7) (j2 (jz 8) Qn))))
 (jy (JD 5 (jk zD (jk jO (jk jO (ja 1) (ja 6)) (ja 8)) (jk jO (jk jO (ja 2) (ja 6)) (ja 8))))
 (Zu (qV (jbL (ja 7)))
 (JD 5 (jk jO (jk jO (ja 2) (ja 6)) (ja 7))) qw)))
 (ze (ji jgt (jc (ja 5) jj))))))
def J0:List D->Option D:=zk 4 9 Ze
def jcz:FS:=(Qb (qV (eC (.bl true)))
 (jy (jI 4 (ji jb7 (jc (jq 1) (jc (jq 3) (jc (ji jaF (jc (jq 0) (jc (jq 1) (jc (jq 3) jj)))) jj)))))
 (jy (jI 5 (jM (JV (jet (jq 4)) (jz 0) (qV (jk dLt (ji Zn (jc (jq 1) (jc (jq 0) jj))) (jk jO (ja 2) (ja 0)))) (jq 0) 1 [3,2])))
 (jy (Zu (qV (jk dEq (ja 5) (jM (zV jj))))
 (jy (jI 6 (ji JB (jc (jM (JV (jY (ja 3)) (jz 0) ‹"l"› (ji JB (jc (ja 0) jj)) 1 [])) jj)))
 (ze (jaa (jc (jq 6) (jc (jq 3) (jc (jM (JV (Qz (jc (ji qS (jc (ja 2) jj)) jj)) (jz 0) (fun _=>some true) (jk (jaD false) (ja 0) (ja 1)) 1 [4])) jj)))))) qw)
 (jy (jI 7 (jM (ji jaO (jc (jq 4) (jc (jk jO (ja 5) (eC (.int 0))) jj)))))
 (jy (jI 8 (jk zD (jk jO (ja 2) (jk jO (ja 5) (eC (.int 0)))) (ji Zn (jc (jq 3) (jc (jk jO (ja 5) (eC (.int 0))) jj)))))
 (jI 3 (ji jaW (jc (jq 3) (jc (jq 7) (jc (ji jad (jc (ja 8) (jc (ji J0 (jc (jq 0) (jc (jq 1) (jc (jq 3) (jc (jq 7) jj))))) jj))) jj)))))))))))
def ZY:List D->Option D:=zk 4 9 jcz
def ZS:FS:=(zi (JV (jY (ja 0)) (jz 0) ‹"l"› (jM (jk jnS (jM (zV (jc (eC (.int 0)) jj))) (ji qS (jc (ja 0) jj)))) 1 []))
def Qs:List D->Option (List D):=zO 1 1 ZS
def qx (f_evened:List D->Option D):FS:=(jy (jI 4 (jM (JV (ZW (jc (ja 0) (jc (ja 1) jj))) ‹"aA"› ‹"l"› (ji jay (jc (jq 0) (jc (jq 1) (jc (jq 2) jj)))) 2 [3])))
 (jy (jI 5 (jM (JV (ZW (jc (ja 0) (jc (ja 4) jj))) ‹"aA"› ‹"l"› (jk zD (ja 0) (ja 1)) 2 [])))
 (jy (jI 6 (ji f_evened (jc (jq 4) (jc (jM (JV (jY (ja 1)) (jz 0) ‹"l"› (jM (ji Zg (jc (jq 0) (jc (jq 1) (jc (eC (.bl true)) jj))))) 1 [3])) (jc (jM (ji Zg (jc (jq 2) (jc (jq 3) (jc (eC (.bl true)) jj))))) jj)))))
 (jy (jI 7 (ji f_evened (jc (jq 5) (jc (jM (JV (jY (ja 1)) (jz 0) ‹"l"› (jM (ji Zg (jc (jq 0) (jc (jq 1) (jc (eC (.bl false)) jj))))) 1 [3])) (jc (jM (ji Zg (jc (jq 2) (jc (jq 3) (jc (eC (.bl false)) jj))))) jj)))))
 (zi (JV (ZW (jc (ja 6) (jc (ja 7) jj))) (Qh 2 (j2 (jz 0) (j2 (jz 1) Qn))) (fun _=>some true) (jM (ji jaG (jc (jq 0) (jc (jq 1) (jc (jq 2) jj))))) 2 [3]))))))
def ja3 (f_evened_apart:List D->Option (List D)):FS:=(jy (jI 3 (jk JA (ji JB (jc (ja 0) jj)) (ji JB (jc (ja 2) jj))))
 (jy (jI 4 (ji ZY (jc (jq 0) (jc (jq 1) (jc (jM (JV (jY (ja 2)) (jz 0) ‹"l"› (jk zd (ja 1) (ja 0)) 1 [3])) (jc (jM (ji Qs (jc (jq 1) jj))) jj))))))
 (jy (Zu (qV (jk dLt (jk jO (ja 4) (eC (.int 0))) (jk zd (ja 3) (ji JB (jc (ja 2) jj)))))
 (ze (jM (ji f_evened_apart (jc (jq 0) (jc (jq 1) (jc (jq 2) (jc (jk jO (ja 4) (eC (.int 2))) jj))))))) qw)
 (jy (jI 5 (ji ZY (jc (jq 0) (jc (jq 1) (jc (jM (JV (jY (ja 2)) (jz 0) ‹"l"› (jk zd (jk qL (ja 1) (eC (.int 1))) (ja 0)) 1 [3])) (jc (jk jO (ja 4) (eC (.int 1))) jj))))))
 (jy (Zu (qV (jk dLt (jk jO (ja 5) (eC (.int 0))) (ji JB (jc (ja 0) jj))))
 (ze (jM (ji f_evened_apart (jc (jq 0) (jc (jq 1) (jc (jq 2) (jc (jk jO (ja 5) (eC (.int 2))) jj))))))) qw)
 (ze (jk jO (ja 5) (eC (.int 1)))))))))
def zp:Nat->List D->Option D
 | 0=>fun _=>none
 | k+1=>zk 3 6 (ja3 (zO 4 8 (qx (zp k))))
def f_evened:List D->Option D:=zp 17
def Zj:FS:=(zi (JV (jY (ja 0)) (jz 0) ‹"l"› (jk jO (ja 0) (eC (.int 2))) 1 []))
def Zo:List D->Option (List D):=zO 1 1 Zj
def jbe:FS:=(jy (jI 1 (jM (JV (jY (ja 0)) (jz 0) ‹"l"› ‹"aj"› 1 [])))
 (jy (jI 2 (jM (JV (jY (ja 0)) (jz 0) ‹"l"› ‹"aC"› 1 [])))
 (zi (jgA (jc (jM (jk jdM (ja 1) (ja 2))) jj)))))
def jdv:List D->Option (List D):=zO 1 3 jbe
def Qr:FS:=(jy (jI 1 (jM (ji jdv (jc (jq 0) jj))))
 (zi (eLZ (jc (ja 1) (jc (jM (eSl (ja 1) (pSo (eC (.int 1))) pNo)) jj)))))
def JE:List D->Option (List D):=zO 1 2 Qr
def jck:FS:=(ze (jk zD ‹"aC"› ‹"aj"›))
def QL:List D->Option D:=zk 1 1 jck
def jg4:FS:=(jy (Zu (Zx (qV (jk dLe ‹"aj"› (jk jO (ja 1) (eC (.int 0))))) (qV (jk dLe (jk jO (ja 1) (eC (.int 1))) ‹"aC"›)))
 (ze (jk zd (jk jO (ja 0) (eC (.int 3))) (ji QL (jc (jq 1) jj)))) qw)
 (ze (eC (.int 0))))
def jfs:List D->Option D:=zk 2 2 jg4
def Zf:FS:=(jy (jI 1 (jM (ji JE (jc (jq 0) jj))))
 (zi (JV (jY (ja 0)) (jz 0) (fun _=>some true) (jM (JV (jY (ja 1)) (jz 0) (fun _=>some true) (ji jfs (jc (jq 1) (jc (jq 0) jj))) 1 [0])) 1 [1])))
def jaC:List D->Option (List D):=zO 1 2 Zf
def J8:FS:=(zi (JV (jY (jM (ji JE (jc (jq 0) jj)))) (jz 0) ‹"l"› (ji QL (jc (jq 0) jj)) 1 []))
def JY:List D->Option (List D):=zO 1 1 J8
def jhQ:FS:=(jy (jf8 (ji zR (jc (jq 0) jj)))
 (jy (Zu (qV (jk dEq (ja 0) (jM (zV jj))))
 (ze (jM (zV jj))) qw)
 (ze (ji f_evened (jc (jM (ji Zo (jc (jq 0) jj))) (jc (jM (ji jaC (jc (jq 0) jj))) (jc (jM (ji JY (jc (jq 0) jj))) jj)))))))
def jdg:List D->Option D:=zk 1 1 jhQ
def jaA:FS:=(jy (jI 2 (jk JA (ja 0) (ja 1)))
 (jy (jI 3 (jk qC (ja 0) (ja 1)))
 (jy (Jm 4 (zV (jc (jaa (jc (jq 2) (jc (jk zD (ja 1) (ja 3)) jj))) jj)))
 (jy (Zu (qV (jk dGt (ja 3) (eC (.int 0))))
 (JD 4 (jaa (jc (jk qL (ja 2) (eC (.int 1))) (jc (jq 3) jj)))) qw)
 (jbU 4)))))
def Zl:List D->Option (List D):=zO 2 5 jaA
def ja7:FS:=(jy (jdU 2 jiv)
 (jy (zW (Qy (jc (jM (ji JE (jc (jq 0) jj))) jj)) (Qh 2 (j2 (jz 3) (j2 (jz 4) Qn)))
 (zW (jY (jM (ji Zl (jc (ji Zn (jc (jq 1) (jc (jq 3) jj))) (jc (ji QL (jc (jq 4) jj)) jj))))) (Qh 2 (j2 (jz 5) (j2 (jz 6) Qn)))
 (Zr 2 (jq 5) (jk qL (jbu (ja 2) (ja 5) (eC (.int 0))) (ja 6)))))
 (zi (jcb (ja 2)))))
def QO:List D->Option (List D):=zO 2 7 ja7
def jgZ:FS:=(jy (jI 1 (ji jdg (jc (jq 0) jj)))
 (ze (jh9 (jM (JV (jY (jM (ji QO (jc (jq 0) (jc (jq 1) jj))))) (Qh 2 (j2 (jz 0) (j2 (jz 1) Qn))) (fun _=>some true) (jq 0) 2 [])) (eC (.int 0)))))
def jcC:List D->Option D:=zk 1 2 jgZ
def jiX:FS:=(jy (jI 1 (jM (ji J6 (jc (jq 0) (jc (eC (.int 3)) jj)))))
 (jy (jI 2 (jM (ji JZ (jc (jq 1) jj))))
 (jy (jI 3 (jM (ji ZU (jc (jq 1) (jc (jM (jk jdM (jM (eSl (ja 0) (pSo (eC (.int 12))) (pSo (eC (.int 63))))) (jM (zV (jc (eC (.int 0)) jj))))) jj)))))
 (jy (jI 4 (jM (ji QD (jc (jq 2) (jc (jq 3) jj)))))
 (jy (jI 5 (ji jcC (jc (jM (ji jd7 (jc (ja 1) jj))) jj)))
 (jy (jI 6 (eC (.int 0)))
 (jy (jI 7 (eC (.int 0)))
 (jy (zW ‹"3"› (jz 8)
 (jy (jI 9 (jk zD (jk jO (jk jO (ja 2) (ja 8)) (eC (.int 1))) (jk jO (jk jO (ja 2) (ja 8)) (eC (.int 0)))))
 (jy (jI 6 (ji jd1 (jc (ja 6) (jc (jk JA (jk zD (jk qL (jk jO (ja 4) (ja 8)) (ja 9)) (eC (.int 1))) (ja 9)) jj))))
 (jI 7 (jk qL (ja 7) (ja 9))))))
 (ze (jdS (jk dGe (ja 6) (ja 5)) (jk dGe (jk zd (ja 5) (ja 7)) (ji JB (jc (jM (JV (jY (ja 1)) (jz 0) (fun _=>some true) (jk jO (ja 0) (eC (.int 2))) 1 [])) jj)))))))))))))
def joo:List D->Option D:=zk 1 10 jiX
def cell (ns:List Int) (k:Int):Int:=ns.getD k.toNat 0
theorem jaz {l:List D}:qS [.lst l]=some (.int (l.length:Int)):=rfl
theorem jpJ {l:List Int}:qS [.scr l]=some (.int (l.length:Int)):=rfl
theorem jhG (ns:List Int) (k:Int) (h:0<=k):qT [.scr ns,.int k]=some (.int (cell ns k)):=by
 unfold qT Qa;simp (disch:=omega) only [zk,YA,ya,KL,Nat.reduceAdd,jex,jy,Zu,qV,jk,ja,qI,List.map_cons,yS,K4,KH,kd,ku,Yp,Yk,ji,jc,jj,Yl,Yf,jpJ,Zd,ze,qw,eC,yq];by_cases hk:k<ns.length
 . have e:jO (.scr ns) (.int k)=some (.int (cell ns k)):=by
    show (atI ns k).map D.int=_;unfold atI ixN;rw [if_pos h,if_pos hk];have hi:k.toNat<ns.length:=by omega
    simp [cell,hi,Yc]
   simp only [hk,kM,e]
 . have e:cell ns k=0:=by unfold cell;rw [Yc,Yz (by omega)];rfl
   simp only [hk,K1,e]
def jm (s:Ship):D:=.tup [.int s.b,.int s.e,.int s.n,.int s.m]
theorem jd3 {ns:List Int} {i:Int} (h0:0<=i) (h1:i<ns.length):∃m,m∈ns/\jO (.lst (ns.map D.int)) (.int i)=some (.int m):=by obtain ⟨d,hd,e⟩:=jrI (ds:=ns.map D.int) h0 (by rw [Yd];exact h1);obtain ⟨m,hm,rfl⟩:=Y3.mp hd;exact ⟨m,hm,e⟩
theorem jqa {f x:Int} (h0:0<=f) (h1:0<=x) (h2:x<=16):0<=f*x/16/\f*x/16<=f:=by have a:0<=f*x:=yT h0 h1;have b:f*x<=f*16:=yP h2 h0;omega
section
variable {β:Type} {ρ:L2.Env}
theorem jA {f:List D->Option β} {fa:L2.Env->Option (List D)} {ds:List D} {x:β} (ha:fa ρ=some ds) (h:f ds=some x):ji f fa ρ=some x:=by unfold ji;rw [ha];exact h
theorem jw {g:D->D->Option β} {fa fb:L2.Env->Option D} {x y:D} {z:β} (h1:fa ρ=some x) (h2:fb ρ=some y) (h3:g x y=some z):jk g fa fb ρ=some z:=by unfold jk;rw [h1,h2];exact h3
theorem j4 {fe:L2.Env->Option D} {i:Nat} {d:D} (h:fe ρ=some d):jI i fe ρ=.next (ρ.set i (.sh d)):=by unfold jI;rw [h]
theorem qu {fo:L2.Env->Option (List D)} {l:List D} (h:fo ρ=some l):jM fo ρ=some (.lst l):=by unfold jM;rw [h];rfl
theorem js {fa:L2.Env->Option D} {fs:L2.Env->Option (List D)} {d:D} {ds:List D} (h1:fa ρ=some d) (h2:fs ρ=some ds):jc fa fs ρ=some (d::ds):=by unfold jc;rw [h1,h2];rfl
theorem qh {fa:L2.Env->Option D} {b:Bool} (h:fa ρ=some (.bl b)):qV fa ρ=some b:=by unfold qV;rw [h]
theorem JS {fc:L2.Env->Option Bool} {F:FS} (h:fc ρ=some false):Zu fc F qw ρ=.next ρ:=by unfold Zu;rw [h];rfl
theorem jag {fc:L2.Env->Option Bool} {F F':FS} (h:fc ρ=some true):Zu fc F F' ρ=F ρ:=by unfold Zu;rw [h]
theorem jso {ga gb:L2.Env->Option Bool} {b:Bool} (h:ga ρ=some false) (h2:gb ρ=some b):bOr ga gb ρ=some b:=by unfold bOr;rw [h];exact h2
theorem jgs {ga:L2.Env->Option Bool} {b:Bool} (h:ga ρ=some b):jdH ga ρ=some (!b):=by unfold jdH;rw [h];rfl
theorem Zv {fe:L2.Env->Option D} {d:D} (h:fe ρ=some d):ze fe ρ=.ret d:=by unfold ze;rw [h]
theorem jeZ {fa fb:L2.Env->Option D} {d:D} (h:fa ρ=some (.bl true)) (h2:fb ρ=some d):jdS fa fb ρ=some d:=by unfold jdS;rw [qh h];exact h2
theorem jsm {i j:Int} (h:i=j):dEq (.int i) (.int j)=some (.bl true):=by rw [joV,YO h]
theorem jtk {i j:Int} (h:i=j):dNe (.int i) (.int j)=some (.bl false):=by rw [jsZ,YO h];rfl
theorem Zs {C:Res->Prop} {F:FS} {r:Res} (h:F ρ=r) (k:C r):C (F ρ):=by rw [h];exact k
theorem qJ {F F':FS} {ρ':L2.Env} (h:F ρ=.next ρ'):jy F F' ρ=F' ρ':=by unfold jy;rw [h]
theorem jd0 {ga gb:L2.Env->Option Bool} {b c:Bool} (h:ga ρ=some b) (h2:gb ρ=some c):Zx ga gb ρ=some (b && c):=by unfold Zx;rw [h];cases b <;> simp [h2]
theorem jkw {fc:L2.Env->Option Bool} {F F':FS} {b:Bool} (h:fc ρ=some b):Zu fc F F' ρ=if b=true then F ρ else F' ρ:=by unfold Zu;rw [h];cases b <;> rfl
theorem jh8 {i j:Int} (h:¬i=j):dEq (.int i) (.int j)=some (.bl false):=by rw [joV,YV h]
theorem jky {fs:L2.Env->Option (List D)} {l:List D} (h:fs ρ=some l) (h2:l.length<16777216):zV fs ρ=some l:=by unfold zV;rw [h];show (if zI l.length=true then _ else _)=_;rw [if_pos (jV h2)]
theorem jro {fs:L2.Env->Option (List D)} {l:List D} (h:fs ρ=some l) (h2:l.length<16777216):jaa fs ρ=some (.tup l):=by unfold jaa;rw [h];show (if zI l.length=true then _ else _)=_;rw [if_pos (jV h2)]
end
theorem jl6 {ρ:L2.Env} {i:Nat} {fa:L2.Env->Option D} {ds:List D} {d:D} (h:ρ[i]?=some (.ow ds)) (hf:fa ρ=some d) (hs:ds.length<16777216):JD i fa ρ=.next (ρ.set i (.ow (ds++[d]))):=by unfold JD;rw [h,hf];show (if zI ds.length=true then _ else _)=_;rw [if_pos (jV hs)]
theorem jaM {a n:Nat} {m:FS} {ds:List D} {ρ:L2.Env} {d:D} (h1:ds.length=a) (h2:qI n ds=ρ) (h:∀C:Res->Prop,C (.ret d)->C (m ρ)):zk a n m ds=some d:=by unfold zk;rw [if_pos h1,h2];exact h (fun r=>jex r=some d) rfl
theorem jK {C:Res->Prop} {F F':FS} {ρ:L2.Env} (ρ':L2.Env) (h:F ρ=.next ρ') (k:C (F' ρ')):C (jy F F' ρ):=by unfold jy;rw [h];exact k
structure Ok0 (s:Ship):Prop where
 ok:s.Ok
 long:s.e-s.b<=214748362800001
 lo:-100000000000000<=s.b
 hi:s.b<=114748364600000
theorem zF (x:Int) {k:Int} (h:0<k):0<=x%k/\x%k<k:=⟨yD _ (Int.ne_of_gt h),yf _ h⟩
theorem jns (one two kind:Int):∃s:Ship,Ok0 s/\Ja [.int one,.int two,.int kind]=some (jm s):=by
 have key:∃b e:Int,b<e/\e-b<=214748362800001 /\ -100000000000000<=b/\b<=114748364600000/\∀R:FS,
  (jy (jI 3 (jk zD (jk qC (ja 0) (eC (.int 6))) (eC (.int 2)))) (jy ‹"aT"› (jy (Zu (qV (jk dEq (ja 2) (eC (.int 1))))
  (jy (jI 3 (jk zD (jk qC (ja 0) (eC (.int 50))) (eC (.int 25))))
  (jI 4 (jk qL (jk qL (ja 3) (eC (.int 1))) (jk qC (jk JA (ja 0) (eC (.int 50))) (eC (.int 40)))))) qw)
  (jy (Zu (qV (jk dEq (ja 2) (eC (.int 2))))
  (jy ‹"T"›
  (jI 4 (jk qL (jk qL (ja 3) (eC (.int 1))) (jk zd (jk qC (jk zd (ja 0) (eC (.int 1664525013))) (eC (.int 2147483629))) (jk jba (eC (.int 10)) (eC (.int 5))))))) qw) R))))
    [.sh (.int one),.sh (.int two),.sh (.int kind),.un,.un,.un,.un,.un,.un]=R [.sh (.int one),.sh (.int two),.sh (.int kind),.sh (.int b),.sh (.int e),.un,.un,.un,.un]:=by
  have b50:=zF one (show (0:Int)<50 by decide);have b40:=zF (one/50) (show (0:Int)<40 by decide);have b6:=zF one (show (0:Int)<6 by decide);have b5:=zF (one/6) (show (0:Int)<5 by decide);have bx:=zF (one*1103515245) (show (0:Int)<2147483647 by decide);have by':=zF (one*1664525013) (show (0:Int)<2147483629 by decide)
  by_cases h1:kind=1
  . clear b6 b5 bx by'
    refine ⟨one%50-25,one%50-25+1+one/50%40,?_,?_,?_,?_,fun R=>
      (qJ (j4 (jw ‹"0"› rfl qN))).trans ((qJ ‹"bk"›).trans
      ((qJ ((jag (qh (jw rfl rfl (jsm h1)))).trans ((qJ (j4 (jw ‹"0"› rfl qN))).trans ‹"bk"›))).trans
      (qJ (JS (qh (jw rfl rfl (jh8 (by omega))))))))⟩
    all_goals (generalize one%50=u at *;generalize one/50%40=v at *;omega)
  . by_cases h2:kind=2
    . clear b6 b5 b50 b40;refine ⟨(one*1103515245%2147483647-1000000000)*100000,(one*1103515245%2147483647-1000000000)*100000+1+one*1664525013%2147483629*100000,?_,?_,?_,?_,fun R=>
       (qJ (j4 (jw ‹"0"› rfl qN))).trans ((qJ ‹"bk"›).trans
       ((qJ (JS (qh (jw rfl rfl (jh8 h1))))).trans
       (qJ ((jag (qh (jw rfl rfl (jsm h2)))).trans ((qJ (j4 (jw (jw (jw (jw rfl rfl (Zh (by decide) (by decide))) rfl (jZ (by decide))) (jw rfl rfl jrd) qN) (jw rfl rfl joi) (Zh (by decide) (by decide))))).trans (j4 (jw (jw rfl rfl j1) (jw (jw (jw rfl rfl (Zh (by decide) (by decide))) rfl (jZ (by decide))) (jw rfl rfl joi) (Zh (by decide) (by decide))) j1)))))))⟩
      all_goals (generalize one*1103515245%2147483647=u at *;generalize one*1664525013%2147483629=v at *;omega)
    . clear bx by' b50 b40
      refine ⟨one%6-2,one%6-2+1+one/6%5,?_,?_,?_,?_,fun R=>
       (qJ (j4 (jw ‹"0"› rfl qN))).trans ((qJ ‹"bk"›).trans
       ((qJ (JS (qh (jw rfl rfl (jh8 h1))))).trans (qJ (JS (qh (jw rfl rfl (jh8 h2)))))))⟩
      all_goals (generalize one%6=u at *;generalize one/6%5=v at *;omega)
 obtain ⟨b,e,h1,h2,h3,h4,hk⟩:=key;obtain ⟨m,hm,em⟩:=jd3 (ns:=[2,1,3,5,1000000000000000,1+two/8%50,0,4]) (i:=two%8) (zF two (show (0:Int)<8 by decide)).1 (zF two (show (0:Int)<8 by decide)).2;have m01:0<=m/\m<=1000000000000000:=by
  have:=zF (two/8) (show (0:Int)<50 by decide);simp only [Yn,YD,Kv] at hm;generalize two/8%50=u at *
  clear hk h1 h2 h3 h4 em;rcases hm with rfl | rfl | rfl | rfl | rfl | rfl | rfl | rfl
  . exact ⟨by decide,by decide⟩
  . exact ⟨by decide,by decide⟩
  . exact ⟨by decide,by decide⟩
  . exact ⟨by decide,by decide⟩
  . exact ⟨by decide,by decide⟩
  . omega
  . exact ⟨by decide,by decide⟩
  . exact ⟨by decide,by decide⟩
 clear hm;obtain ⟨m0,m1⟩:=m01;have full0:0<=m*(e-b):=yT m0 (by omega);obtain ⟨x,hx,hx0⟩:∃x,two*1103515245%2147483647=x/\0<=x:=⟨_,rfl,(zF _ (by decide)).1⟩;obtain ⟨f,hf⟩:∃f,m*(e-b)=f:=⟨_,rfl⟩;rw [hf] at full0;obtain ⟨n,hn,en⟩:=jd3 (ns:=[f*(x%17)/16,x%(f+1),if x%9<f then x%9 else f,f]) (i:=x/17%4) (zF (x/17) (show (0:Int)<4 by decide)).1 (zF (x/17) (show (0:Int)<4 by decide)).2;have n01:0<=n/\n<=f:=by
  have a1:=jqa full0 (x:=x%17) (zF x (by decide)).1 (Int.le_of_lt_add_one (zF x (show (0:Int)<17 by decide)).2);have a2:0<=x%(f+1):=yD _ (by omega);have a3:x%(f+1)<f+1:=yf _ (by omega);simp only [Yn,YD,Kv] at hn;rcases hn with rfl | rfl | rfl | rfl
  . exact a1
  . omega
  . split <;> omega
  . omega
 clear hn;refine ⟨⟨b,e,n,m⟩,⟨⟨h1,by show e-b<=_;omega,by show _<=b;omega,by show b<=_;omega,m0,m1,n01.1,by show n<=m*(e-b);rw [hf];exact n01.2⟩,h2,h3,h4⟩,?_⟩;unfold Ja;refine jaM (ρ:=[.sh (.int one),.sh (.int two),.sh (.int kind),.un,.un,.un,.un,.un,.un]) rfl rfl fun C fin=>?_;unfold ZM;rw [hk];refine jK [.sh (.int one),.sh (.int two),.sh (.int kind),.sh (.int b),.sh (.int e),.sh (.int m),.un,.un,.un] (j4 (jw (qu (jky (js rfl (js rfl (js rfl (js rfl (js (jw rfl rfl jpz) (js (jw rfl ‹"j"› j1) (js rfl (js rfl rfl)))))))) (show 8<16777216 by decide))) ‹"0"› em)) ?_;refine jK [.sh (.int one),.sh (.int two),.sh (.int kind),.sh (.int b),.sh (.int e),.sh (.int m),.sh (.int x),.un,.un] (hx ▸ j4 (jw (jw rfl rfl (Zh (by decide) (by decide))) rfl (jZ (by decide)))) ?_;refine jK [.sh (.int one),.sh (.int two),.sh (.int kind),.sh (.int b),.sh (.int e),.sh (.int m),.sh (.int x),.sh (.int f),.un] (hf ▸ j4 (jw rfl (jw rfl rfl qN) (jaE (by omega) (by omega)))) ?_;refine jK [.sh (.int one),.sh (.int two),.sh (.int kind),.sh (.int b),.sh (.int e),.sh (.int m),.sh (.int x),.sh (.int f),.sh (.int n)] (j4 (jw (qu (jky (js (jw (jw rfl ‹"0"› (Zh (Int.lt_of_lt_of_le (by decide) (zF x (show (0:Int)<17 by decide)).1) (kH (zF x (show (0:Int)<17 by decide)).2 (by decide)))) rfl (zc (by decide) (by decide))) (js (jw rfl (jw rfl rfl j1) (jZ (by omega))) (js (jA (js rfl (js ‹"0"› rfl)) rfl) (js rfl rfl)))) (show 4<16777216 by decide))) ‹"j"› en)) ?_;exact Zs (Zv (jro (l:=[.int b,.int e,.int n,.int m]) (js rfl (js rfl (js rfl (js rfl rfl)))) (show 4<16777216 by decide))) fin
theorem joX (one two kind:Int):∃s:Ship,s.Ok/\Ja [.int one,.int two,.int kind]=some (jm s):=let ⟨s,h,e⟩:=jns one two kind;⟨s,h.ok,e⟩
theorem jiq {m:D->L2.Env->Option L2.Env} {B:FS} (P:List D->L2.Env->Prop) (hs:∀d ds ρ,P (d::ds) ρ->∃ρ1 ρ2,m d ρ=some ρ1/\B ρ1=.next ρ2/\P ds ρ2):∀(ds:List D) (ρ:L2.Env),P ds ρ->∃ρ',JG m B ds ρ=.next ρ'/\P [] ρ'
 | [],ρ,h=>⟨ρ,rfl,h⟩
 | d::ds,ρ,h=>by obtain ⟨ρ1,ρ2,h1,h2,h3⟩:=hs d ds ρ h;obtain ⟨ρ',h4,h5⟩:=jiq P hs ds ρ2 h3;exact ⟨ρ',by simp only [JG,h1,h2];exact h4,h5⟩
theorem jfU {C:Res->Prop} {F F':FS} {ρ:L2.Env} {d:D} (h:F ρ=.ret d) (k:C (.ret d)):C (jy F F' ρ):=by unfold jy;rw [h];exact k
theorem jcE {C:Res->Prop} {fi:L2.Env->Option (List D)} {m:D->L2.Env->Option L2.Env} {B F':FS} {ρ:L2.Env} (ds:List D) (P:List D->L2.Env->Prop) (hi:fi ρ=some ds) (h0:P ds ρ)
 (hs:∀d ds ρ,P (d::ds) ρ->∃ρ1 ρ2,m d ρ=some ρ1/\B ρ1=.next ρ2/\P ds ρ2) (k:∀ρ',P [] ρ'->C (F' ρ')):C (jy (zW fi m B) F' ρ):=by
 obtain ⟨ρ',h1,h2⟩:=jiq P hs ds ρ h0;exact jK ρ' (by unfold zW;rw [hi];exact h1) (k ρ' h2)
theorem zM (lo:Int) (n:Nat):rng lo (n+1)=.int lo::rng (lo+1) n:=by unfold rng;rw [KU,List.map_cons,YG];simp only [Int.natCast_zero,kJ,List.cons.injEq,true_and];refine yY fun i _=>?_;simp only [Function.comp,Nat.succ_eq_add_one,Int.natCast_add,Int.natCast_one,D.int.injEq];omega
theorem Qu {fa:L2.Env->Option (List D)} {ρ:L2.Env} {j:Int} (h:fa ρ=some [.int j]) (h0:0<=j) (h1:j<4611686018427387904):Qz fa ρ=some (rng 0 j.toNat):=by unfold Qz;rw [h];simp only;rw [if_pos ⟨by omega,by omega⟩]
theorem jlW {Pr:Ship->Prop} (hP:∀one two kind:Int,∃s:Ship,Pr s/\Ja [.int one,.int two,.int kind]=some (jm s)) (ns:List Int) (st:Int) (h0:0<=st):∃fl:List Ship,(∀s∈fl,Pr s)/\fl.length<=4/\J6 [.scr ns,.int st]=some (fl.map jm):=by
 suffices main:∀C:Res->Prop,(∀fl:List Ship,(∀s∈fl,Pr s)->fl.length<=4->C (.retO (fl.map jm)))->C (JW [.sh (.scr ns),.sh (.int st),.un,.un,.un,.un]) by exact main (fun r=>∃fl:List Ship,(∀s∈fl,Pr s)/\fl.length<=4/\jbn r=some (fl.map jm)) fun fl h1 h2=>⟨fl,h1,h2,rfl⟩
 intro C fin;unfold JW;have ec:=jhG ns st h0;generalize cell ns st=c at ec;refine jK [.sh (.scr ns),.sh (.int st),.sh (.int c),.un,.un,.un] (j4 (jA rfl ec)) ?_;refine jK [.sh (.scr ns),.sh (.int st),.sh (.int c),.ow [],.un,.un] rfl ?_;obtain ⟨n,hn,en⟩:=jd3 (ns:=[3,4,2,4,1,3,0,4]) (i:=c%8) (by omega) (by show c%8<8;omega);have n01:0<=n/\n<=4:=by simp only [Yn,YD,Kv] at hn;omega
 clear hn;refine jcE (rng 0 n.toNat) (fun ds ρ=>∃(fl:List Ship) (k:Nat) (lo:Int) (x y:Slot),ds=rng lo k/\0<=lo/\fl.length+k<=4/\(∀s∈fl,Pr s)/\ρ=‹"am"›)
  (Qu (js (jw (qu (jky (l:=[3,4,2,4,1,3,0,4].map D.int) rfl (show 8<16777216 by decide))) ‹"0"› en) rfl) n01.1 (by omega)) ⟨[],n.toNat,0,.un,.un,rfl,by omega,by simp;omega,by simp,rfl⟩ ?_ ?_
 . rintro d ds ρ ⟨fl,k,lo,x,y,hd,hlo,hl,hok,rfl⟩;cases k with
   | zero=>cases hd
   | succ k=>
     rw [zM] at hd;cases hd;obtain ⟨s,hs,es⟩:=hP (cell ns (st+1+2*lo)) (cell ns (st+2+2*lo)) (c/8%3);refine ⟨_,[.sh (.scr ns),.sh (.int st),.sh (.int c),.ow ((fl++[s]).map jm),.sh (.int lo),.sh (.int (cell ns (st+1+2*lo)))],rfl,?_,⟨fl++[s],k,lo+1,_,_,rfl,by omega,by simp;omega,fun s' h'=>?_,rfl⟩⟩
     . rw [Y0];exact (qJ (j4 (jA (js rfl (js (jw (jw rfl rfl j1) (jw rfl rfl (jaE (by decide) (by decide))) j1) rfl)) (jhG ns (st+1+2*lo) (by omega))))).trans (jl6 (ds:=fl.map jm) rfl (jA (js rfl (js (jA (js rfl (js (jw (jw rfl rfl j1) (jw rfl rfl (jaE (by decide) (by decide))) j1) rfl)) (jhG ns (st+2+2*lo) (by omega))) (js ‹"j"› rfl))) es) (by rw [Yd];omega))
     . rcases YZ.mp h' with h' | h'
       . exact hok s' h'
       . rw [Yu.mp h'];exact hs
 . rintro ρ ⟨fl,k,lo,x,y,hd,hlo,hl,hok,rfl⟩;have hk:k=0:=by
    cases k with
    | zero=>rfl
    | succ k=>rw [zM] at hd;cases hd
   subst hk;have el:qS [.lst (fl.map jm)]=some (.int (fl.length:Int)):=by show some (D.int ((fl.map jm).length:Int))=_;rw [Yd]
   have hif:∀(ρ:L2.Env) (F:FS),ρ=‹"am"›->Zu ‹"7"› F qw ρ=if (decide (1<(fl.length:Int)) && decide (c/24%4=1))=true then F ρ else qw ρ:=fun ρ F hρ=>by subst hρ;exact jkw (jd0 (qh (jw (jA rfl el) rfl jfm)) (qh (jw ‹"j"› rfl joV)))
   by_cases hb:1<(fl.length:Int)/\c/24%4=1
   . cases fl with
     | nil=>simp at hb
     | cons s fl=>
       rw [YA] at hb;refine jK [.sh (.scr ns),.sh (.int st),.sh (.int c),.ow (((s::fl).set fl.length s).map jm),x,y] ?_ ?_
       . have e0:jO (.lst (jm s::fl.map jm)) (.int 0)=some (jm s):=jan (by decide) rfl;have e1:ixN (fl.length+1) (-1)=some fl.length:=by unfold ixN;rw [if_neg (by decide),if_pos (by omega)];congr 1;omega
         rw [hif _ _ rfl,if_pos (by rw [YO (by rw [YA];exact hb.1),YO hb.2];rfl)];simp (disch:=omega) only [jk,ja,List.map_cons,Yp,Yk,Yf,YA,eC,jeX,jlK,Int.reduceNeg,YH,YJ];simp only [YA,Yd,e0,e1,List.map_set,List.map_cons]
       . refine fin ((s::fl).set fl.length s) (fun s' h'=>?_) (by simpa using hl);rcases List.mem_or_eq_of_mem_set h' with h' | h'
         . exact hok s' h'
         . rw [h'];exact hok s Ye
   . refine jK ‹"am"› ?_ (fin fl hok (by omega));rw [hif _ _ rfl,if_neg (fun q=>hb ⟨yI (Bool.and_eq_true_iff.mp q).1,yI (Bool.and_eq_true_iff.mp q).2⟩)];rfl
theorem jnD (ns:List Int) (st:Int) (h0:0<=st):∃fl:List Ship,(∀s∈fl,s.Ok)/\fl.length<=4/\J6 [.scr ns,.int st]=some (fl.map jm):=jlW joX ns st h0
theorem jg7 {m:D->L2.Env->Option L2.Env} {ft:L2.Env->Option Bool} {fe:L2.Env->Option D} {ρ:L2.Env} (g:D->D):∀(ds:List D),(∀d∈ds,∃ρ1,m d ρ=some ρ1/\ft ρ1=some true/\fe ρ1=some (g d))->Zw m ft fe ρ ds=some (ds.map g)
 | [],_=>rfl
 | d::ds,h=>by obtain ⟨ρ1,h1,h2,h3⟩:=h d Ye;simp only [Zw,h1,h2,h3,Yf,yq,jg7 g ds fun x hx=>h x (Yg _ hx),Yl,List.map_cons]
theorem jev {m:D->L2.Env->Option L2.Env} {ft:L2.Env->Option Bool} {fe:L2.Env->Option D} {ρ:L2.Env} (p:D->Bool) (g:D->D):∀(ds:List D),(∀d∈ds,∃ρ1,m d ρ=some ρ1/\ft ρ1=some (p d)/\(p d=true->fe ρ1=some (g d)))->Zw m ft fe ρ ds=some ((ds.filter p).map g)
 | [],_=>rfl
 | d::ds,h=>by
   obtain ⟨ρ1,h1,h2,h3⟩:=h d Ye;have ih:=jev p g ds fun x hx=>h x (Yg _ hx);cases hp:p d with
   | true=>simp only [Zw,h1,h2,hp,h3 hp,Yf,yq,ih,Yl,yv,List.map_cons]
   | false=>simp only [Zw,h1,h2,hp,Yf,YY,yu,ih,yv]
theorem qv {fi:L2.Env->Option (List D)} {m:D->L2.Env->Option L2.Env} {ft:L2.Env->Option Bool} {fe:L2.Env->Option D} {n:Nat} {ix:List Nat} {ρ:L2.Env} {ds es:List D} (h1:fi ρ=some ds) (h2:ds.length<16777216) (h3:Zw m ft fe (Ji n ix ρ) ds=some es):JV fi m ft fe n ix ρ=some es:=by unfold JV;rw [h1,Yf,if_pos (jV h2),h3]
theorem jix (bs:List Bool):jjc [.lst (bs.map D.bl)]=some (.bl (bs.all id)):=by show ((jdF (bs.map D.bl)).map fun ns=>D.bl (ns.all id))=_;rw [ZT];rfl
theorem jcc (bs:List Int):JB [.lst (bs.map D.int)]=some (.int bs.sum):=by show ((Ql (bs.map D.int)).map fun ns=>D.int ns.sum)=_;rw [Js];rfl
theorem jk7 {fe:L2.Env->Option D} {ρ:L2.Env} {l:List D} (h:fe ρ=some (.tup l)):jbW fe ρ=some l:=by unfold jbW;rw [h]
theorem qk {fe:L2.Env->Option D} {ρ:L2.Env} {l:List D} (h:fe ρ=some (.lst l)):jY fe ρ=some l:=by unfold jY;rw [h]
def plain:Nat->D->Prop
 | n+1,.lst l=>∀d∈l,plain n d
 | n+1,.tup l=>∀d∈l,plain n d
 | _,.lst _=>False
 | _,.tup _=>False
 | _,.scr _=>False
 | _,.dic _ _=>False
 | _,_=>True
theorem jio {l:List D}:dEq (.lst l) (.lst [])=some (.bl l.isEmpty):=by show (eqF 40 (.lst l) (.lst [])).map D.bl=_;cases l <;> rfl
theorem jeW {α:Type} {f:α->D} {l:List α} {k:Int} {a:α} (h0:0<=k) (h:l[k.toNat]?=some a):jO (.lst (l.map f)) (.int k)=some (f a):=jan h0 (by rw [List.getElem?_map,h];rfl)
def jD (p:Int×Int):D:=.tup [.int p.1,.int p.2]
theorem jiG (k:Int):∀l:List Int,(ins k l).length<=l.length+1
 | []=>by simp [ins]
 | x::l=>by
   have:=jiG k l;unfold ins;split
   . simp
   . split
     . simp
     . simp;omega
theorem jic:∀l:List Int,(srt l).length<=l.length
 | []=>by simp [srt]
 | x::l=>by have h1:=jic l;have h2:=jiG x (srt l);show (ins x (srt l)).length<=l.length+1;omega
theorem ZV (fl:List Ship):(Jr fl).length<=2*fl.length:=by have:=jic (hrs fl);unfold Jr;simp [hrs] at this ⊢;omega
theorem QK {fl:List Ship} (k:Int) (g:Ship->Int) (hg:∀s,jO (jm s) (.int k)=some (.int (g s))) (ρ:L2.Env) (i:Nat) (hi:ja i ρ=some ‹"h"›) (hl:fl.length<1000) :
 JV (jY (ja i)) (jz 0) ‹"l"› (jk jO (ja 0) (eC (.int k))) 1 [] ρ=some ((fl.map g).map D.int):=by
 refine qv (qk hi) (by rw [Yd];omega) ?_;rw [jg7 (fun d=>match jO d (.int k) with | some x=>x | none=>.non) _ fun d hd=>?_]
 . rw [YG,YG];congr 1;refine yY fun s _=>?_;show (match jO (jm s) (.int k) with | some x=>x | none=>D.non)=_;rw [hg s];rfl
 . obtain ⟨s,_,rfl⟩:=Y3.mp hd;refine ⟨[.sh (jm s)],rfl,rfl,?_⟩;show jO (jm s) (.int k)=_;rw [hg s]
theorem jfA (fl:List Ship) (hl:fl.length<20):jdv [.lst (fl.map jm)]=some ((Jr fl).map D.int):=by
 suffices main:∀C:Res->Prop,C (.retO ((Jr fl).map D.int))->C (jbe [.sh ‹"h"›,.un,.un]) by exact main (fun r=>jbn r=some ((Jr fl).map D.int)) rfl
 intro C fin;unfold jbe;refine jK [.sh ‹"h"›,.sh (.lst ((fl.map (·.b)).map D.int)),.un] (by unfold jI jM;rw [QK 0 (·.b) (fun s=>QF) _ 0 rfl (by omega)];rfl) ?_
 refine jK [.sh ‹"h"›,.sh (.lst ((fl.map (·.b)).map D.int)),.sh (.lst ((fl.map (·.e)).map D.int))] (by unfold jI jM;rw [QK 1 (·.e) (fun s=>Qg) _ 0 rfl (by omega)];rfl) ?_
 have last:∀r,r=Res.retO ((Jr fl).map D.int)->C r:=fun r h=>by rw [h];exact fin
 refine last _ ?_;have hcat:jdM (.lst ((fl.map (·.b)).map D.int)) (.lst ((fl.map (·.e)).map D.int))=some ((hrs fl).map D.int):=by show (if _ then some _ else none)=_;rw [if_pos (by simp only [Yd];show fl.length+fl.length<=2 ^ 24;omega),<- Y0];rfl
 unfold zi jgA;simp (disch:=omega) only [jc,jM,jk,ja,Yp,Yk,Yf,jj,Yl];rw [hcat];simp (disch:=omega) only [Yl,Yf];rw [Js,Yf,if_pos (by simp [hrs];omega)];rfl
theorem jkq {l:List D}:L2.jcO l (some 1) none=l.tail:=by
 unfold L2.jcO;rw [HT.sIx_none,show (1:Int)=((1:Nat):Int) from rfl,HT.sIx_nat];cases l with
 | nil=>rfl
 | cons d l=>simp
theorem Qf (fl:List Ship) (hl:fl.length<20):JE [.lst (fl.map jm)]=some ((jt fl).map jD):=by
 suffices main:∀C:Res->Prop,C (.retO ((jt fl).map jD))->C (Qr [.sh ‹"h"›,.un]) by exact main (fun r=>jbn r=some ((jt fl).map jD)) rfl
 intro C fin;unfold Qr;refine jK [.sh ‹"h"›,.sh (.lst ((Jr fl).map D.int))] (by simp (disch:=omega) only [jI,jM,ji,jc,jq,Yk,jj,Yl,Yf,YH,YJ];simp only [jfA fl hl];simp (disch:=omega) only [Yl]) ?_;have last:∀r,r=Res.retO ((jt fl).map jD)->C r:=fun r h=>by rw [h];exact fin
 refine last _ ?_;have hb:=ZV fl;unfold zi eLZ;simp (disch:=omega) only [jc,ja,Yp,Yk,jM,eSl,pSo,eC,pNo,Yl,jj,Yf];rw [jkq];simp only [Yd];rw [jV (by omega)];unfold jal jt;rw [<-List.map_tail,List.zip_map,YG];rfl
theorem jed (fl:List Ship):(Jr fl).Pairwise (· < ·):=Zk
theorem mem_bnds {fl:List Ship} {k:Int}:k∈Jr fl ↔ k∈hrs fl:=jcg
theorem jcU:∀{l:List Int},l.Pairwise (· < ·)->∀p∈l.zip l.tail,p.1<p.2/\p.1∈l/\p.2∈l
 | [],_,p,hp=>by simp at hp
 | [x],_,p,hp=>by simp at hp
 | x::y::l,h,p,hp=>by
   have h':=Yx.mp h;simp only [List.tail_cons,yC,Yn] at hp;rcases hp with rfl | hp
   . exact ⟨h'.1 y Ye,Ye,Yg _ Ye⟩
   . obtain ⟨a,b,c⟩:=jcU h'.2 p hp;exact ⟨a,Yg _ b,Yg _ c⟩
theorem jcp {fl:List Ship} {p:Int×Int} (h:p∈jt fl):p.1<p.2/\p.1∈Jr fl/\p.2∈Jr fl:=jcU (jed fl) p h
theorem jee {x:Int} {l:List Int} (h:(x::l).Pairwise (· < ·)):∀y∈x::l,x<=y:=fun y hy=>by
 rcases Yn.mp hy with rfl | hy
 . exact yk _
 . exact Y9 ((Yx.mp h).1 y hy)
def jeo:Int->List Int->Int
 | x,[]=>x
 | _,y::l=>jeo y l
theorem jge:∀(x:Int) (l:List Int),(x::l).Pairwise (· < ·)->∀y∈x::l,y<=jeo x l
 | x,[],_,y,hy=>by simp at hy;subst hy;exact yk _
 | x,z::l,h,y,hy=>by
   have h':=Yx.mp h;have ih:=jge z l h'.2;show y<=jeo z l;rcases Yn.mp hy with rfl | hy
   . have:=h'.1 z Ye;have:=ih z Ye;omega
   . exact ih y hy
def inS (h:Int) (p:Int×Int):Bool:=decide (p.1<=h) && decide (h<p.2)
theorem jo7 (h:Int):∀(x:Int) (l:List Int),(x::l).Pairwise (· < ·)->(((x::l).zip l).filter (inS h)).length=if x<=h/\h<jeo x l then 1 else 0
 | x,[],_=>by
   show 0=if x<=h/\h<x then 1 else 0
   rw [if_neg (by omega)]
 | x,y::l,hr=>by
   have h':=Yx.mp hr;have ih:=jo7 h y l h'.2;have xy:=h'.1 y Ye;have yl:=jge y l h'.2 y Ye;show _=if x<=h/\h<jeo y l then 1 else 0
   generalize jeo y l=z at *
   rw [yC,yv];by_cases c:x<=h/\h<y
   . have e1:inS h (x,y)=true:=by simp [inS,c.1,c.2]
     have e2:¬(y<=h/\h<z):=by omega
     rw [if_neg e2] at ih;rw [if_pos e1,if_pos ⟨c.1,by omega⟩,YA,ih]
   . have e1:¬inS h (x,y)=true:=by simp [inS];omega
     rw [if_neg e1,ih];by_cases d:y<=h/\h<z
     . rw [if_pos d,if_pos ⟨by omega,d.2⟩]
     . rw [if_neg d,if_neg (by omega)]
theorem ja1 (l:List Int):(l.zip l.tail).length=l.length-1:=by simp <;> omega
def nb:List Int->List (Int×Int)
 | x::y::l=>if x<y then (x,y)::nb (y::l) else nb (y::l)
 | _=>[]
def ded:List Int->List Int
 | x::y::l=>if x<y then x::ded (y::l) else ded (y::l)
 | l=>l
theorem jgw (x:Int):∀l:List Int,(x::l).Pairwise (· <= ·)->∃r,ded (x::l)=x::r
 | [],_=>⟨[],rfl⟩
 | y::l,h=>by
   have h':=Yx.mp h;obtain ⟨r,hr⟩:=jgw y l h'.2;by_cases c:x<y
   . exact ⟨ded (y::l),by simp [ded,c]⟩
   . have e:x=y:=by have:=h'.1 y Ye;omega
     subst e;exact ⟨r,by simp [ded];exact hr⟩
theorem jly:∀l:List Int,l.Pairwise (· <= ·)->nb l=(ded l).zip (ded l).tail
 | [],_=>rfl
 | [x],_=>rfl
 | x::y::l,h=>by
   have h':=Yx.mp h;have ih:=jly (y::l) h'.2;obtain ⟨r,hr⟩:=jgw y l h'.2;by_cases c:x<y
   . simp only [nb,ded,c,yq];rw [ih,hr];rfl
   . simp only [nb,ded,c,yu];exact ih
theorem jfo:∀(l:List Int),l.Pairwise (· <= ·)->∀k,k∈ded l ↔ k∈l
 | [],_,k=>Iff.rfl
 | [x],_,k=>Iff.rfl
 | x::y::l,h,k=>by
   have h':=Yx.mp h;have ih:=jfo (y::l) h'.2 k;by_cases c:x<y
   . simp only [ded,c,yq,Yn (a:=k) (b:=x),ih]
   . have e:x=y:=by have:=h'.1 y Ye;omega
     subst e;simp only [ded,c,yu,ih];simp
theorem jfR:∀(l:List Int),l.Pairwise (· <= ·)->(ded l).Pairwise (· < ·)
 | [],_=>by simp [ded]
 | [x],_=>by simp [ded]
 | x::y::l,h=>by
   have h':=Yx.mp h;have ih:=jfR (y::l) h'.2;by_cases c:x<y
   . simp only [ded,c,yq];refine Yx.mpr ⟨fun z hz=>?_,ih⟩;have hz':=(jfo (y::l) h'.2 z).mp hz;rcases Yn.mp hz' with rfl | hz'
     . exact c
     . have:=(Yx.mp h'.2).1 z hz';omega
   . simp only [ded,c,yu];exact ih
theorem jny (l:List Int):nb (Q9 l)=(srt l).zip (srt l).tail:=by
 rw [jly _ (JC l)];have e:ded (Q9 l)=srt l:=jav (jfR _ (JC l)) Zk fun k=>by rw [jfo _ (JC l),(QU l).mem_iff,jcg]
 rw [e]
def nbI (l:List Int) (i:Nat):Bool:=decide (l.getD i 0<l.getD (i+1) 0)
theorem jgQ:∀l:List Int,((List.range (l.length-1)).filter (nbI l)).map (fun i=>(l.getD i 0,l.getD (i+1) 0))=nb l
 | []=>rfl
 | [x]=>rfl
 | x::y::l=>by
   have ih:=jgQ (y::l);simp only [YA,Nat.add_sub_cancel] at ih ⊢;rw [KU,yv,List.filter_map];have e1:(nbI (x::y::l)∘Nat.succ)=nbI (y::l):=by funext i;simp [nbI,Function.comp]
   have e2:((fun i=>((x::y::l).getD i 0,(x::y::l).getD (i+1) 0))∘Nat.succ)=fun i=>((y::l).getD i 0,(y::l).getD (i+1) 0):=by funext i;simp [Function.comp]
   by_cases c:x<y
   . have:nbI (x::y::l) 0=true:=by simp [nbI,c]
     rw [if_pos this,List.map_cons,YG,e1,e2,ih];simp [nb,c]
   . have:¬nbI (x::y::l) 0=true:=by simp [nbI,c]
     rw [if_neg this,YG,e1,e2,ih];simp [nb,c]
theorem JR {l:List Int} {i:Nat} (h:i<l.length):jO (.lst (l.map D.int)) (.int i)=some (.int (l.getD i 0)):=by refine jan (by omega) ?_;rw [Yt,List.getElem?_map,Ya h,Yc,Ya h];rfl
theorem jcD (fl:List Ship) (hl:fl.length<20):JZ [.lst (fl.map jm)]=some ((jt fl).map jD):=by
 suffices main:∀C:Res->Prop,C (.retO ((jt fl).map jD))->C (J1 [.sh ‹"h"›,.un]) by exact main (fun r=>jbn r=some ((jt fl).map jD)) rfl
 intro C fin;unfold J1;have hcat:jdM (.lst ((fl.map (·.b)).map D.int)) (.lst ((fl.map (·.e)).map D.int))=some ((hrs fl).map D.int):=by show (if _ then some _ else none)=_;rw [if_pos (by simp only [Yd];show fl.length+fl.length<=2 ^ 24;omega),<- Y0];rfl
 have hhl:(hrs fl).length<64:=by simp [hrs];omega
 have hsort:jfY [.lst ((hrs fl).map D.int)]=some ((Q9 (hrs fl)).map D.int):=by show ((Ql ((hrs fl).map D.int)).bind fun ns=>if ns.length<64 then some ((Q9 ns).map D.int) else none)=_;rw [Js,Yf,if_pos hhl]
 have q1:=QK (fl:=fl) 0 (·.b) (fun s=>QF) [.sh ‹"h"›,.un] 0 rfl (by omega);have q2:=QK (fl:=fl) 1 (·.e) (fun s=>Qg) [.sh ‹"h"›,.un] 0 rfl (by omega);refine jK [.sh ‹"h"›,.sh (.lst ((Q9 (hrs fl)).map D.int))] (by simp (disch:=omega) only [jI,jM,ji,jc,jk,jj,Yl,YH,YJ];simp only [q1,q2];simp (disch:=omega) only [Yl,Yf];simp only [hcat];simp (disch:=omega) only [Yl,Yf];simp only [hsort];simp (disch:=omega) only [Yl]) ?_
 have last:∀r,r=Res.retO ((jt fl).map jD)->C r:=fun r h=>by rw [h];exact fin
 refine last _ ?_;have hsl:(Q9 (hrs fl)).length=(hrs fl).length:=(QU _).length_eq;have hsp:jt fl=nb (Q9 (hrs fl)):=by rw [jny];rfl
 rw [hsp,<- jgQ];generalize Q9 (hrs fl)=l at *
 have hr:Qz (jc (jk zD (ji qS (jc (ja 1) jj)) (eC (.int 1))) jj) [.sh ‹"h"›,.sh (.lst (l.map D.int))]=some (rng 0 ((l.length:Int)-1).toNat):=by unfold Qz;simp (disch:=omega) only [jc,jk,ji,ja,Yp,Yk,jj,Yl,Yf,jaz,eC,qN];simp only [Yd];rw [if_pos ⟨by omega,by omega⟩]
 have hn:((l.length:Int)-1).toNat=l.length-1:=by omega
 rw [hn] at hr;unfold zi;rw [qv hr (by simp [rng];omega) (jev (fun d=>match d with | .int i=>nbI l i.toNat | _=>false) (fun d=>match d with | .int i=>jD (l.getD i.toNat 0,l.getD (i.toNat+1) 0) | _=>.non) _ fun d hd=>?_)]
 . simp only [rng,List.filter_map,YG];congr 1;have e1:((fun d=>match d with | D.int i=>nbI l i.toNat | _=>false)∘fun (i:Nat)=>D.int (0+(i:Int)))=nbI l:=by funext i;simp [Function.comp]
   rw [e1];refine yY fun i _=>?_;simp [Function.comp]
 . unfold rng at hd;obtain ⟨i,hi,rfl⟩:=Y3.mp hd;rw [KA] at hi;have z:(0:Int)+(i:Int)=i:=by omega
   rw [z];have d0:=JR (l:=l) (i:=i) (by omega);have d1:=JR (l:=l) (i:=i+1) (by omega);have ec:((i+1:Nat):Int)=(i:Int)+1:=by omega
   rw [ec] at d1;refine ⟨[.sh (.int i),.sh (.lst (l.map D.int))],rfl,?_,fun _=>?_⟩
   . show qV _ _=_;simp (disch:=omega) only [qV,jk,ja,Yp,Yk,Yf,eC,j1];simp only [d0,d1];simp (disch:=omega) only [Yf,Zd];rfl
   . simp (disch:=omega) only [jaa,jc,jk,ja,Yp,Yk,Yf,eC,j1,jj,Yl];simp only [d0,d1];simp (disch:=omega) only [Yf,Yl,YA,ya,KL,Nat.reduceAdd,jV,yq];rfl
def qQ (s:Ship) (p:Int×Int):Int:=if s.b<=p.1/\p.2<=s.e then s.m*(p.2-p.1) else 0
def jh (r:List Int):D:=.lst (r.map D.int)
theorem jd5 (s:Ship):∀(x:Int) (l:List Int),(x::l).Pairwise (· < ·)->(((x::l).zip l).map (qQ s)).sum=s.m*(((((x::l).zip l).filter fun p=>decide (s.b<=p.1/\p.2<=s.e)).map fun p=>p.2-p.1).sum)
 | x,[],_=>by simp
 | x,y::l,h=>by
   have h':=Yx.mp h;have ih:=jd5 s y l h'.2;rw [yC,List.map_cons,List.sum_cons,ih,yv];by_cases c:s.b<=x/\y<=s.e
   . rw [if_pos (by simpa using c),List.map_cons,List.sum_cons,Int.mul_add];simp [qQ,c]
   . rw [if_neg (by simpa using c)];simp [qQ,c]
theorem jgK (b e:Int):∀(x:Int) (l:List Int),(x::l).Pairwise (· < ·)->b<=x->x<=e->e∈x::l->((((x::l).zip l).filter fun p=>decide (b<=p.1/\p.2<=e)).map fun p=>p.2-p.1).sum=e-x
 | x,[],_,_,_,he=>by simp at he;subst he;simp
 | x,y::l,h,hb,hxe,he=>by
   have h':=Yx.mp h;have hxy:=h'.1 y Ye;rw [yC,yv];by_cases c:y<=e
   . have he':e∈y::l:=by
       rcases Yn.mp he with z | z
       . omega
       . exact z
     have ih:=jgK b e y l h'.2 (by omega) c he';rw [if_pos (by simp;exact ⟨hb,c⟩),List.map_cons,List.sum_cons,ih];show y-x+(e-y)=e-x;omega
   . have hx:e=x:=by
       rcases Yn.mp he with z | z
       . exact z
       . have:=jee h'.2 e z;omega
     rw [if_neg (by simp;intro _;omega)];have:(((y::l).zip l).filter fun p=>decide (b<=p.1/\p.2<=e))=[]:=List.filter_eq_nil_iff.mpr fun p hp=>by have q:=jcU h'.2 p (by simpa using hp);have:=jee h'.2 p.1 q.2.1;simp;intro _;omega
     rw [this,hx];simp
theorem ji4 (b e:Int) (hbe:b<=e):∀(l:List Int),l.Pairwise (· < ·)->b∈l->e∈l->(((l.zip l.tail).filter fun p=>decide (b<=p.1/\p.2<=e)).map fun p=>p.2-p.1).sum=e-b
 | [],_,hb,_=>by cases hb
 | x::l,h,hb,he=>by
   by_cases c:b=x
   . subst c;exact jgK b e b l h (yk _) hbe he
   . have hb':b∈l:=by rcases Yn.mp hb with z | z;exact absurd z c;exact z
     have h':=Yx.mp h;have hxb:=h'.1 b hb';have he':e∈l:=by rcases Yn.mp he with z | z;omega;exact z
     have ih:=ji4 b e hbe l h'.2 hb' he';cases l with
     | nil=>cases hb'
     | cons y l=>rw [List.tail_cons,yC,yv,if_neg (by simp;intro z;omega)];exact ih
theorem jdX {fl:List Ship} {s:Ship} (hs:s∈fl) (hk:s.Ok):((jt fl).map (qQ s)).sum=s.m*(s.e-s.b):=by
 have hb:s.b∈Jr fl:=mem_bnds.mpr (YE _ (KI hs));have he:s.e∈Jr fl:=mem_bnds.mpr (YM _ (KI hs));have hr:=jed fl;unfold jt;have e1:=ji4 s.b s.e (by have:=hk.lt;omega) (Jr fl) hr hb he;cases hl:Jr fl with
 | nil=>rw [hl] at hb;cases hb
 | cons x l=>rw [hl] at e1 hr;rw [List.tail_cons] at e1 ⊢;rw [jd5 s x l hr,e1]
theorem jhN {s:Ship} (hs:s.Ok) {l:List (Int×Int)} (hl:l.length<1000):J3 [jm s,.lst (l.map jD)]=some ((l.map (qQ s)).map D.int):=by
 suffices main:∀C:Res->Prop,C (.retO ((l.map (qQ s)).map D.int))->C (JX [.sh (jm s),.sh (.lst (l.map jD)),.un,.un,.un]) by exact main (fun r=>jbn r=some ((l.map (qQ s)).map D.int)) rfl
 intro C fin;unfold JX;have m0:=hs.m0;have m1:=hs.m1;refine jK [.sh (jm s),.sh (.lst (l.map jD)),.ow [],.un,.un] ‹"av"› ?_;refine jcE (l.map jD) (fun ds ρ=>∃(pre q:List (Int×Int)) (x y:Slot),pre++q=l/\ds=q.map jD/\ρ=[.sh (jm s),.sh (.lst (l.map jD)),.ow ((pre.map (qQ s)).map D.int),x,y]) (qk rfl) ⟨[],l,.un,.un,rfl,rfl,rfl⟩ ?_ ?_
 . rintro d ds ρ ⟨pre,q,x,y,hpq,hds,rfl⟩;cases q with
   | nil=>cases hds
   | cons p q=>
     cases hds;have hpl:pre.length<1000:=by rw [<-hpq] at hl;simp at hl;omega
     refine ⟨[.sh (jm s),.sh (.lst (l.map jD)),.ow ((pre.map (qQ s)).map D.int),.sh (.int p.1),.sh (.int p.2)],[.sh (jm s),.sh (.lst (l.map jD)),.ow (((pre++[p]).map (qQ s)).map D.int),.sh (.int p.1),.sh (.int p.2)],rfl,?_,pre++[p],q,_,_,by simpa using hpq,rfl,rfl⟩;unfold jm;simp (disch:=omega) only [Zu,Zx,qV,jk,ja,Yk,eC,Yf,QF,Yp,jhY,Qg,JD,jfl,qN,jaE,YH,YJ];simp only [Yd,Y0,List.map_cons,yS];rw [jV (by omega)];unfold qQ;by_cases c1:s.b<=p.1
     . by_cases c2:p.2<=s.e
       . simp only [c1,c2,kM,and_self,yq]
       . simp only [c1,c2,kM,K1,and_false,yu]
         try simp (disch:=omega) only [yq]
     . simp only [c1,K1,false_and,yu]
       try simp (disch:=omega) only [yq]
 . rintro ρ ⟨pre,q,x,y,hpq,hds,rfl⟩;have hq:q=[]:=by cases q with | nil=>rfl | cons _ _=>cases hds
   subst hq;rw [yM] at hpq;subst hpq;exact fin
theorem jiZ:∀(l:List Int) (i:Nat) (a v:Int),l[i]?=some a->(l.set i v).sum=l.sum-a+v
 | [],_,_,_,h=>by simp at h
 | x::l,0,a,v,h=>by simp at h;subst h;simp;omega
 | x::l,i+1,a,v,h=>by have:=jiZ l i a v (by simpa using h);simp only [YH,List.sum_cons,this];omega
structure RowOk (S:List (Int×Int)) (s:Ship) (r:List Int):Prop where
 len:r.length=S.length
 bd:∀(j:Nat) x p,r[j]?=some x->S[j]?=some p->0<=x/\x<=qQ s p
 sum:r.sum=s.n
structure PlanOk (fl:List Ship) (P:List (List Int)):Prop where
 len:P.length=fl.length
 row:∀(i:Nat) r s,P[i]?=some r->fl[i]?=some s->RowOk (jt fl) s r
theorem jfG {s:Ship} (hs:s.Ok) {p:Int×Int} (h:p.1<p.2):0<=qQ s p:=by
 unfold qQ;split
 . exact yT hs.m0 (by omega)
 . omega
theorem jeS {l:List Int} {k:Int} {x:Int} (h0:0<=k) (h:l[k.toNat]?=some x):jO (.lst (l.map D.int)) (.int k)=some (.int x):=jeW h0 h
theorem jnu (a b c:Int):jdp a b c<=a/\jdp a b c<=b/\jdp a b c<=c:=by unfold jdp;split <;> split <;> omega
theorem jnz {a b c:Int} (h1:0<=a) (h2:0<=b) (h3:0<=c):0<=jdp a b c:=by unfold jdp;split <;> split <;> omega
theorem jrx {z0 z3 e f g h w:Slot} {cells Mo R:List Int} {parts:List D} {i left m cl sm x:Int} {j:Nat} (hi:0<=i) (hi':i<1000) (hc:0<cells.length) (hj:j<1000) (hRj:R.length=j)
 (ec:jO ‹"n"› (.int ((i*parts.length+j)%cells.length))=some (.int cl)) (dm:jO ‹"z"› (.int j)=some (.int m)) (hm:0<=m)
 (es:jO (.lst [.int 0,.int m,.int (m*(cl/4%9)/8),.int (cl/4%(m+1))]) (.int (cl%4))=some (.int sm)) (dmin:jbJ [.int left,.int m,.int sm]=some (.int x))
 (dr:jO (.lst (R.map D.int++[.int x])) (.int j)=some (.int x)) :
 (jy ‹"E"›
  (jy ‹"c"›
  (jy ‹"ac"›
  (jI 6 (jk zD (ja 6) (jk jO (ja 7) (ja 8)))))))
  ‹"bc"› =
 .next [z0,.sh ‹"n"›,.sh (.lst parts),z3,.sh (.int i),.sh ‹"z"›,.sh (.int (left-x)),.ow (R.map D.int++[.int x]),.sh (.int j),.sh (.int cl),.sh (.int sm),h,w]:=by
 refine QN (ρ':=[z0,.sh ‹"n"›,.sh (.lst parts),z3,.sh (.int i),.sh ‹"z"›,.sh (.int left),.ow (R.map D.int),.sh (.int j),.sh (.int cl),g,h,w]) (by simp (disch:=omega) only [jI,jk,ja,Yp,Yk,ji,jc,jj,Yl,Yf,jaz,jaE,j1,YH,YJ];simp only [Yd];simp (disch:=omega) only [jZ,Yf];simp only [ec]) ?_;refine QN (ρ':=[z0,.sh ‹"n"›,.sh (.lst parts),z3,.sh (.int i),.sh ‹"z"›,.sh (.int left),.ow (R.map D.int),.sh (.int j),.sh (.int cl),.sh (.int sm),h,w]) (by simp (disch:=omega) only [jI,jk,jM,zV,jc,eC,ja,Yp,Yk,Yf,zc,jZ,jj,Yl,YH,YJ];simp only [dm];simp (disch:=omega) only [Yf,Zh,zc,j1,jZ,Yl,YA,ya,KL,Nat.reduceAdd,jV,yq];simp only [es]) ?_;refine QN (ρ':=[z0,.sh ‹"n"›,.sh (.lst parts),z3,.sh (.int i),.sh ‹"z"›,.sh (.int left),.ow (R.map D.int++[.int x]),.sh (.int j),.sh (.int cl),.sh (.int sm),h,w]) (by simp (disch:=omega) only [JD,Yp,Yk,ji,jc,ja,jk,Yf,jj,Yl,YH,YJ];simp only [dm];simp (disch:=omega) only [Yf,Yl];simp only [dmin,Yd];rw [jV (by omega)];rfl) ?_
 simp (disch:=omega) only [jI,jk,ja,Yp,Yk,Yf,YH,YJ];simp only [dr];simp (disch:=omega) only [Yf,qN]
theorem jr0 {z0 z3 f g h w:Slot} {cells Mo R:List Int} {parts:List D} {i left c m y x:Int} {j a:Nat} (hi:0<=i) (hc:0<cells.length) (hp:0<parts.length)
 (ec:jO ‹"n"› (.int (i%cells.length))=some (.int c)) (ha:((j:Int)+c)%parts.length=a) (dm:jO ‹"z"› (.int a)=some (.int m)) (dr:jO (.lst (R.map D.int)) (.int a)=some (.int y))
 (hx:(if m-y<left then m-y else left)=x) (hal:a<R.length) :
 (jy ‹"C"›
  (jy ‹"Q"›
  (jy ‹"aK"›
  (jI 6 (jk zD (ja 6) (ja 12))))))
  ‹"bc"› =
 .next [z0,.sh ‹"n"›,.sh (.lst parts),z3,.sh (.int i),.sh ‹"z"›,.sh (.int (left-x)),.ow ((R.set a (y+x)).map D.int),.sh (.int j),f,g,.sh (.int a),.sh (.int x)]:=by
 refine QN (ρ':=[z0,.sh ‹"n"›,.sh (.lst parts),z3,.sh (.int i),.sh ‹"z"›,.sh (.int left),.ow (R.map D.int),.sh (.int j),f,g,.sh (.int a),w]) (by simp (disch:=omega) only [jI,jk,ja,Yp,Yk,ji,jc,jj,Yl,Yf,jaz,YH,YJ];simp only [Yd];simp (disch:=omega) only [jZ,Yf];simp only [ec];simp (disch:=omega) only [Yf,j1,jZ];rw [ha]) ?_;refine QN (ρ':=[z0,.sh ‹"n"›,.sh (.lst parts),z3,.sh (.int i),.sh ‹"z"›,.sh (.int left),.ow (R.map D.int),.sh (.int j),f,g,.sh (.int a),.sh (.int x)]) (by simp (disch:=omega) only [jI,ji,jc,ja,Yp,Yk,jk,Yf,jj,Yl,YH,YJ];simp only [dm,dr];simp (disch:=omega) only [Yf,qN,Yl,jad];rw [hx]) ?_;refine QN (ρ':=[z0,.sh ‹"n"›,.sh (.lst parts),z3,.sh (.int i),.sh ‹"z"›,.sh (.int left),.ow ((R.set a (y+x)).map D.int),.sh (.int j),f,g,.sh (.int a),.sh (.int x)]) (by
  have hix:ixN R.length (a:Int)=some a:=by unfold ixN;rw [if_pos (by omega),if_pos (by omega),Yt]
  simp (disch:=omega) only [jeX,Yp,Yk,jk,ja,Yf,jq,YH,YJ];simp only [dr];simp (disch:=omega) only [Yf,j1];simp only [Yd,hix,List.map_set]) ?_
 simp (disch:=omega) only [jI,jk,ja,Yp,Yk,Yf,qN,YH,YJ]
theorem jjW (fl:List Ship) (hfl:∀s∈fl,s.Ok) (hlen:fl.length<=8) (cells:List Int) (hc0:cells≠[]) (hc1:cells.length<1000):∃P,PlanOk fl P/\ZU [.lst (fl.map jm),.lst (cells.map D.int)]=some (P.map jh):=by
 suffices main:∀C:Res->Prop,(∀P,PlanOk fl P->C (.retO (P.map jh)))->C (Qt [.sh ‹"h"›,.sh ‹"n"›,.un,.un,.un,.un,.un,.un,.un,.un,.un,.un,.un]) by exact main (fun r=>∃P,PlanOk fl P/\jbn r=some (P.map jh)) fun P hP=>⟨P,hP,rfl⟩
 intro C fin;have eparts:=jcD fl (by omega);have hSlen:(jt fl).length<=16:=by have:=ZV fl;have:=ja1 (Jr fl);unfold jt;omega
 have hSlt:∀p∈jt fl,p.1<p.2:=fun p hp=>(jcp hp).1;have hrooms:∀s∈fl,((jt fl).map (qQ s)).sum=s.m*(s.e-s.b):=fun s hs=>jdX hs (hfl s hs);generalize hS:jt fl=S at *
 have hcl:0<cells.length:=List.length_pos_iff.mpr hc0;unfold Qt;refine jK [.sh ‹"h"›,.sh ‹"n"›,.sh ‹"aR"›,.un,.un,.un,.un,.un,.un,.un,.un,.un,.un] (by simp (disch:=omega) only [jI,jM,ji,jc,jq,Yk,jj,Yl,Yf,YH,YJ];simp only [eparts];simp (disch:=omega) only [Yl]) ?_;refine jK [.sh ‹"h"›,.sh ‹"n"›,.sh ‹"aR"›,.ow [],.un,.un,.un,.un,.un,.un,.un,.un,.un] ‹"av"› ?_;refine jcE (rng 0 (fl.length:Int).toNat) (fun ds ρ=>∃(P:List (List Int)) (k:Nat) (lo:Int) (a b c d e f g h:Slot) (w:Slot),ds=rng lo k/\lo=P.length/\P.length+k=fl.length/\(∀(i:Nat) r s,P[i]?=some r->fl[i]?=some s->RowOk S s r) /\
  ρ=[.sh (.lst (fl.map jm)),.sh (.lst (cells.map D.int)),.sh (.lst (S.map jD)),.ow (P.map jh),a,b,c,d,e,f,g,h,w])
  (Qu (by simp (disch:=omega) only [jc,ji,ja,Yk,jj,Yl,Yf,jaz];simp only [Yd]) (by omega) (by omega)) ⟨[],fl.length,0,.un,.un,.un,.un,.un,.un,.un,.un,.un,by simp,rfl,by simp,by simp,rfl⟩ ?_ ?_
 . rintro d ds ρ ⟨P,k,lo,a,b,c,d',e,f,g,h,w,hds,hlo,hPk,hP,rfl⟩;cases k with
   | zero=>cases hds
   | succ k=>
     rw [zM] at hds;cases hds;subst hlo;have hi:P.length<fl.length:=by omega
     have gs:fl[P.length]?=some fl[P.length]:=Ya hi;generalize hsh:fl[P.length]=s at gs;have hsm:s∈fl:=YB gs;have hs:=hfl s hsm;have hm0:=hs.m0;have hm1:=hs.m1;have hn0:=hs.n0;have dsh:jO ‹"h"› (.int P.length)=some (jm s):=jeW (by omega) (by rw [Yt];exact gs);have erooms:=jhN hs (l:=S) (by omega);have hsum:=hrooms s hsm;have hneed:s.n<=s.m*(s.e-s.b):=hs.n1;generalize hMo:S.map (qQ s)=Mo at *
     have hMl:Mo.length=S.length:=by rw [<-hMo,Yd]
     have hMn:∀(j:Nat) x,Mo[j]?=some x->0<=x:=fun j x hx=>by rw [<-hMo,List.getElem?_map] at hx;obtain ⟨p,h1,h2⟩:=map_some hx;subst h2;exact jfG hs (hSlt p (YB h1))
     suffices turn:∀C':Res->Prop,(∀r ρ',RowOk S s r->(∃a b c d e f g h w,ρ'=[.sh ‹"h"›,.sh ‹"n"›,.sh ‹"aR"›,.ow ((P++[r]).map jh),a,b,c,d,e,f,g,h,w])->C' (.next ρ'))->C' ((jy (jI 5 (jM (ji J3 (jc ‹"aw"› (jc (jq 2) jj)))))
     (jy (jI 6 (jk jO ‹"aw"› (eC (.int 2))))
     (jy (Jm 7 (zV jj))
     (jy (zW ‹"3"› (jz 8)
     (jy ‹"E"›
     (jy ‹"c"›
     (jy ‹"ac"›
     (jI 6 (jk zD (ja 6) (jk jO (ja 7) (ja 8))))))))
     (jy (zW ‹"3"› (jz 8)
     (jy ‹"C"›
     (jy ‹"Q"›
     (jy ‹"aK"›
     (jI 6 (jk zD (ja 6) (ja 12)))))))
     (jhZ 7 (JD 3 (jq 7)))))))) [.sh (.lst (fl.map jm)),.sh (.lst (cells.map D.int)),.sh (.lst (S.map jD)),.ow (P.map jh),.sh (.int P.length),b,c,d',e,f,g,h,w]) by
       obtain ⟨ρ2,h1,r,hr,a2,b2,c2,d2,e2,f2,g2,h2,w2,rfl⟩:=turn (fun res=>∃ρ',res=.next ρ'/\∃r,RowOk S s r/\∃a b c d e f g h w,ρ'=[.sh ‹"h"›,.sh ‹"n"›,.sh ‹"aR"›,.ow ((P++[r]).map jh),a,b,c,d,e,f,g,h,w]) fun r ρ' hr hρ=>⟨ρ',rfl,r,hr,hρ⟩;refine ⟨_,_,rfl,h1,P++[r],k,P.length+1,a2,b2,c2,d2,e2,f2,g2,h2,w2,rfl,by simp,by simp;omega,fun i r' s' q1 q2=>?_,rfl⟩;by_cases hiP:i<P.length
       . rw [YF hiP] at q1;exact hP i r' s' q1 q2
       . rw [YC (by omega)] at q1;have:i=P.length:=by
           rcases Y2 (i-P.length) 1 with z | z
           . omega
           . rw [Yz (by simpa using z)] at q1;cases q1
         subst this;simp at q1;subst q1;rw [gs] at q2;cases q2;exact hr
     intro C' fin';clear fin C eparts
     -- most, left, row
     refine jK [.sh ‹"h"›,.sh ‹"n"›,.sh ‹"aR"›,.ow (P.map jh),.sh (.int P.length),.sh ‹"z"›,c,d',e,f,g,h,w] (by simp (disch:=omega) only [jI,jM,ji,jc,jk,ja,Yk,Yp,Yf,jq,jj,Yl,YH,YJ];simp only [dsh];simp (disch:=omega) only [Yf];simp only [erooms];simp (disch:=omega) only [Yl]) ?_;refine jK [.sh ‹"h"›,.sh ‹"n"›,.sh ‹"aR"›,.ow (P.map jh),.sh (.int P.length),.sh ‹"z"›,.sh (.int s.n),d',e,f,g,h,w] (by simp (disch:=omega) only [jI,jk,ja,Yk,Yp,Yf,eC,YH,YJ];simp only [dsh];unfold jm;simp (disch:=omega) only [Yf,jbz]) ?_;refine jK [.sh ‹"h"›,.sh ‹"n"›,.sh ‹"aR"›,.ow (P.map jh),.sh (.int P.length),.sh ‹"z"›,.sh (.int s.n),.ow [],e,f,g,h,w] ‹"av"› ?_
     -- first round
     refine jcE (rng 0 (S.length:Int).toNat) (fun ds ρ=>∃(R:List Int) (k:Nat) (left:Int) (e f g:Slot),ds=rng R.length k/\R.length+k=S.length/\left=s.n-R.sum/\0<=left/\(∀(j:Nat) x m,R[j]?=some x->Mo[j]?=some m->0<=x/\x<=m) /\
      ρ=[.sh (.lst (fl.map jm)),.sh (.lst (cells.map D.int)),.sh (.lst (S.map jD)),.ow (P.map jh),.sh (.int P.length),.sh (.lst (Mo.map D.int)),.sh (.int left),.ow (R.map D.int),e,f,g,h,w])
       ‹"aF"› ⟨[],S.length,s.n,e,f,g,by simp,by simp,by simp,hn0,by simp,rfl⟩ ?_ ?_
     . rintro d ds ρ ⟨R,k,left,e,f,g,hds,hRk,hleft,hl0,hR,rfl⟩;cases k with
       | zero=>cases hds
       | succ k=>
         rw [zM] at hds;cases hds;have hj:R.length<Mo.length:=by omega
         have gm:Mo[R.length]?=some Mo[R.length]:=Ya hj;generalize Mo[R.length]=m at gm;have hm:=hMn _ _ gm;have dm:jO ‹"z"› (.int R.length)=some (.int m):=jeS (by omega) (by rw [Yt];exact gm);obtain ⟨cl,_,ec⟩:=jd3 (ns:=cells) (i:=((P.length:Int)*S.length+R.length)%cells.length) (yD _ (by omega)) (yf _ (by omega));have cm:0<=cl/4%(m+1):=yD _ (by omega);have cm':cl/4%(m+1)<m+1:=yf _ (by omega);obtain ⟨sm,hsm',es⟩:=jd3 (ns:=[0,m,m*(cl/4%9)/8,cl/4%(m+1)]) (i:=cl%4) (by omega) (by show cl%4<4;omega);have sm0:0<=sm:=by
          have:0<=m*(cl/4%9):=yT hm (by omega);simp only [Yn,YD,Kv] at hsm';rcases hsm' with rfl | rfl | rfl | rfl
          . omega
          . exact hm
          . omega
          . exact cm
         simp only [List.map_cons,yS] at es;generalize hx:jdp left m sm=x;have x0:0<=x:=by rw [<-hx];exact jnz hl0 hm sm0
         obtain ⟨x1,x2,_⟩:=jnu left m sm;rw [hx] at x1 x2;refine ⟨_,[.sh ‹"h"›,.sh ‹"n"›,.sh ‹"aR"›,.ow (P.map jh),.sh (.int P.length),.sh ‹"z"›,.sh (.int (left-x)),.ow ((R++[x]).map D.int),.sh (.int R.length),.sh (.int cl),.sh (.int sm),h,w],rfl,?_,R++[x],k,left-x,_,_,_,by simp,by simp;omega,by simp;omega,by omega,fun j y m' q1 q2=>?_,rfl⟩
         . have dr:jO (.lst (R.map D.int++[.int x])) (.int R.length)=some (.int x):=jan (by omega) (by rw [Yt,YC (by simp)];simp);have dmin:jbJ [.int left,.int m,.int sm]=some (.int x):=by rw [<-hx];rfl
           rw [Y0];have hSl:(S.map jD).length=S.length:=Yd _;have ec':=ec;rw [<-hSl] at ec';exact jrx (e:=.un) (by omega) (by omega) hcl (by omega) rfl ec' dm hm es dmin dr
         . by_cases hjR:j<R.length
           . rw [YF hjR] at q1;exact hR j y m' q1 q2
           . rw [YC (by omega)] at q1;have:j=R.length:=by
               rcases Y2 (j-R.length) 1 with z | z
               . omega
               . rw [Yz (by simpa using z)] at q1;cases q1
             subst this;simp at q1;subst q1;rw [gm] at q2;cases q2;exact ⟨x0,x2⟩
     obtain ⟨cc,_,ecc⟩:=jd3 (ns:=cells) (i:=(P.length:Int)%cells.length) (yD _ (by omega)) (yf _ (by omega));rintro ρ ⟨R0,k0,left0,e,f,g,hds,hRk,hleft,hl0,hR,rfl⟩;have hk0:k0=0:=by
       cases k0 with
       | zero=>rfl
       | succ k=>rw [zM] at hds;cases hds
     subst hk0;clear hds
     -- second round
     refine jcE (rng 0 (S.length:Int).toNat) (fun ds ρ=>∃(R:List Int) (k t:Nat) (left:Int) (e h w:Slot),ds=rng t k/\t+k=S.length/\R.length=S.length/\left=s.n-R.sum/\0<=left/\(∀(j:Nat) x m,R[j]?=some x->Mo[j]?=some m->0<=x/\x<=m) /\
      (∀q:Nat,q<t->0<left->∀(a:Nat),((q:Int)+cc)%S.length=a->R[a]?=Mo[a]?) /\
      ρ=[.sh (.lst (fl.map jm)),.sh (.lst (cells.map D.int)),.sh (.lst (S.map jD)),.ow (P.map jh),.sh (.int P.length),.sh (.lst (Mo.map D.int)),.sh (.int left),.ow (R.map D.int),e,f,g,h,w])
       ‹"aF"› ⟨R0,S.length,0,left0,e,h,w,by simp,by simp,by omega,hleft,hl0,hR,by simp,rfl⟩ ?_ ?_
     . rintro d ds ρ ⟨R,k,t,left,e,h,w,hds,htk,hRl,hleft,hl0,hR,hvis,rfl⟩;cases k with
       | zero=>cases hds
       | succ k=>
         rw [zM] at hds;cases hds;have hpos:(0:Int)<S.length:=by omega
         have a0:=yD ((t:Int)+cc) (Int.ne_of_gt hpos);have a1:=yf ((t:Int)+cc) hpos;obtain ⟨a,ha⟩:∃a:Nat,((t:Int)+cc)%S.length=a:=⟨(((t:Int)+cc)%S.length).toNat,by omega⟩;rw [ha] at a0 a1;have haM:a<Mo.length:=by omega
         have haR:a<R.length:=by omega
         have gm:Mo[a]?=some Mo[a]:=Ya haM;have gr:R[a]?=some R[a]:=Ya haR;generalize Mo[a]=m at gm;generalize R[a]=y at gr;obtain ⟨y0,ym⟩:=hR a y m gr gm;have dm:jO ‹"z"› (.int a)=some (.int m):=jeS (by omega) (by rw [Yt];exact gm);have dr:jO (.lst (R.map D.int)) (.int a)=some (.int y):=jeS (by omega) (by rw [Yt];exact gr);generalize hx:(if m-y<left then m-y else left)=x;have hx1:0<=x/\x<=left/\x<=m-y/\(x=m-y\/x=left):=by rw [<-hx];split <;> omega
         obtain ⟨x0,xl,xm,xx⟩:=hx1;have tn:=jr0 (z0:=.sh ‹"h"›) (z3:=.ow (P.map jh)) (f:=f) (g:=g) (h:=h) (w:=w) (parts:=S.map jD) (j:=t) (by omega) hcl (by rw [Yd];omega) ecc (by rw [Yd];exact ha) dm dr hx haR;refine ⟨_,_,rfl,tn,R.set a (y+x),k,t+1,left-x,_,_,_,by simp,by omega,by simp [hRl],?_,by omega,?_,?_,rfl⟩
         . rw [jiZ R a y (y+x) gr];omega
         . intro j z m' q1 q2;by_cases hja:a=j
           . subst hja;rw [Y6 haR] at q1;rw [gm] at q2;cases q1;cases q2;omega
           . rw [YS hja] at q1;exact hR j z m' q1 q2
         . intro q hq hpos' b hb;by_cases hqt:q=t
           . subst hqt;have hab:b=a:=by omega
             subst hab;rw [Y6 haR,gm];congr 1;omega
           . have old:=hvis q (by omega) (by omega) b hb;by_cases hab:a=b
             . subst hab;rw [gr,gm] at old;have:=Option.some.inj old;rw [Y6 haR,gm];congr 1;omega
             . rw [YS hab];exact old
     . rintro ρ ⟨R,k,t,left,e,h,w,hds,htk,hRl,hleft,hl0',hR,hvis,rfl⟩;have hk:k=0:=by
        cases k with
        | zero=>rfl
        | succ k=>rw [zM] at hds;cases hds
       subst hk;have hz:left=0:=by
        refine Classical.byContradiction fun hz=>?_;have hpos:0<left:=by omega
        have hRM:R=Mo:=by
         refine yU fun j=>?_;rcases Y2 j S.length with hj | hj
         . have hn:(0:Int)<S.length:=by omega
           have q0:=yD ((j:Int)-cc) (Int.ne_of_gt hn);have q1:=yf ((j:Int)-cc) hn;have q2:(((j:Int)-cc)%S.length+cc)%S.length=j:=by rw [Int.emod_add_emod,Int.sub_add_cancel];exact Int.emod_eq_of_lt (by omega) (by omega)
           refine hvis (((j:Int)-cc)%S.length).toNat (by omega) hpos j ?_;rw [Int.toNat_of_nonneg q0];exact q2
         . rw [Yz (by omega),Yz (by omega)]
        rw [hRM,hsum] at hleft;omega
       have last:∀r ρ',r=Res.next ρ'->C' (.next ρ')->C' r:=fun r ρ' h1 h2=>by rw [h1];exact h2
       refine last _ [.sh ‹"h"›,.sh ‹"n"›,.sh ‹"aR"›,.ow ((P++[R]).map jh),.sh (.int P.length),.sh ‹"z"›,.sh (.int left),.sh (jh R),e,f,g,h,w] ?_ (fin' R _ ⟨hRl,fun j x p q1 q2=>?_,by omega⟩ ⟨_,_,_,_,_,_,_,_,_,rfl⟩)
       . clear hvis hR hneed hsum hrooms;simp (disch:=omega) only [jhZ,JD,frz,Yp,Yk,YH,YJ,jq];simp only [Yd];rw [jV (by omega)];simp only [Y0,List.map_cons,yS];rfl
       . exact hR j x (qQ s p) q1 (by rw [<-hMo,List.getElem?_map,q2];rfl)
 . rintro ρ ⟨P,k,lo,a,b,c,d,e,f,g,h,w,hds,hlo,hPk,hP,rfl⟩;have hk:k=0:=by
    cases k with
    | zero=>rfl
    | succ k=>rw [zM] at hds;cases hds
   subst hk;exact fin P ⟨by omega,by rw [hS];exact hP⟩
theorem ZL (p:Int×Int):QL [jD p]=some (.int (p.2-p.1)):=by unfold QL jck jD;simp (disch:=omega) only [zk,YA,ya,KL,jex,ze,jk,ja,qI,List.map_cons,yS,K4,KH,kd,ku,Yk,eC,Yf,Qg,QF,qN,yq]
def jS (P:List (List Int)) (j:Nat):Int:=(P.map fun r=>r.getD j 0).sum
theorem jaB {P:List (List Int)} {j:Nat} (hj:∀r∈P,j<r.length) (hl:P.length<1000):Zn [.lst (P.map jh),.int j]=some (.int (jS P j)):=by
 have lc:JV (jY (ja 0)) (jz 0) ‹"l"› (jk jO (ja 0) (ja 1)) 1 [1] [.sh ‹"r"›,.sh (.int j)]=some ((P.map fun r=>r.getD j 0).map D.int):=by
  refine qv (qk rfl) (by rw [Yd];omega) ?_;rw [jg7 (fun d=>match jO d (.int j) with | some x=>x | none=>.non) _ fun d hd=>?_]
  . rw [YG,YG];congr 1;refine yY fun r hr=>?_;show (match jO (jh r) (.int j) with | some x=>x | none=>D.non)=_;unfold jh;rw [JR (hj r hr)];rfl
  . obtain ⟨r,hr,rfl⟩:=Y3.mp hd;refine ⟨[.sh (jh r),.sh (.int j)],rfl,rfl,?_⟩;show jO (jh r) (.int j)=_;unfold jh;rw [JR (hj r hr)]
 unfold Zn jfb;simp (disch:=omega) only [zk,YA,ya,KL,Nat.reduceAdd,jex,ze,ji,jc,jM,qI,List.map_cons,yS,K4,KH,kd,ku,jj,Yl,yq];simp only [lc];simp (disch:=omega) only [Yl,Yf];rw [jcc];rfl
/-- the stretch in which an hour lies -/
theorem PlanOk.rows {fl:List Ship} {P:List (List Int)} (hP:PlanOk fl P):∀r∈P,r.length=(jt fl).length:=fun r hr=>by
 obtain ⟨i,hi,e⟩:=yx hr;have g1:P[i]?=some r:=by rw [Ya hi,e]
 have hi':i<fl.length:=by rw [<-hP.len];exact hi
 exact (hP.row i r fl[i] g1 (Ya hi')).len
theorem jkT {l:List D} (i:Nat) (h:i<=l.length):L2.jcO l none (some (i:Int))=l.take i:=by unfold L2.jcO;rw [HT.sIx_none,HT.sIx_nat];simp <;> omega
theorem jmh (ns:List Int) (lo hi:Option Int):∃cs:List Int,L2.jcO (ns.map D.int) lo hi=cs.map D.int/\cs.length<=ns.length:=by unfold L2.jcO;rw [<-List.map_drop,<- List.map_take];exact ⟨_,rfl,by rw [kb,List.length_drop];omega⟩
theorem jto {cs:List Int} (h:cs.length<1000):jdM (.lst (cs.map D.int)) (.lst [.int 0])=some ((cs++[0]).map D.int):=by unfold jdM;rw [Y0];exact if_pos (yL (yI (jV (by rw [Yd];simp;omega))))
theorem Qq {i:Nat} {fo:L2.Env->Option (List D)} {ρ:L2.Env} {l:List D} (h:fo ρ=some l):jI i (jM fo) ρ=.next (ρ.set i (.sh (.lst l))):=by unfold jI jM;rw [h];rfl
def jr (f:Nat->Int):Nat->Int
 | 0=>0
 | n+1=>jr f n+f n
theorem jg {f g:Nat->Int}:∀{n:Nat},(∀j,j<n->f j=g j)->jr f n=jr g n
 | 0,_=>rfl
 | n+1,h=>by unfold jr;rw [jg fun j hj=>h j (by omega),h n (by omega)]
theorem qt {f g:Nat->Int}:∀{n:Nat},(∀j,j<n->f j<=g j)->jr f n<=jr g n
 | 0,_=>yk _
 | n+1,h=>by unfold jr;have:=qt (n:=n) fun j hj=>h j (by omega);have:=h n (by omega);omega
theorem qR {f g:Nat->Int}:∀{n:Nat},jr (fun j=>f j+g j) n=jr f n+jr g n
 | 0=>rfl
 | n+1=>by unfold jr;rw [qR];omega
theorem JI {f g:Nat->Int}:∀{n:Nat},jr (fun j=>f j-g j) n=jr f n-jr g n
 | 0=>rfl
 | n+1=>by unfold jr;rw [JI];omega
theorem zm {f:Nat->Int} {c:Int}:∀{n:Nat},jr (fun j=>c*f j) n=c*jr f n
 | 0=>by simp [jr]
 | n+1=>by unfold jr;rw [zm,Int.mul_add]
theorem jQ {f:Nat->Int} {n:Nat} (h:∀j,j<n->f j=0):jr f n=0:=by
 rw [jg (g:=fun _=>0) h];induction n with
 | zero=>rfl
 | succ n ih=>unfold jr;rw [ih fun j hj=>h j (by omega)];rfl
theorem J5 {f:Nat->Int} {n:Nat} (h:∀j,j<n->0<=f j):0<=jr f n:=by rw [<-jQ (f:=fun _=>0) (n:=n) fun _ _=>rfl];exact qt h
theorem Z4 {f:Nat->Int}:∀{n:Nat},jr f (n+1)=f 0+jr (fun j=>f (j+1)) n
 | 0=>by simp [jr]
 | n+1=>by have:=Z4 (f:=f) (n:=n);show jr f (n+1)+f (n+1)=f 0+(jr (fun j=>f (j+1)) n+f (n+1));omega
theorem ja6:∀(l:List Int),l.sum=jr (fun j=>l.getD j 0) l.length
 | []=>rfl
 | x::l=>by rw [List.sum_cons,YA,Z4,ja6 l];rfl
theorem jaI {α:Type} (f:α->Int) (d:α):∀(l:List α),(l.map f).sum=jr (fun j=>f (l.getD j d)) l.length
 | []=>rfl
 | x::l=>by rw [List.map_cons,List.sum_cons,YA,Z4,jaI f d l];rfl
theorem jiV (pr:Bool->Bool):∀(xs:List Int) (ms:List Bool),xs.length=ms.length->(((xs.zip ms).filter fun q=>pr q.2).map (·.1)).sum=jr (fun j=>if pr (ms.getD j false)=true then xs.getD j 0 else 0) xs.length
 | [],ms,_=>by simp [jr]
 | x::xs,[],h=>by simp at h
 | x::xs,m::ms,h=>by
   have ih:=jiV pr xs ms (by simpa using h);rw [yC,yv,YA,Z4];have e0:(if pr ((m::ms).getD 0 false)=true then (x::xs).getD 0 0 else 0)=if pr m=true then x else 0:=rfl
   have e1:(fun j=>if pr ((m::ms).getD (j+1) false)=true then (x::xs).getD (j+1) 0 else 0)=fun j=>if pr (ms.getD j false)=true then xs.getD j 0 else 0:=rfl
   rw [e0,e1,<- ih];dsimp only;by_cases hm:pr m=true
   . rw [if_pos hm,if_pos hm,List.map_cons,List.sum_cons]
   . rw [if_neg hm,if_neg hm,K5]
theorem jtu {C:Res->Prop} {fi:L2.Env->Option (List D)} {m:D->L2.Env->Option L2.Env} {B F':FS} {ρ:L2.Env} (n:Nat) (P:Nat->L2.Env->Prop) (hi:fi ρ=some (rng 0 n)) (h0:P 0 ρ)
 (hs:∀(j:Nat) ρ,j<n->P j ρ->∃ρ1 ρ2,m (.int (j:Int)) ρ=some ρ1/\B ρ1=.next ρ2/\P (j+1) ρ2) (k:∀ρ',P n ρ'->C (F' ρ')):C (jy (zW fi m B) F' ρ):=by
 refine jcE (rng 0 n) (fun ds ρ=>∃j k:Nat,ds=rng (j:Int) k/\j+k=n/\P j ρ) hi ⟨0,n,rfl,by omega,h0⟩ ?_ ?_
 . rintro d ds ρ ⟨j,k,hd,hjk,hP⟩;cases k with
   | zero=>cases hd
   | succ k=>rw [zM] at hd;cases hd;obtain ⟨ρ1,ρ2,h1,h2,h3⟩:=hs j ρ (by omega) hP;exact ⟨ρ1,ρ2,h1,h2,j+1,k,rfl,by omega,h3⟩
 . rintro ρ ⟨j,k',hd,hjk,hP⟩;cases k' with
   | zero=>
     have e:j=n:=by omega
     subst e;exact k ρ hP
   | succ k=>rw [zM] at hd;cases hd
theorem jor {α:Type} {C:Res->Prop} {fi:L2.Env->Option (List D)} {m:D->L2.Env->Option L2.Env} {B F':FS} {ρ:L2.Env} (src:α->D) (l:List α) (P:List α->L2.Env->Prop) (hi:fi ρ=some (l.map src)) (h0:P [] ρ)
 (hs:∀(pre:List α) (a:α) (q:List α) ρ,l=pre++a::q->P pre ρ->∃ρ1 ρ2,m (src a) ρ=some ρ1/\B ρ1=.next ρ2/\P (pre++[a]) ρ2) (k:∀ρ',P l ρ'->C (F' ρ')):C (jy (zW fi m B) F' ρ):=by
 refine jcE (l.map src) (fun ds ρ=>∃pre q:List α,ds=q.map src/\l=pre++q/\P pre ρ) hi ⟨[],l,rfl,rfl,h0⟩ ?_ ?_
 . rintro d ds ρ ⟨pre,q,hd,hl,hP⟩;cases q with
   | nil=>cases hd
   | cons a q=>cases hd;obtain ⟨ρ1,ρ2,h1,h2,h3⟩:=hs pre a q ρ hl hP;exact ⟨ρ1,ρ2,h1,h2,pre++[a],q,rfl,by rw [hl];simp,h3⟩
 . rintro ρ ⟨pre,q,hd,hl,hP⟩;cases q with
   | nil=>rw [yM] at hl;subst hl;exact k ρ hP
   | cons a q=>cases hd
theorem Jn {α:Type} {m:D->L2.Env->Option L2.Env} {ft:L2.Env->Option Bool} {fe:L2.Env->Option D} {ρ:L2.Env} (src g:α->D):∀(l:List α),(∀a∈l,∃ρ1,m (src a) ρ=some ρ1/\ft ρ1=some true/\fe ρ1=some (g a))->Zw m ft fe ρ (l.map src)=some (l.map g)
 | [],_=>rfl
 | d::ds,h=>by obtain ⟨ρ1,h1,h2,h3⟩:=h d Ye;simp only [List.map_cons,Zw,h1,h2,h3,Yf,yq,Jn src g ds fun x hx=>h x (Yg _ hx),Yl]
theorem jeL {α:Type} {m:D->L2.Env->Option L2.Env} {ft:L2.Env->Option Bool} {fe:L2.Env->Option D} {ρ:L2.Env} (src g:α->D) (p:α->Bool):∀(l:List α),(∀a∈l,∃ρ1,m (src a) ρ=some ρ1/\ft ρ1=some (p a)/\fe ρ1=some (g a))->Zw m ft fe ρ (l.map src)=some ((l.filter p).map g)
 | [],_=>rfl
 | d::ds,h=>by
   obtain ⟨ρ1,h1,h2,h3⟩:=h d Ye;have ih:=jeL src g p ds fun x hx=>h x (Yg _ hx);cases hp:p d with
   | true=>simp only [List.map_cons,Zw,h1,h2,hp,h3,Yf,yq,ih,Yl,yv]
   | false=>simp only [List.map_cons,Zw,h1,h2,hp,Yf,YY,yu,ih,yv]
theorem jaP {α β:Type} (f:α->D) (g:β->D) (xs:List α) (ys:List β):jal (xs.map f) (ys.map g)=(xs.zip ys).map fun q=>.tup [f q.1,g q.2]:=by unfold jal;rw [List.zip_map,YG];rfl
theorem sum_ints {l:List Int}:JB [.lst (l.map D.int)]=some (.int l.sum):=jcc l
theorem Qp {a n:Nat} {m:FS} {ds:List D} {ρ:L2.Env} (Pr:D->Prop) (h1:ds.length=a) (h2:qI n ds=ρ) (h:∀C:Res->Prop,(∀d,Pr d->C (.ret d))->C (m ρ)):∃d,Pr d/\zk a n m ds=some d:=by unfold zk;rw [if_pos h1,h2];exact h (fun r=>∃d,Pr d/\jex r=some d) fun d hd=>⟨d,hd,rfl⟩
theorem jnL {a n:Nat} {m:FS} {ds l:List D} {ρ:L2.Env} (h1:ds.length=a) (h2:qI n ds=ρ) (h:m ρ=.retO l):zO a n m ds=some l:=by unfold zO;rw [if_pos h1,h2,h];rfl
theorem jca {a n:Nat} {m:FS} {ds l:List D} {ρ:L2.Env} (h1:ds.length=a) (h2:qI n ds=ρ) (h:∀C:Res->Prop,C (.retO l)->C (m ρ)):zO a n m ds=some l:=by unfold zO;rw [if_pos h1,h2];exact h (fun r=>jbn r=some l) rfl
theorem QV {fe:L2.Env->Option (List D)} {ρ:L2.Env} {l:List D} (h:fe ρ=some l):zi fe ρ=.retO l:=by unfold zi;rw [h]
theorem jmU {α:Type} {m:D->L2.Env->Option L2.Env} {ft:L2.Env->Option Bool} {fe:L2.Env->Option D} {ρ:L2.Env} (src g:α->D) (p:α->Bool) (l:List α) (h:∀a∈l,∃ρ1,m (src a) ρ=some ρ1/\ft ρ1=some (p a)/\fe ρ1=some (g a)):Zw m ft fe ρ (l.map src)=some ((l.filter p).map g):=jeL src g p l h
def spn (fl:List Ship) (j:Nat):Int×Int:=(jt fl).getD j (0,0)
def qB (fl:List Ship) (j:Nat):Int:=(spn fl j).2-(spn fl j).1
def jN (x:Int):Int:=if x>0 then x else 0
theorem jpm (x:Int):(if 0>x then 0 else x)=jN x:=by unfold jN;split <;> split <;> omega
def Sm (s:Ship):Prop:=0<=s.m/\s.m<=1000000000000000
theorem jsf {s:Ship} (h:s.Ok):Sm s:=⟨h.m0,h.m1⟩
theorem jas {fl:List Ship} {j:Nat} (h:j<(jt fl).length):(jt fl)[j]?=some (spn fl j):=by unfold spn;rw [Yc,Ya h];rfl
theorem jiy {fl:List Ship} {j:Nat} (h:j<(jt fl).length):spn fl j∈jt fl:=YB (jas h)
theorem jrZ {fl:List Ship} {j:Nat} (h:j<(jt fl).length):jO ‹"U"› (.int j)=some (jD (spn fl j)):=jeW (by omega) (by rw [Yt];exact jas h)
theorem QM {fl:List Ship} (h:fl.length<20):(jt fl).length<40:=by have:=ZV fl;have:=ja1 (Jr fl);unfold jt;omega
theorem je3 (n:Nat):rng 0 n=(List.range n).map fun j:Nat=>D.int (j:Int):=by unfold rng;refine yY fun i _=>?_;rw [K5]
def j5 (P:List (List Int)) (i s:Nat):Int:=(P.getD i []).getD s 0
def Shape (n m:Nat) (P:List (List Int)):Prop:=P.length=n/\∀r∈P,r.length=m
theorem Shape.row {n m:Nat} {P:List (List Int)} (h:Shape n m P) {i:Nat} (hi:i<n):P[i]?=some (P.getD i [])/\(P.getD i []).length=m:=by
 have hi':i<P.length:=by rw [h.1];exact hi
 have e:P[i]?=some (P.getD i []):=by rw [Yc,Ya hi'];rfl
 exact ⟨e,h.2 _ (YB e)⟩
theorem Za {n m:Nat} {P:List (List Int)} (h:Shape n m P) {i:Nat} (hi:i<n):jO ‹"r"› (.int i)=some (jh (P.getD i [])):=by refine jan (by omega) ?_;rw [Yt,List.getElem?_map,(h.row hi).1];rfl
theorem Zb {n m:Nat} {P:List (List Int)} (h:Shape n m P) {i s:Nat} (hi:i<n) (hs:s<m):jO (jh (P.getD i [])) (.int s)=some (.int (j5 P i s)):=by unfold jh;exact JR (by rw [(h.row hi).2];exact hs)
theorem ZZ {α:Type} (src:α->D) (d:α) (l:List α):ZQ (l.map src)=(List.range l.length).map fun j:Nat=>.tup [.int (j:Int),src (l.getD j d)]:=by
 unfold ZQ;apply yU;intro i;rw [List.getElem?_map,List.getElem?_zipIdx,List.getElem?_map,List.getElem?_map];by_cases hi:i<l.length
 . rw [Ya hi,yy hi];simp [Ya hi,Yc]
 . rw [Yz (by omega),Yz (by simp;omega)];rfl
theorem jiH {m:D->L2.Env->Option L2.Env} {B:FS} (g:Nat->D) (n:Nat) (P:Nat->L2.Env->Prop) (R:D->Prop)
 (hs:∀(j:Nat) ρ,j<n->P j ρ->∃ρ1,m (g j) ρ=some ρ1/\((∃ρ2,B ρ1=.next ρ2/\P (j+1) ρ2)\/∃d,B ρ1=.ret d/\R d)):∀(k j:Nat) (ρ:L2.Env),j+k=n->P j ρ->
 (∃ρ',JG m B ((List.range' j k).map g) ρ=.next ρ'/\P n ρ')\/∃d,JG m B ((List.range' j k).map g) ρ=.ret d/\R d
 | 0,j,ρ,hj,hP=>.inl ⟨ρ,rfl,(show j=n by omega) ▸ hP⟩
 | k+1,j,ρ,hj,hP=>by
   obtain ⟨ρ1,h1,h2⟩:=hs j ρ (by omega) hP;rw [List.range'_succ,List.map_cons];rcases h2 with ⟨ρ2,h2,h3⟩ | ⟨d,h2,h3⟩
   . rcases jiH g n P R hs k (j+1) ρ2 (by omega) h3 with h | h
     . obtain ⟨ρ',e,p⟩:=h;exact .inl ⟨ρ',by simp only [JG,h1,h2];exact e,p⟩
     . obtain ⟨d,e,p⟩:=h;exact .inr ⟨d,by simp only [JG,h1,h2];exact e,p⟩
   . exact .inr ⟨d,by simp only [JG,h1,h2],h3⟩
theorem jkZ {fi:L2.Env->Option (List D)} {m:D->L2.Env->Option L2.Env} {B:FS} {ρ:L2.Env} (g:Nat->D) (n:Nat) (P:Nat->L2.Env->Prop) (R:D->Prop) (hi:fi ρ=some ((List.range n).map g)) (h0:P 0 ρ)
 (hs:∀(j:Nat) ρ,j<n->P j ρ->∃ρ1,m (g j) ρ=some ρ1/\((∃ρ2,B ρ1=.next ρ2/\P (j+1) ρ2)\/∃d,B ρ1=.ret d/\R d)) :
 (∃ρ',zW fi m B ρ=.next ρ'/\P n ρ')\/∃d,zW fi m B ρ=.ret d/\R d:=by
 unfold zW;rw [hi,List.range_eq_range'];exact jiH g n P R hs n 0 ρ (by omega) h0
theorem jls {fi:L2.Env->Option (List D)} {m:D->L2.Env->Option L2.Env} {B:FS} {ρ:L2.Env} (g:Nat->D) (n:Nat) (P:Nat->L2.Env->Prop) (hi:fi ρ=some ((List.range n).map g)) (h0:P 0 ρ)
 (hs:∀(j:Nat) ρ,j<n->P j ρ->∃ρ1 ρ2,m (g j) ρ=some ρ1/\B ρ1=.next ρ2/\P (j+1) ρ2):∃ρ',zW fi m B ρ=.next ρ'/\P n ρ':=by
 rcases jkZ g n P (fun _=>False) hi h0 (fun j ρ hj hP=>let ⟨ρ1,ρ2,h1,h2,h3⟩:=hs j ρ hj hP;⟨ρ1,h1,.inl ⟨ρ2,h2,h3⟩⟩) with h | ⟨d,_,h⟩
 . exact h
 . exact h.elim
theorem jrV {c:L2.Env->Option Bool} {B:FS} (P:Nat->L2.Env->Prop) (R:Res->Prop)
 (hs:∀(k:Nat) ρ,P k ρ->(c ρ=some false/\R (.next ρ))\/‹"aX"›):∀(k:Nat) (ρ:L2.Env),P k ρ->∃n r,wh c B n ρ=some r/\R r:=by
 intro k;induction k using Nat.strongRecOn with
 | _ k ih=>
   intro ρ hP;rcases hs k ρ hP with ⟨h1,h2⟩ | ⟨h1,h2⟩
   . exact ⟨1,_,by unfold wh;rw [h1],h2⟩
   . rcases h2 with ⟨ρ2,k2,e,l,p⟩ | ⟨d,e,r⟩
     . obtain ⟨n,r,e2,hr⟩:=ih k2 l ρ2 p;refine ⟨n+1,r,?_,hr⟩;unfold wh;rw [h1];dsimp only;rw [e];exact e2
     . refine ⟨1,.ret d,?_,r⟩;unfold wh;rw [h1];dsimp only;rw [e]
theorem jdr {c:L2.Env->Option Bool} {B:FS} {ρ:L2.Env} (P:Nat->L2.Env->Prop) (R:Res->Prop) {k:Nat} (h0:P k ρ)
 (hs:∀(k:Nat) ρ,P k ρ->(c ρ=some false/\R (.next ρ))\/‹"aX"›):∃r,Qb c B ρ=r/\R r:=by
 obtain ⟨n,r,e,hr⟩:=jrV P R hs k ρ h0;exact ⟨r,jen e,hr⟩
theorem jpb {C:Res->Prop} {fi:L2.Env->Option (List D)} {m:D->L2.Env->Option L2.Env} {B F':FS} {ρ:L2.Env} (g:Nat->D) (n:Nat) (P:Nat->L2.Env->Prop) (R:D->Prop) (hi:fi ρ=some ((List.range n).map g)) (h0:P 0 ρ)
 (hs:∀(j:Nat) ρ,j<n->P j ρ->∃ρ1,m (g j) ρ=some ρ1/\((∃ρ2,B ρ1=.next ρ2/\P (j+1) ρ2)\/∃d,B ρ1=.ret d/\R d)) (k1:∀ρ',P n ρ'->C (F' ρ')) (k2:∀d,R d->C (.ret d)):C (jy (zW fi m B) F' ρ):=by
 rcases jkZ g n P R hi h0 hs with ⟨ρ',e,h⟩ | ⟨d,e,h⟩
 . exact jK ρ' e (k1 ρ' h)
 . exact jfU e (k2 d h)
theorem jdn {C:Res->Prop} {fi:L2.Env->Option (List D)} {m:D->L2.Env->Option L2.Env} {B F':FS} {ρ:L2.Env} (g:Nat->D) (n:Nat) (P:Nat->L2.Env->Prop) (hi:fi ρ=some ((List.range n).map g)) (h0:P 0 ρ)
 (hs:∀(j:Nat) ρ,j<n->P j ρ->∃ρ1 ρ2,m (g j) ρ=some ρ1/\B ρ1=.next ρ2/\P (j+1) ρ2) (k:∀ρ',P n ρ'->C (F' ρ')):C (jy (zW fi m B) F' ρ):=
 let ⟨ρ',e,h⟩:=jls g n P hi h0 hs;jK ρ' e (k ρ' h)
theorem ji5 {C:Res->Prop} {c:L2.Env->Option Bool} {B F':FS} {ρ:L2.Env} (P:Nat->L2.Env->Prop) (N:L2.Env->Prop) {k:Nat} (h0:P k ρ)
 (hs:∀(k:Nat) ρ,P k ρ->(c ρ=some false/\N ρ)\/(c ρ=some true/\∃ρ2 k2,B ρ=.next ρ2/\k2<k/\P k2 ρ2)) (kf:∀ρ',N ρ'->C (F' ρ')):C (jy (Qb c B) F' ρ):=by
 obtain ⟨r,e,hr⟩:=jdr (c:=c) (B:=B) P (fun r=>∃ρ',r=.next ρ'/\N ρ') h0 fun k ρ hP=>by
  rcases hs k ρ hP with ⟨a,b⟩ | ⟨a,ρ2,k2,h1,h2,h3⟩
  . exact .inl ⟨a,ρ,rfl,b⟩
  . exact .inr ⟨a,.inl ⟨ρ2,k2,h1,h2,h3⟩⟩
 obtain ⟨ρ',e',hN⟩:=hr;subst e';exact jK ρ' e (kf ρ' hN)
theorem jme {B:FS} {ρ:L2.Env} {k:Nat} {P:Nat->L2.Env->Prop} (h:∀C:Res->Prop,(∀ρ2 k2,k2<k->P k2 ρ2->C (.next ρ2))->C (B ρ)):∃ρ2 k2,B ρ=.next ρ2/\k2<k/\P k2 ρ2:=h (fun r=>∃ρ2 k2,r=.next ρ2/\k2<k/\P k2 ρ2) fun ρ2 k2 hk hP=>⟨ρ2,k2,rfl,hk,hP⟩
section
variable {ρ:L2.Env}
end
def Mv (rooms part:List (List Int)) (off on i:Nat):Prop:=0<j5 part i off/\j5 part i on<j5 rooms i on
theorem jhs {n m:Nat} {rooms part:List (List Int)} (hr:Shape n m rooms) (hp:Shape n m part) {off on:Nat} (ho:off<m) (hn:on<m) :
 ∃d,((d=.non/\∀i,i<n->¬Mv rooms part off on i)\/∃i:Nat,i<n/\d=.int i/\Mv rooms part off on i)/\Q7 [.lst (rooms.map jh),.lst (part.map jh),.int off,.int on]=some d:=by
 unfold Q7;refine Qp (ρ:=[.sh ‹"b"›,.sh ‹"k"›,.sh (.int off),.sh (.int on),.un,.un]) _ rfl rfl fun C fin=>?_;unfold jeE;refine jpb (fun j:Nat=>.tup [.int (j:Int),jh (part.getD j [])]) n
  (fun j ρ=>(∃x y,ρ=[.sh ‹"b"›,.sh ‹"k"›,.sh (.int off),.sh (.int on),x,y])/\∀i,i<j->¬Mv rooms part off on i)
  (fun d=>∃i:Nat,i<n/\d=.int i/\Mv rooms part off on i) ?_ ⟨⟨_,_,rfl⟩,fun i hi=>absurd hi (by omega)⟩ ?_ ?_ ?_
 . show some (ZQ (part.map jh))=_;rw [ZZ jh [],hp.1]
 . rintro j ρ hj ⟨⟨x,y,rfl⟩,hP⟩;refine ⟨[.sh ‹"b"›,.sh ‹"k"›,.sh (.int off),.sh (.int on),.sh (.int j),.sh (jh (part.getD j []))],rfl,?_⟩;rw [jkw (jd0 (qh (jw (jw rfl rfl (Zb hp hj ho)) rfl jfm)) (qh (jw (jw rfl rfl (Zb hp hj hn)) (jw (jw rfl rfl (Za hr hj)) rfl (Zb hr hj hn)) Zd)))];by_cases c:0<j5 part j off/\j5 part j on<j5 rooms j on
   . rw [if_pos (by simp [c.1,c.2])];exact .inr ⟨_,rfl,j,hj,rfl,c⟩
   . rw [if_neg (by simpa using c)];refine .inl ⟨_,rfl,⟨_,_,rfl⟩,fun i hi=>?_⟩;by_cases z:i=j
     . subst z;exact c
     . exact hP i (by omega)
 . rintro ρ' ⟨⟨x,y,rfl⟩,hP⟩;exact fin _ (.inl ⟨rfl,hP⟩)
 . exact fun d h=>fin _ (.inr h)
def kI (ks:List Nat):List Int:=ks.map fun k:Nat=>(k:Int)
theorem jhF (ks:List Nat):(kI ks).length=ks.length:=Yd _
theorem jfu:∀{ks:List Nat} {ds:List D} {j s:Nat} {d:D},ks.Nodup->ks[j]?=some s->ds[j]?=some d->qF (kI ks) ds (s:Int)=some d
 | [],_,_,_,_,_,h,_=>by simp at h
 | _::_,[],_,_,_,_,_,h=>by simp at h
 | k::ks,e::ds,0,s,d,_,h1,h2=>by simp at h1 h2;subst h1 h2;show (if (k:Int)=(k:Int) then some e else _)=_;rw [if_pos rfl]
 | k::ks,e::ds,j+1,s,d,nd,h1,h2=>by
   simp at h1 h2;have hn:¬(k:Int)=(s:Int):=fun z=>(yc.mp nd).1 (by
     have:k=s:=by omega
     rw [this];exact YB h1)
   show (if (k:Int)=(s:Int) then some e else qF (kI ks) ds (s:Int))=_;rw [if_neg hn];exact jfu (yc.mp nd).2 h1 h2
theorem ji0:∀{ks:List Nat} {ds:List D} {s:Nat},s∉ks->qF (kI ks) ds (s:Int)=none
 | [],_,_,_=>rfl
 | _::_,[],_,_=>rfl
 | k::ks,e::ds,s,h=>by
   have hn:¬(k:Int)=(s:Int):=fun z=>h (by
     have:k=s:=by omega
     rw [this];exact Ye)
   show (if (k:Int)=(s:Int) then some e else qF (kI ks) ds (s:Int))=_;rw [if_neg hn];exact ji0 fun z=>h (Yg _ z)
theorem jhx {ks:List Nat} {ds:List D} (nd:ks.Nodup) (hl:ks.length=ds.length) (s:Nat) (neg:Bool):jaD neg (.int s) ‹"S"›=some (.bl (neg != decide (s∈ks))):=by
 show some (D.bl (neg != (qF (kI ks) ds (s:Int)).isSome))=_;by_cases h:s∈ks
 . obtain ⟨j,hj,e⟩:=yx h;rw [jfu nd (j:=j) (by rw [Ya hj,e]) (Ya (by omega))];simp [h]
 . rw [ji0 h];simp [h]
theorem mem_kI {ks:List Nat} {s:Nat}:(s:Int)∈kI ks ↔ s∈ks:=by unfold kI;rw [Y3];exact ⟨fun ⟨k,hk,e⟩=>(show k=s by omega) ▸ hk,fun h=>⟨s,h,rfl⟩⟩
theorem jiO {ks:List Nat} {s:Nat} (h:s∉ks):Qi (kI ks) (s:Int)=kI (ks++[s]):=by unfold Qi;rw [if_neg fun z=>h (mem_kI.mp z)];unfold kI;rw [Y0];rfl
theorem jfV {ks:List Nat} {ds:List D} {s:Nat} {d:D} (h:s∉ks):jbP (kI ks) ds (s:Int) d=ds++[d]:=by unfold jbP;rw [if_neg fun z=>h (mem_kI.mp z)]
theorem Jb:∀(m:Nat) (ks:List Nat),ks.Nodup->(∀s∈ks,s<m)->ks.length<=m
 | 0,ks,_,h=>by
   cases ks with
   | nil=>exact Yq _
   | cons k ks=>exact absurd (h k Ye) (by omega)
 | m+1,ks,nd,h=>by
   by_cases hm:m∈ks
   . have h1:=Jb m (ks.erase m) (nd.erase m) fun s hs=>by have h2:=(List.Nodup.mem_erase_iff nd).mp hs;have h3:=h s h2.2;have:=h2.1;omega
     rw [List.length_erase_of_mem hm] at h1;omega
   . have:=Jb m ks nd fun s hs=>by have h3:=h s hs;have:s≠m:=fun z=>hm (z ▸ hs);omega
     omega
structure Rch (rooms part:List (List Int)) (n m:Nat) (B:Nat->D->Prop) (ks:List Nat) (ds:List D):Prop where
 len:ks.length=ds.length
 nd:ks.Nodup
 lt:∀s∈ks,s<m
 val:∀(j s:Nat) (d:D),ks[j]?=some s->ds[j]?=some d->B s d\/∃i o j':Nat,j'<j/\ks[j']?=some o/\i<n/\d=.tup [.int i,.int o,.int s]/\Mv rooms part o s i
theorem Rch.snoc {rooms part:List (List Int)} {n m:Nat} {B:Nat->D->Prop} {ks:List Nat} {ds:List D} (h:Rch rooms part n m B ks ds) {s:Nat} {d:D} (hs:s∉ks) (hm:s<m) (hd:B s d\/∃i o:Nat,o∈ks/\i<n/\d=.tup [.int i,.int o,.int s]/\Mv rooms part o s i) :
 Rch rooms part n m B (ks++[s]) (ds++[d]):=by
 refine ⟨by simp [h.len],?_,fun t ht=>?_,fun j t e h1 h2=>?_⟩
 . rw [KZ];refine ⟨h.nd,by simp,fun a ha b hb z=>?_⟩;rw [Yu.mp hb] at z;exact hs (z ▸ ha)
 . rcases YZ.mp ht with q | q
   . exact h.lt t q
   . rw [Yu.mp q];exact hm
 . rcases Nat.lt_trichotomy j ks.length with q | q | q
   . rw [YF q] at h1;rw [YF (by rw [<-h.len];exact q)] at h2;rcases h.val j t e h1 h2 with r | ⟨i,o,j',r1,r2,r3⟩
     . exact .inl r
     . exact .inr ⟨i,o,j',r1,by rw [YF (by omega)];exact r2,r3⟩
   . subst q;rw [YC (Yq _)] at h1;rw [YC (by rw [h.len];exact Yq _)] at h2;simp at h1;simp [h.len] at h2;subst h1 h2;rcases hd with r | ⟨i,o,r1,r2⟩
     . exact .inl r
     . obtain ⟨j',hj',ej⟩:=yx r1;exact .inr ⟨i,o,j',hj',by rw [YF hj',Ya hj',ej],r2⟩
   . rw [Yz (by simp;omega)] at h1;cases h1
def Clo (rooms part:List (List Int)) (n m:Nat) (ks:List Nat) (o:Nat):Prop:=∀on,on<m->on∈ks\/∀i,i<n->¬Mv rooms part o on i
def nI (ks:List Nat):List D:=ks.map fun k:Nat=>D.int (k:Int)
theorem jrO (ks:List Nat):(kI ks).map D.int=nI ks:=by unfold kI nI;rw [YG];rfl
theorem jr4 {ks:List Nat} {j s:Nat} (h:ks[j]?=some s):jO (.lst (nI ks)) (.int j)=some (.int s):=by refine jan (by omega) ?_;rw [Yt];unfold nI;rw [List.getElem?_map,h];rfl
theorem jhr {n m:Nat} {rooms part:List (List Int)} (hr:Shape n m rooms) (hp:Shape n m part) {B:Nat->D->Prop} {ks:List Nat} {ds:List D} (R:Rch rooms part n m B ks ds) (hm:m<1000) {off on:Nat} (ho:off∈ks) (hn:on<m) (a:Slot) (t:Slot) (x8:Slot) :
 ∃ρ2,(jy (jI 8 (eIf (qV ‹"aU"›) (eC .non) ‹"V"›))
   (Zu (qV (jbL (ja 8)))
   (jy (Zr 3 (jq 7) (jaa (jc (jq 8) (jc (jq 6) (jc (jq 7) jj)))))
   (JD 4 (jq 7))) qw)) [.sh (.lst (rooms.map jh)),.sh (.lst (part.map jh)),a,.od (kI ks) ds,.ow (nI ks),t,.sh (.int off),.sh (.int on),x8]=.next ρ2 /\
   ∃ks' ds' y,ρ2=[.sh ‹"b"›,.sh ‹"k"›,a,.od (kI ks') ds',.ow (nI ks'),t,.sh (.int off),.sh (.int on),y]/\Rch rooms part n m B ks' ds'/\(∃e,ks'=ks++e)/\(on∈ks'\/∀i,i<n->¬Mv rooms part off on i):=by
 have hlen:ks.length<1000:=yN (Jb m ks R.nd R.lt) hm;have hc:qV ‹"aU"› ‹"a6"›=some (false != decide (on∈ks)):=qh (jw rfl rfl (jhx R.nd R.len on false));by_cases hin:on∈ks
 . have e1:eIf (qV ‹"aU"›) (eC .non) ‹"V"› ‹"a6"›=some .non:=by unfold eIf;rw [hc];simp [hin,eC]
   refine ⟨_,(qJ (j4 e1)).trans (JS (qh rfl)),ks,ds,_,rfl,R,⟨[],by simp⟩,.inl hin⟩
 . obtain ⟨d,hd,ed⟩:=jhs hr hp (R.lt off ho) hn;have e1:eIf (qV ‹"aU"›) (eC .non) ‹"V"› ‹"a6"›=some d:=by unfold eIf;rw [hc];simp only [hin,K1];exact jA rfl ed
   rcases hd with ⟨rfl,hno⟩ | ⟨i,hi,rfl,hmv⟩
   . exact ⟨_,(qJ (j4 e1)).trans (JS (qh rfl)),ks,ds,_,rfl,R,⟨[],by simp⟩,.inr hno⟩
   . refine ⟨_,(qJ (j4 e1)).trans ((jag (qh rfl)).trans ((qJ (ρ':=[.sh ‹"b"›,.sh ‹"k"›,a,.od (kI (ks++[on])) (ds++[.tup [.int i,.int off,.int on]]),.ow (nI ks),t,.sh (.int off),.sh (.int on),.sh (.int i)]) ?_).trans ?_)),
       ks++[on],ds++[.tup [.int i,.int off,.int on]],.sh (.int i),rfl,R.snoc hin hn (.inr ⟨i,off,ho,hi,rfl,hmv⟩),⟨[on],rfl⟩,.inl (by simp)⟩
     . show (if zI (kI ks).length=true then Res.next _ else Res.fail)=_;rw [if_pos (jV (by rw [jhF];omega)),jiO hin,jfV hin];rfl
     . show (if zI (nI ks).length=true then Res.next _ else Res.fail)=_;rw [if_pos (jV (by unfold nI;rw [Yd];omega))];have:nI ks++[D.int (on:Int)]=nI (ks++[on]):=by unfold nI;rw [Y0];rfl
       rw [this];rfl
theorem jhJ {n m:Nat} {rooms part:List (List Int)} (hr:Shape n m rooms) (hp:Shape n m part) (hm:m<1000) {B:Nat->D->Prop} {ks0:List Nat} {ds0:List D} (R0:Rch rooms part n m B ks0 ds0) (hn:ks0≠[]->0<n) :
 ∃d,(∃ks ds,d=.dic (kI ks) ds/\Rch rooms part n m B ks ds/\(∃e,ks=ks0++e)/\∀o∈ks,Clo rooms part n m ks o)/\jb7 [.lst (rooms.map jh),.lst (part.map jh),.dic (kI ks0) ds0]=some d:=by
 have hl0:ks0.length<1000:=yN (Jb m ks0 R0.nd R0.lt) hm;unfold jb7;refine Qp (ρ:=[.sh ‹"b"›,.sh ‹"k"›,.sh ‹"aN"›,.un,.un,.un,.un,.un,.un]) _ rfl rfl fun C fin=>?_;unfold je5;refine jK [.sh ‹"b"›,.sh ‹"k"›,.sh ‹"aN"›,.od (kI ks0) ds0,.un,.un,.un,.un,.un] rfl ?_;refine jK [.sh ‹"b"›,.sh ‹"k"›,.sh ‹"aN"›,.od (kI ks0) ds0,.ow (nI ks0),.un,.un,.un,.un] ?_ ?_
 . have e:ji jc7 (jc (ja 2) jj) [.sh ‹"b"›,.sh ‹"k"›,.sh ‹"aN"›,.od (kI ks0) ds0,.un,.un,.un,.un,.un]=some (nI ks0):=jA rfl (by show (if zI (kI ks0).length=true then some ((kI ks0).map D.int) else none)=_;rw [if_pos (jV (by rw [jhF];omega)),jrO])
   unfold Jm;rw [e];rfl
 refine jK [.sh ‹"b"›,.sh ‹"k"›,.sh ‹"aN"›,.od (kI ks0) ds0,.ow (nI ks0),.sh (.int ((0:Nat):Int)),.un,.un,.un] rfl ?_;refine ji5 (fun k ρ=>∃(ks:List Nat) (ds:List D) (t:Nat) (x6 x7 x8:Slot),ρ=‹"bh"›/\k=m-t/\t<=ks.length/\Rch rooms part n m B ks ds/\(∃e,ks=ks0++e)/\(ks≠[]->0<n) /\
  ∀(j o:Nat),j<t->ks[j]?=some o->Clo rooms part n m ks o) (fun ρ=>∃(ks:List Nat) (ds:List D) (x4 x5 x6 x7 x8:Slot),ρ=[.sh (.lst (rooms.map jh)),.sh (.lst (part.map jh)),.sh (.dic (kI ks0) ds0),.od (kI ks) ds,x4,x5,x6,x7,x8]/\Rch rooms part n m B ks ds/\(∃e,ks=ks0++e)/\∀o∈ks,Clo rooms part n m ks o)
  (k:=m) ⟨ks0,ds0,0,_,_,_,rfl,rfl,ye _,R0,⟨[],by simp⟩,hn,fun j o h=>absurd h (by omega)⟩ ?_ ?_
 . rintro k ρ ⟨ks,ds,t,x6,x7,x8,rfl,rfl,ht,R,⟨e,he⟩,hn',hcl⟩;have hlen:ks.length<=m:=Jb m ks R.nd R.lt;have hc:qV (jk dLt (ja 5) (ji qS (jc (ja 4) jj))) ‹"bh"›=some (decide ((t:Int)<((nI ks).length:Int))):=qh (jw rfl (jA rfl rfl) Zd);have hnl:(nI ks).length=ks.length:=Yd _;by_cases htl:t<ks.length
   . refine .inr ⟨by rw [hc,hnl];simp [htl],?_⟩;have n0:0<n:=hn' fun z=>by subst z;simp at htl
     have hoff:ks[t]?=some ks[t]:=Ya htl;have hmem:ks[t]∈ks:=Kr htl;refine jme fun C2 fin2=>?_;refine jK [.sh ‹"b"›,.sh ‹"k"›,.sh ‹"aN"›,.od (kI ks) ds,.ow (nI ks),.sh (.int (t:Int)),.sh (.int (ks[t]:Nat)),x7,x8] (j4 (jw rfl rfl (jr4 hoff))) ?_;refine jdn (fun j:Nat=>D.int (j:Int)) m (fun j ρ=>∃(ks2:List Nat) (ds2:List D) (y7 y8:Slot),ρ=[.sh ‹"b"›,.sh ‹"k"›,.sh ‹"aN"›,.od (kI ks2) ds2,.ow (nI ks2),.sh (.int (t:Int)),.sh (.int (ks[t]:Nat)),y7,y8]/\Rch rooms part n m B ks2 ds2/\(∃e,ks2=ks++e) /\
       ∀on,on<j->on∈ks2\/∀i,i<n->¬Mv rooms part ks[t] on i) ?_ ⟨ks,ds,_,_,rfl,R,⟨[],by simp⟩,fun on h=>absurd h (by omega)⟩ ?_ ?_
     . rw [Qu (j:=(m:Int)) (js (jA (js (jw rfl rfl (Za hr n0)) rfl) ?_) rfl) (by omega) (by omega),Yt,je3];show some (D.int ((List.map D.int (rooms.getD 0 [])).length:Int))=_;rw [Yd,(hr.row n0).2]
     . rintro j ρ hj ⟨ks2,ds2,y7,y8,rfl,R2,⟨e2,he2⟩,hon⟩;obtain ⟨ρ2,h1,ks3,ds3,y,rfl,R3,⟨e3,he3⟩,h4⟩:=jhr hr hp R2 hm (off:=ks[t]) (on:=j) (by rw [he2];exact YE _ hmem) hj (.sh ‹"aN"›) (.sh (.int (t:Int))) y8;refine ⟨_,_,rfl,h1,ks3,ds3,_,_,rfl,R3,⟨e2++e3,by rw [he3,he2,Kl]⟩,fun on h=>?_⟩;by_cases z:on=j
       . subst z;exact h4
       . rcases hon on (by omega) with q | q
         . exact .inl (by rw [he3];exact YE _ q)
         . exact .inr q
     . rintro ρ ⟨ks2,ds2,y7,y8,rfl,R2,⟨e2,he2⟩,hon⟩;refine fin2 _ (m-(t+1)) (by omega) ⟨ks2,ds2,t+1,_,_,_,rfl,rfl,by rw [he2,YR];omega,R2,⟨e++e2,by rw [he2,he,Kl]⟩,fun _=>n0,fun j o hj ho=>?_⟩;have up:∀x,x∈ks->x∈ks2:=fun x hx=>by rw [he2];exact YE _ hx
       have ho':ks[j]?=some o:=by rw [he2,YF (by omega)] at ho;exact ho
       by_cases z:j=t
       . subst z;rw [hoff] at ho';cases ho';exact hon
       . intro on h;rcases hcl j o (by omega) ho' on h with q | q
         . exact .inl (up _ q)
         . exact .inr q
   . refine .inl ⟨by rw [hc,hnl];simp [htl],ks,ds,_,_,_,_,_,rfl,R,⟨e,he⟩,fun o ho=>?_⟩;obtain ⟨j,hj,ej⟩:=yx ho;exact hcl j o (by omega) (by rw [Ya hj,ej])
 . rintro ρ ⟨ks,ds,x4,x5,x6,x7,x8,rfl,R,he,hcl⟩;exact fin _ ⟨ks,ds,rfl,R,he,hcl⟩
def zB (P:List (List Int)) (i:Nat):Int:=(P.getD i []).sum
theorem Je {n m:Nat} {P:List (List Int)} (h:Shape n m P) {i:Nat} (hi:i<n):zB P i=jr (fun s=>j5 P i s) m:=by unfold zB;rw [ja6,(h.row hi).2];rfl
theorem Jy {n m:Nat} {P:List (List Int)} (h:Shape n m P) (s:Nat):jS P s=jr (fun i=>j5 P i s) n:=by unfold jS;rw [jaI (fun r:List Int=>r.getD s 0) [],h.1];rfl
def qZ (P:List (List Int)) (n:Nat):Int:=jr (zB P) n
theorem Ju {f:Nat->Nat->Int} {m:Nat}:∀n,jr (fun i=>jr (fun s=>f i s) m) n=jr (fun s=>jr (fun i=>f i s) n) m
 | 0=>by show (0:Int)=_;rw [jQ];intro j _;rfl
 | n+1=>by show jr _ n+jr (fun s=>f n s) m=_;rw [Ju n,<- qR];rfl
def Bp (needs:List Int) (rooms part:List (List Int)) (n:Nat) (s:Nat) (d:D):Prop:=∃i:Nat,i<n/\d=.tup [.int i,.non,.int s]/\zB part i<needs.getD i 0/\j5 part i s<j5 rooms i s
theorem jlF {n m:Nat} {needs:List Int} {rooms part:List (List Int)} (hr:Shape n m rooms) {ks:List Nat} {ds:List D} (R:Rch rooms part n m (Bp needs rooms part n) ks ds) (hm:m<1000) {i s:Nat} (hi:i<n) (hs:s<m) {b:Bool} (hb:b=decide (zB part i<needs.getD i 0)) (a c x5:Slot) :
 ∃ρ2,(Zu ‹"A"›
   (Zr 3 (jq 7) (jaa (jc (jq 4) (jc (eC .non) (jc (jq 7) jj))))) qw) [a,.sh (.lst (rooms.map jh)),c,.od (kI ks) ds,.sh (.int i),x5,.sh (.bl b),.sh (.int s),.sh (.int (j5 part i s))]=.next ρ2 /\
   ∃ks' ds',ρ2=[a,.sh ‹"b"›,c,.od (kI ks') ds',.sh (.int i),x5,.sh (.bl b),.sh (.int s),.sh (.int (j5 part i s))]/\Rch rooms part n m (Bp needs rooms part n) ks' ds'/\(∃e,ks'=ks++e)/\(zB part i<needs.getD i 0->j5 part i s<j5 rooms i s->s∈ks'):=by
 have hlen:ks.length<1000:=yN (Jb m ks R.nd R.lt) hm;rw [jkw (jd0 (b:=b) (qh rfl) (jd0 (qh (jw rfl (jw (jw rfl rfl (Za hr hi)) rfl (Zb hr hi hs)) Zd)) (qh (jw rfl rfl (jhx R.nd R.len s true)))))];by_cases cc:zB part i<needs.getD i 0/\j5 part i s<j5 rooms i s/\s∉ks
 . rw [if_pos (by rw [hb,YO cc.1,YO cc.2.1,YV cc.2.2];rfl)];refine ⟨_,?_,ks++[s],ds++[.tup [.int i,.non,.int s]],rfl,R.snoc cc.2.2 hs (.inl ⟨i,hi,rfl,cc.1,cc.2.1⟩),⟨[s],rfl⟩,fun _ _=>by simp⟩;show (if zI (kI ks).length=true then Res.next _ else Res.fail)=_;rw [if_pos (jV (by rw [jhF];omega)),jiO cc.2.2,jfV cc.2.2];rfl
 . rw [if_neg (by rw [hb];simpa using cc)];refine ⟨_,rfl,ks,ds,rfl,R,⟨[],by simp⟩,fun h1 h2=>?_⟩;by_cases z:s∈ks
   . exact z
   . exact absurd ⟨h1,h2,z⟩ cc
theorem jgl {n m:Nat} {needs:List Int} {rooms part:List (List Int)} (hd:needs.length=n) (hr:Shape n m rooms) (hp:Shape n m part) (hm:m<1000) :
 ∃d,(∃ks ds,d=.dic (kI ks) ds/\Rch rooms part n m (Bp needs rooms part n) ks ds/\∀i s,i<n->s<m->zB part i<needs.getD i 0->j5 part i s<j5 rooms i s->s∈ks)/\jaF [.lst (needs.map D.int),.lst (rooms.map jh),.lst (part.map jh)]=some d:=by
 unfold jaF;refine Qp (ρ:=[.sh ‹"f"›,.sh ‹"b"›,.sh ‹"k"›,.un,.un,.un,.un,.un,.un]) _ rfl rfl fun C fin=>?_;unfold jcH;refine jK [.sh ‹"f"›,.sh ‹"b"›,.sh ‹"k"›,.od (kI []) [],.un,.un,.un,.un,.un] rfl ?_;refine jdn (fun j:Nat=>.tup [.int (j:Int),jh (part.getD j [])]) n (fun j ρ=>∃(ks:List Nat) (ds:List D) (x4 x5 x6 x7 x8:Slot),ρ=[.sh ‹"f"›,.sh ‹"b"›,.sh ‹"k"›,.od (kI ks) ds,x4,x5,x6,x7,x8]/\Rch rooms part n m (Bp needs rooms part n) ks ds /\
  ∀i s,i<j->s<m->zB part i<needs.getD i 0->j5 part i s<j5 rooms i s->s∈ks) ?_ ⟨[],[],_,_,_,_,_,rfl,⟨rfl,List.nodup_nil,fun s hs=>absurd hs YD,fun j s d h=>by simp at h⟩,fun i s h=>absurd h (by omega)⟩ ?_ ?_
 . show some (ZQ (part.map jh))=_;rw [ZZ jh [],hp.1]
 . rintro j ρ hj ⟨ks,ds,x4,x5,x6,x7,x8,rfl,R,hall⟩;have e6:jk dLt (ji JB (jc (ja 5) jj)) ‹"aw"› [.sh ‹"f"›,.sh ‹"b"›,.sh ‹"k"›,.od (kI ks) ds,.sh (.int j),.sh (jh (part.getD j [])),x6,x7,x8]=some (.bl (decide (zB part j<needs.getD j 0))):=jw (jA rfl sum_ints) (jw rfl rfl (JR (by omega))) Zd
   obtain ⟨ρ2,h1,ks2,ds2,y7,y8,rfl,R2,⟨e2,he2⟩,hon⟩:=jls (fi:=Qy (jc (jq 5) jj)) (m:=Qh 2 (j2 (jz 7) (j2 (jz 8) Qn))) (B:=Zu ‹"A"›
    (Zr 3 (jq 7) (jaa (jc (jq 4) (jc (eC .non) (jc (jq 7) jj))))) qw) (ρ:=[.sh (.lst (needs.map D.int)),.sh (.lst (rooms.map jh)),.sh (.lst (part.map jh)),.od (kI ks) ds,.sh (.int j),.sh (jh (part.getD j [])),.sh (.bl (decide (zB part j<needs.getD j 0))),x7,x8])
    (fun s:Nat=>.tup [.int (s:Int),.int (j5 part j s)]) m (fun s ρ=>∃(ks2:List Nat) (ds2:List D) (y7 y8:Slot),ρ=[.sh ‹"f"›,.sh ‹"b"›,.sh ‹"k"›,.od (kI ks2) ds2,.sh (.int j),.sh (jh (part.getD j [])),.sh (.bl (decide (zB part j<needs.getD j 0))),y7,y8]/\Rch rooms part n m (Bp needs rooms part n) ks2 ds2/\(∃e,ks2=ks++e) /\
      ∀s',s'<s->zB part j<needs.getD j 0->j5 part j s'<j5 rooms j s'->s'∈ks2)
    (by show some (ZQ ((part.getD j []).map D.int))=_;rw [ZZ D.int 0,(hp.row hj).2];rfl) ⟨ks,ds,_,_,rfl,R,⟨[],by simp⟩,fun s' h=>absurd h (by omega)⟩ (by
      rintro s ρ hs ⟨ks2,ds2,y7,y8,rfl,R2,⟨e2,he2⟩,hon⟩;obtain ⟨ρ2,h1,ks3,ds3,rfl,R3,⟨e3,he3⟩,h4⟩:=jlF hr R2 hm hj hs rfl (.sh ‹"f"›) (.sh ‹"k"›) (.sh (jh (part.getD j [])));refine ⟨_,_,rfl,h1,ks3,ds3,_,_,rfl,R3,⟨e2++e3,by rw [he3,he2,Kl]⟩,fun s' h a b=>?_⟩;by_cases z:s'=s
      . subst z;exact h4 a b
      . rw [he3];exact YE _ (hon s' (by omega) a b))
   refine ⟨_,_,rfl,(qJ (j4 e6)).trans h1,ks2,ds2,_,_,_,_,_,rfl,R2,fun i s h1 h2 h3 h4=>?_⟩;by_cases z:i=j
   . subst z;exact hon s h2 h3 h4
   . rw [he2];exact YE _ (hall i s (by omega) h2 h3 h4)
 . rintro ρ ⟨ks,ds,x4,x5,x6,x7,x8,rfl,R,hall⟩;exact fin _ ⟨ks,ds,rfl,R,hall⟩
def jsW:Option Nat->D
 | some o=>.int (o:Int)
 | none=>.non
def ql (q:Nat×Option Nat×Nat):D:=.tup [.int q.1,jsW q.2.1,.int q.2.2]
inductive Path (ks:List Nat) (ds:List D):Nat->List (Nat×Option Nat×Nat)->Prop
 | p {j s i:Nat}:ks[j]?=some s->ds[j]?=some (.tup [.int i,.non,.int s])->Path ks ds j [(i,none,s)]
 | c {j:Nat}:ds[j]?=some .non->Path ks ds j []
 | s {j j' s i o:Nat} {p:List (Nat×Option Nat×Nat)}:Path ks ds j' p->j'<j->ks[j']?=some o->ks[j]?=some s->ds[j]?=some (.tup [.int i,.int o,.int s])->Path ks ds j (p++[(i,some o,s)])
theorem ji3 {a n:Nat} {m:FS} {ds:List D} {ρ:L2.Env} (Pr:List D->Prop) (h1:ds.length=a) (h2:qI n ds=ρ) (h:∀C:Res->Prop,(∀d,Pr d->C (.retO d))->C (m ρ)):∃d,Pr d/\zO a n m ds=some d:=by unfold zO;rw [if_pos h1,h2];exact h (fun r=>∃d,Pr d/\jbn r=some d) fun d hd=>⟨d,hd,rfl⟩
theorem jgj {n m:Nat} {rooms part:List (List Int)} {B:Nat->D->Prop} {ks:List Nat} {ds:List D} (R:Rch rooms part n m B ks ds) (hm:m<1000) (hB:∀s d,B s d->d=.non\/∃i:Nat,d=.tup [.int i,.non,.int s]) {j0 s0:Nat} (h0:ks[j0]?=some s0) :
 ∃l,(∃p,Path ks ds j0 p/\l=p.map ql)/\jaO [.dic (kI ks) ds,.int s0]=some l:=by
 have hlen:ks.length<1000:=yN (Jb m ks R.nd R.lt) hm;have at_:∀{j s:Nat},ks[j]?=some s->∃d,ds[j]?=some d/\qF (kI ks) ds (s:Int)=some d:=fun {j s} h=>by
  have hj:j<ds.length:=by rw [<-R.len];exact (Ym.mp h).1
  exact ⟨_,Ya hj,jfu R.nd h (Ya hj)⟩
 obtain ⟨d0,hd0,hl0⟩:=at_ h0;unfold jaO;refine ji3 (ρ:=[.sh ‹"S"›,.sh (.int s0),.un,.un]) _ rfl rfl fun C fin=>?_;unfold jdu;refine jK [.sh ‹"S"›,.sh (.int s0),.ow [],.un] rfl ?_;refine jK [.sh ‹"S"›,.sh (.int s0),.ow [],.sh d0] (j4 (jw rfl rfl hl0)) ?_;refine ji5 (fun k ρ=>∃(suf:List ‹"I"›) (d:D),ρ=‹"be"› /\
  ((∃j s,k=j+1/\ks[j]?=some s/\ds[j]?=some d/\suf.length+j<1000/\∀p,Path ks ds j p->Path ks ds j0 (p++suf))\/(k=0/\d=.non/\Path ks ds j0 suf)))
  (fun ρ=>∃(suf:List ‹"I"›) (d:D),ρ=‹"be"›/\Path ks ds j0 suf) (k:=j0+1)
  ⟨[],d0,rfl,.inl ⟨j0,s0,rfl,h0,hd0,by simp;have:=(Ym.mp h0).1;omega,fun p hp=>by simpa using hp⟩⟩ ?_ ?_
 . rintro k ρ ⟨suf,d,rfl,h⟩;have app:∀(q:Nat×Option Nat×Nat) (x:D),suf.length<1000->∀y,jk jby (ja 0) (jk jO (ja 3) (eC (.int 1))) [.sh ‹"S"›,.sh (.int s0),.ow ((q::suf).reverse.map ql),.sh (ql q)]=some y->
       jy (JD 2 (jq 3)) (jI 3 (jk jby (ja 0) (jk jO (ja 3) (eC (.int 1))))) [.sh ‹"S"›,.sh (.int s0),.ow (suf.reverse.map ql),.sh (ql q)]=.next [.sh ‹"S"›,.sh (.int s0),.ow ((q::suf).reverse.map ql),.sh y]:=fun q x hl y hy=>by
    refine (qJ (ρ':=[.sh ‹"S"›,.sh (.int s0),.ow ((q::suf).reverse.map ql),.sh (ql q)]) ?_).trans (j4 hy);show (if zI (suf.reverse.map ql).length=true then Res.next _ else Res.fail)=_;rw [if_pos (jV (by simp;omega)),List.reverse_cons,Y0];rfl
   rcases h with ⟨j,s,rfl,hj,hd,hl,hp⟩ | ⟨rfl,rfl,hp⟩
   . have hcases:d=.non\/(∃i:Nat,d=.tup [.int i,.non,.int s])\/∃i o j':Nat,j'<j/\ks[j']?=some o/\d=.tup [.int i,.int o,.int s]:=by
       rcases R.val j s d hj hd with b | ⟨i,o,j',r1,r2,_,r3,_⟩
       . rcases hB s d b with z | z
         . exact .inl z
         . exact .inr (.inl z)
       . exact .inr (.inr ⟨i,o,j',r1,r2,r3⟩)
     rcases hcases with rfl | ⟨i,rfl⟩ | ⟨i,o,j',r1,r2,rfl⟩
     . exact .inl ⟨qh rfl,suf,_,rfl,by simpa using hp [] (.c hd)⟩
     . refine .inr ⟨qh rfl,_,0,app (i,none,s) .non (by omega) .non (jw rfl (jw rfl rfl Qg) rfl),by omega,_,_,rfl,.inr ⟨rfl,rfl,hp _ (.p hj hd)⟩⟩
     . obtain ⟨d',hd',hl'⟩:=at_ r2;refine .inr ⟨qh rfl,_,j' + 1,app (i,some o,s) .non (by omega) d' (jw rfl (jw rfl rfl Qg) ?_),by omega,_,_,rfl,.inl ⟨j',o,rfl,r2,hd',by simp;omega,fun p h=>?_⟩⟩
       . show some ((qF (kI ks) ds (o:Int)).getD .non)=_;rw [hl'];rfl
       . have:=hp _ (.s h r1 r2 hj hd);simpa using this
   . exact .inl ⟨qh rfl,suf,_,rfl,hp⟩
 . rintro ρ ⟨suf,d,rfl,hp⟩;have e:ji jmk (jc (ja 2) jj) ‹"be"›=some (suf.map ql):=jA rfl (by show some (suf.reverse.map ql).reverse=_;rw [<-ka,List.reverse_reverse])
   rw [QV e];exact fin _ ⟨suf,hp,rfl⟩
def mD (P:List (List Int)):List (List D):=P.map fun r=>r.map D.int
def jh5 (P:List (List Int)) (i s:Nat) (v:Int):List (List Int):=P.set i ((P.getD i []).set s v)
theorem Shape.put {n m:Nat} {P:List (List Int)} (h:Shape n m P) {i:Nat} (hi:i<n) (s:Nat) (v:Int):Shape n m (jh5 P i s v):=by
 refine ⟨by unfold jh5;rw [List.length_set];exact h.1,fun r hr=>?_⟩;rcases List.mem_or_eq_of_mem_set hr with q | q
 . exact h.2 r q
 . rw [q,List.length_set];exact (h.row hi).2
theorem jfj {n m:Nat} {P:List (List Int)} (h:Shape n m P) {i s:Nat} (hi:i<n) (hs:s<m) (v:Int) (i' s':Nat):j5 (jh5 P i s v) i' s'=if i'=i/\s'=s then v else j5 P i' s':=by
 have hi':i<P.length:=by rw [h.1];exact hi
 have hs':s<(P.getD i []).length:=by rw [(h.row hi).2];exact hs
 unfold j5 jh5;by_cases z:i'=i
 . subst z;rw [Yc (l:=P.set _ _),Y6 hi',K9];by_cases y:s'=s
   . subst y;rw [Yc,Y6 hs',K9,if_pos ⟨rfl,rfl⟩]
   . rw [Yc,YS (Ne.symm y),<- Yc,if_neg fun q=>y q.2]
 . rw [Yc (l:=P.set _ _),YS (Ne.symm z),<- Yc,if_neg fun q=>z q.1]
def ind (p:Prop) [Decidable p]:Int:=if p then 1 else 0
theorem Jo {p:Prop} [Decidable p] (h:p):ind p=1:=if_pos h
theorem zL {p:Prop} [Decidable p] (h:¬p):ind p=0:=if_neg h
def inc (p:List ‹"I"›) (i s:Nat):Int:=(p.map fun q=>ind (q.1=i/\q.2.2=s)).sum
def dec (p:List ‹"I"›) (i s:Nat):Int:=(p.map fun q=>ind (q.1=i/\q.2.1=some s)).sum
theorem ZC (p:List ‹"I"›) (q:Nat×Option Nat×Nat) (i s:Nat):inc (p++[q]) i s=inc p i s+ind (q.1=i/\q.2.2=s):=by unfold inc;rw [Y0,List.sum_append];simp
theorem ZK (p:List ‹"I"›) (q:Nat×Option Nat×Nat) (i s:Nat):dec (p++[q]) i s=dec p i s+ind (q.1=i/\q.2.1=some s):=by unfold dec;rw [Y0,List.sum_append];simp
theorem jeN {n m:Nat} {Q:List (List Int)} (h:Shape n m Q) {i s:Nat} (hi:i<n) (hs:s<m) {v:Int} {g:Int->Int->Int} {fk fl fv:L2.Env->Option D} {a b c x y z:Slot} (hk:fk [a,b,c,.oo (mD Q),x,y,z]=some (.int i)) (hl:fl [a,b,c,.oo (mD Q),x,y,z]=some (.int s)) (hv:fv [a,b,c,.oo (mD Q),x,y,z]=some (.int v)) :
 jcl 3 fk fl fv g [a,b,c,.oo (mD Q),x,y,z]=.next [a,b,c,.oo (mD (jh5 Q i s (g (j5 Q i s) v))),x,y,z]:=by
 have e1:(mD Q)[i]?=some ((Q.getD i []).map D.int):=by unfold mD;rw [List.getElem?_map,(h.row hi).1];rfl
 have hs':s<(Q.getD i []).length:=by rw [(h.row hi).2];exact hs
 have e2:((Q.getD i []).map D.int)[s]?=some (.int (j5 Q i s)):=by rw [List.getElem?_map];unfold j5;rw [Yc (l:=Q.getD i []),Ya hs'];rfl
 have e0:jf7 3 fk fl fv g [a,b,c,.oo (mD Q),x,y,z]=some [a,b,c,.oo ((mD Q).set i ‹"aB"›),x,y,z]:=by unfold jf7;rw [hk,hl,hv];show (if 0<=(i:Int)/\0<=(s:Int) then (mD Q)[(i:Int).toNat]?.bind fun ds=>(ds[(s:Int).toNat]?.bind asI).map fun y1=>[a,b,c,.oo ((mD Q).set (i:Int).toNat (ds.set (s:Int).toNat (.int (g y1 v)))),x,y,z] else none)=_;rw [if_pos ⟨by omega,by omega⟩,Yt,Yt,e1];show ((((Q.getD i []).map D.int)[s]?).bind asI).map _=_;rw [e2];rfl
 unfold jcl;rw [e0];show Res.next [a,b,c,.oo ((mD Q).set i ‹"aB"›),x,y,z]=_;have e3:(mD Q).set i ‹"aB"›=mD (jh5 Q i s (g (j5 Q i s) v)):=by unfold mD jh5;rw [List.map_set,List.map_set]
 rw [e3]
theorem jfM {ρ:L2.Env} {m:D->L2.Env->Option L2.Env} {fe:L2.Env->Option (List D)}:∀(P:List (List Int)),(∀r,r∈P->∃ρ1,m (jh r) ρ=some ρ1/\fe ρ1=some (r.map D.int))->jbK m ‹"l"› fe ρ (P.map jh)=some (mD P)
 | [],_=>rfl
 | r::P,h=>by obtain ⟨ρ1,h1,h2⟩:=h r Ye;rw [List.map_cons];simp only [jbK,h1,Yf,yq,h2,jfM P fun x hx=>h x (Yg _ hx),Yl];rfl
theorem jfQ {n m:Nat} {part:List (List Int)} (hp:Shape n m part) (hn:n<1000) {p:List ‹"I"›} (hw:∀q∈p,q.1<n/\q.2.2<m/\∀o,q.2.1=some o->o<m) (v:Int) :
 ∃d,(∃Q,d=.lst (Q.map jh)/\Shape n m Q/\∀i s,j5 Q i s=j5 part i s+v*(inc p i s-dec p i s))/\jaW [.lst (part.map jh),.lst (p.map ql),.int v]=some d:=by
 unfold jaW;refine Qp (ρ:=[.sh ‹"k"›,.sh ‹"ap"›,.sh (.int v),.un,.un,.un,.un]) _ rfl rfl fun C fin=>?_;unfold jcW;refine jK [.sh ‹"k"›,.sh ‹"ap"›,.sh (.int v),.oo (mD part),.un,.un,.un] ?_ ?_
 . have e:jlv (jY (ja 0)) (jz 0) ‹"l"› (ji jd7 (jc (ja 0) jj)) 1 [] [.sh ‹"k"›,.sh ‹"ap"›,.sh (.int v),.un,.un,.un,.un]=some (mD part):=by unfold jlv;rw [qk rfl,Yf,if_pos (jV (by rw [Yd,hp.1];omega))];exact jfM part fun r hr=>⟨_,rfl,rfl⟩
   unfold jcq;rw [e];rfl
 refine jor ql p (fun pre ρ=>∃(Q:List (List Int)) (x y z:Slot),ρ=[.sh ‹"k"›,.sh ‹"ap"›,.sh (.int v),.oo (mD Q),x,y,z]/\Shape n m Q/\∀i s,j5 Q i s=j5 part i s+v*(inc pre i s-dec pre i s)) (qk rfl) ⟨part,_,_,_,rfl,hp,fun i s=>by show _=_+v*(0-0);omega⟩ ?_ ?_
 . rintro pre q rest ρ hl ⟨Q,x,y,z,rfl,hQ,hat⟩;obtain ⟨q1,q2,q3⟩:=hw q (by rw [hl];simp);obtain ⟨i,off,s⟩:=q;dsimp only at q1 q2 q3;cases off with
   | none=>
     refine ⟨[.sh ‹"k"›,.sh ‹"ap"›,.sh (.int v),.oo (mD Q),.sh (.int i),.sh .non,.sh (.int s)],_,rfl,(qJ (JS (qh rfl))).trans (jeN hQ q1 q2 rfl rfl rfl),_,_,_,_,rfl,hQ.put q1 _ _,fun i' s'=>?_⟩;rw [jfj hQ q1 q2,ZC,ZK,hat i' s',hat i s];by_cases c:i'=i/\s'=s
     . obtain ⟨rfl,rfl⟩:=c;rw [if_pos ⟨rfl,rfl⟩];simp only [ind,and_self,yq,reduceCtorEq,and_false,yu];rw [show inc pre i' s' + 1-(dec pre i' s' + 0)=inc pre i' s' - dec pre i' s' + 1 by omega,Int.mul_add];omega
     . rw [if_neg c];have c1:¬(i=i'/\s=s'):=fun z=>c ⟨z.1.symm,z.2.symm⟩;simp only [ind,c1,reduceCtorEq,and_false,yu];rw [show inc pre i' s' + 0-(dec pre i' s' + 0)=inc pre i' s' - dec pre i' s' by omega]
   | some o=>
     have ho:=q3 o rfl;refine ⟨[.sh ‹"k"›,.sh ‹"ap"›,.sh (.int v),.oo (mD Q),.sh (.int i),.sh (.int o),.sh (.int s)],_,rfl,(qJ ((jag (qh rfl)).trans (jeN hQ q1 ho rfl rfl rfl))).trans (jeN (hQ.put q1 _ _) q1 q2 rfl rfl rfl),_,_,_,_,rfl,(hQ.put q1 _ _).put q1 _ _,fun i' s'=>?_⟩;rw [jfj (hQ.put q1 _ _) q1 q2,jfj hQ q1 ho,jfj hQ q1 ho,ZC,ZK,hat i' s',hat i o,hat i s];generalize hA:inc pre i' s'=A;generalize hB:dec pre i' s'=B;by_cases c:i'=i/\s'=s
     . obtain ⟨rfl,rfl⟩:=c;rw [if_pos ⟨rfl,rfl⟩];by_cases c2:s'=o
       . subst c2;rw [if_pos ⟨rfl,rfl⟩,hA,hB];simp only [ind,and_self,yq];rw [show A+1-(B+1)=A-B by omega];omega
       . have c3:¬(i'=i'/\s'=o):=fun z=>c2 z.2;have c4:¬(i'=i'/\some o=some s'):=fun z=>c2 (Option.some.inj z.2).symm;rw [if_neg c3,hA,hB];rw [Jo ⟨rfl,rfl⟩,zL c4];rw [show A+1-(B+0)=A-B+1 by omega,Int.mul_add];omega
     . rw [if_neg c];have c1:¬(i=i'/\s=s'):=fun z=>c ⟨z.1.symm,z.2.symm⟩;by_cases c2:i'=i/\s'=o
       . obtain ⟨rfl,rfl⟩:=c2;rw [if_pos ⟨rfl,rfl⟩,hA,hB];rw [zL c1,Jo ⟨rfl,rfl⟩];rw [show A+0-(B+1)=A-B-1 by omega,Int.mul_sub v (A-B) 1];omega
       . have c4:¬(i=i'/\some o=some s'):=fun z=>c2 ⟨z.1.symm,(Option.some.inj z.2).symm⟩;rw [if_neg c2];simp only [ind,c1,c4,yu];rw [show A+0-(B+0)=A-B by omega]
 . rintro ρ ⟨Q,x,y,z,rfl,hQ,hat⟩;have e:jhZ 3 (ze (jq 3)) [.sh ‹"k"›,.sh ‹"ap"›,.sh (.int v),.oo (mD Q),x,y,z]=.ret (.lst (Q.map jh)):=by show Res.ret (.lst ((mD Q).map D.lst))=_;unfold mD;rw [YG];rfl
   rw [e];exact fin _ ⟨Q,rfl,hQ,hat⟩
theorem jnd {L:List Int} (h:L≠[]):∃v,v∈L/\(∀a∈L,v<=a)/\jgt [.lst (L.map D.int)]=some (.int v):=by
 cases e:jgk L with
 | none=>exact absurd (jfw e) h
 | some v=>obtain ⟨h1,h2⟩:=jeK e;refine ⟨v,h1,h2,?_⟩;show ((Ql (L.map D.int)).bind fun ns=>(jgk ns).map D.int)=_;rw [Js,Yf,e];rfl
theorem jcN {L:List Int} {x:Int} {fe:L2.Env->Option D} {a b c d e g h k:Slot} (hl:L.length<4000) (hf:fe [a,b,c,d,e,.ow (L.map D.int),g,h,k]=some (.int x)):JD 5 fe [a,b,c,d,e,.ow (L.map D.int),g,h,k]=.next [a,b,c,d,e,.ow ((L++[x]).map D.int),g,h,k]:=by unfold JD;rw [hf];show (if zI (L.map D.int).length=true then Res.next _ else Res.fail)=_;rw [if_pos (jV (by rw [Yd];omega)),Y0];rfl
theorem jg8 {n m:Nat} {needs:List Int} {rooms part:List (List Int)} (hd:needs.length=n) (hr:Shape n m rooms) (hp:Shape n m part) {i0:Nat} {o0:Option Nat} {s0:Nat} {rest:List ‹"I"›}
 (hw:∀q∈(i0,o0,s0)::rest,q.1<n/\q.2.2<m/\∀o,q.2.1=some o->o<m) (hlen:rest.length<1000) :
 ∃d,(∃v,d=.int v/\v<=needs.getD i0 0-zB part i0/\(∀q∈(i0,o0,s0)::rest,v<=j5 rooms q.1 q.2.2-j5 part q.1 q.2.2/\∀o,q.2.1=some o->v<=j5 part q.1 o) /\
   (0<needs.getD i0 0-zB part i0->(∀q∈(i0,o0,s0)::rest,0<j5 rooms q.1 q.2.2-j5 part q.1 q.2.2/\∀o,q.2.1=some o->0<j5 part q.1 o)->0<v)) /\
   J0 [.lst (needs.map D.int),.lst (rooms.map jh),.lst (part.map jh),.lst (((i0,o0,s0)::rest).map ql)]=some d:=by
 have hi0:i0<n:=(hw _ Ye).1;unfold J0;refine Qp (ρ:=[.sh ‹"f"›,.sh ‹"b"›,.sh ‹"k"›,.sh (.lst (((i0,o0,s0)::rest).map ql)),.un,.un,.un,.un,.un]) _ rfl rfl fun C fin=>?_;unfold Ze;generalize hp0:(i0,o0,s0)::rest=p at *
 have e0:jO ‹"ap"› (.int 0)=some (ql (i0,o0,s0)):=by rw [<-hp0];exact jkP
 refine jK ‹"bl"› (j4 (jw (jw rfl rfl e0) rfl QF)) ?_;have e1:jk zD ‹"aw"› (ji JB (jc (jk jO (ja 2) (ja 4)) jj)) ‹"bl"›=some (.int (needs.getD i0 0-zB part i0)):=jw (jw rfl rfl (JR (by omega))) (jA (js (jw rfl rfl (Za hp hi0)) rfl) sum_ints) rfl
 refine jK [.sh ‹"f"›,.sh ‹"b"›,.sh ‹"k"›,.sh ‹"ap"›,.sh (.int i0),.ow ([needs.getD i0 0-zB part i0].map D.int),.un,.un,.un] ?_ ?_
 . unfold Jm zV;rw [js e1 rfl];rfl
 refine jor ql p (fun pre ρ=>∃(L:List Int) (x y z:Slot),ρ=[.sh ‹"f"›,.sh ‹"b"›,.sh ‹"k"›,.sh ‹"ap"›,.sh (.int i0),.ow (L.map D.int),x,y,z]/\L.length<=1+2*pre.length/\needs.getD i0 0-zB part i0∈L /\
  (∀q∈pre,j5 rooms q.1 q.2.2-j5 part q.1 q.2.2∈L/\∀o,q.2.1=some o->j5 part q.1 o∈L) /\
  (0<needs.getD i0 0-zB part i0->(∀q∈p,0<j5 rooms q.1 q.2.2-j5 part q.1 q.2.2/\∀o,q.2.1=some o->0<j5 part q.1 o)->∀x∈L,0<x)) (qk rfl)
  ⟨[needs.getD i0 0-zB part i0],_,_,_,rfl,by simp,by simp,fun q hq=>absurd hq YD,fun h _ x hx=>by rw [Yu.mp hx];exact h⟩ ?_ ?_
 . rintro pre q rest2 ρ hl ⟨L,x,y,z,rfl,hLl,hL0,hL1,hL2⟩;have hqm:q∈p:=by rw [hl];simp
   obtain ⟨q1,q2,q3⟩:=hw q hqm;obtain ⟨i,off,s⟩:=q;dsimp only at q1 q2 q3;have hpl:pre.length<1001:=by
    have:p.length=pre.length+(rest2.length+1):=by rw [hl];simp
    have:p.length=rest.length+1:=by rw [<-hp0];simp
    omega
   cases off with
   | none=>
     refine ⟨[.sh ‹"f"›,.sh ‹"b"›,.sh ‹"k"›,.sh ‹"ap"›,.sh (.int i0),.ow (L.map D.int),.sh (.int i),.sh .non,.sh (.int s)],_,rfl,
       (qJ (jcN (x:=j5 rooms i s-j5 part i s) (by omega) (jw (jw (jw rfl rfl (Za hr q1)) rfl (Zb hr q1 q2)) (jw (jw rfl rfl (Za hp q1)) rfl (Zb hp q1 q2)) rfl))).trans (JS (qh rfl)),_,_,_,_,rfl,?_,YE _ hL0,fun q hq=>?_,fun h1 h2 x hx=>?_⟩
     . simp;omega
     . rcases YZ.mp hq with hq | hq
       . exact ⟨YE _ (hL1 q hq).1,fun o ho=>YE _ ((hL1 q hq).2 o ho)⟩
       . rw [Yu.mp hq];exact ⟨by simp,fun o ho=>by cases ho⟩
     . rcases YZ.mp hx with hx | hx
       . exact hL2 h1 h2 x hx
       . rw [Yu.mp hx];exact (h2 _ hqm).1
   | some o=>
     have ho:=q3 o rfl;refine ⟨[.sh ‹"f"›,.sh ‹"b"›,.sh ‹"k"›,.sh ‹"ap"›,.sh (.int i0),.ow (L.map D.int),.sh (.int i),.sh (.int o),.sh (.int s)],_,rfl,
       (qJ (jcN (x:=j5 rooms i s-j5 part i s) (by omega) (jw (jw (jw rfl rfl (Za hr q1)) rfl (Zb hr q1 q2)) (jw (jw rfl rfl (Za hp q1)) rfl (Zb hp q1 q2)) rfl))).trans ((jag (qh rfl)).trans (jcN (x:=j5 part i o) (by simp;omega) (jw (jw rfl rfl (Za hp q1)) rfl (Zb hp q1 ho)))),_,_,_,_,rfl,?_,YE _ (YE _ hL0),fun q hq=>?_,fun h1 h2 x hx=>?_⟩
     . simp;omega
     . rcases YZ.mp hq with hq | hq
       . exact ⟨YE _ (YE _ (hL1 q hq).1),fun o ho=>YE _ (YE _ ((hL1 q hq).2 o ho))⟩
       . rw [Yu.mp hq];exact ⟨by simp,fun o' ho'=>by cases ho';simp⟩
     . rcases YZ.mp hx with hx | hx
       . rcases YZ.mp hx with hx | hx
         . exact hL2 h1 h2 x hx
         . rw [Yu.mp hx];exact (h2 _ hqm).1
       . rw [Yu.mp hx];exact (h2 _ hqm).2 o rfl
 . rintro ρ ⟨L,x,y,z,rfl,hLl,hL0,hL1,hL2⟩;obtain ⟨v,hv1,hv2,ev⟩:=jnd (L:=L) fun z=>by rw [z] at hL0;exact absurd hL0 YD
   rw [Zv (jA (js rfl rfl) ev)];exact fin _ ⟨v,rfl,hv2 _ hL0,fun q hq=>⟨hv2 _ (hL1 q hq).1,fun o ho=>hv2 _ ((hL1 q hq).2 o ho)⟩,fun h1 h2=>hL2 h1 h2 v hv1⟩
theorem jc9 {n a:Nat} (c:Int):jr (fun j=>if a=j then c else 0) n=if a<n then c else 0:=by
 induction n with
 | zero=>simp [jr]
 | succ n ih=>
   show jr _ n+(if a=n then c else 0)=_;rw [ih];by_cases h:a<n
   . rw [if_pos h,if_neg (by omega),if_pos (by omega)];omega
   . by_cases h2:a=n
     . rw [if_neg h,if_pos h2,if_pos (by omega)];omega
     . rw [if_neg h,if_neg h2,if_neg (by omega)];omega
theorem jaY {n a:Nat} (h:a<n) (P:Prop) [Decidable P]:jr (fun i=>ind (a=i/\P)) n=ind P:=by
 rw [jg (g:=fun i=>if a=i then ind P else 0),jc9,if_pos h];intro i _;by_cases z:a=i
 . rw [if_pos z];by_cases q:P
   . rw [Jo q,Jo ⟨z,q⟩]
   . rw [zL q,zL fun w=>q w.2]
 . rw [if_neg z,zL fun w=>z w.1]
theorem jcK {m b:Nat} (h:b<m) (P:Prop) [Decidable P]:jr (fun s=>ind (P/\b=s)) m=ind P:=by
 rw [jg (g:=fun s=>if b=s then ind P else 0),jc9,if_pos h];intro s _;by_cases z:b=s
 . rw [if_pos z];by_cases q:P
   . rw [Jo q,Jo ⟨q,z⟩]
   . rw [zL q,zL fun w=>q w.1]
 . rw [if_neg z,zL fun w=>z w.2]
theorem jgv {p:List ‹"I"›} {i s:Nat} (h:∀q∈p,¬(q.1=i/\q.2.2=s)):inc p i s=0:=by
 induction p with
 | nil=>rfl
 | cons q p ih=>
   have e:inc (q::p) i s=ind (q.1=i/\q.2.2=s)+inc p i s:=by unfold inc;rw [List.map_cons,List.sum_cons]
   rw [e,zL (h q Ye),ih fun x hx=>h x (Yg _ hx)];rfl
theorem ZD {p:List ‹"I"›} {i s:Nat} (h:∀q∈p,¬(q.1=i/\q.2.1=some s)):dec p i s=0:=by
 induction p with
 | nil=>rfl
 | cons q p ih=>
   have e:dec (q::p) i s=ind (q.1=i/\q.2.1=some s)+dec p i s:=by unfold dec;rw [List.map_cons,List.sum_cons]
   rw [e,zL (h q Ye),ih fun x hx=>h x (Yg _ hx)];rfl
theorem jqp (P:Prop) [Decidable P]:0<=ind P/\ind P<=1:=by unfold ind;split <;> omega
theorem QH {ks:List Nat} (nd:ks.Nodup) {a b s:Nat} (h1:ks[a]?=some s) (h2:ks[b]?=some s):a=b:=by
 obtain ⟨ha,ea⟩:=Ym.mp h1;obtain ⟨hb,eb⟩:=Ym.mp h2;have key:=Kf.mp nd;rcases Nat.lt_trichotomy a b with q | q | q
 . exact absurd (ea.trans eb.symm) (key a b ha hb q)
 . exact q
 . exact absurd (eb.trans ea.symm) (key b a hb ha q)
structure PathOk (rooms part:List (List Int)) (n m:Nat) (ks:List Nat) (j s:Nat) (p:List (Nat×Option Nat×Nat)) (row:Nat->Int) (col:Nat->Int):Prop where
 ok:∀q∈p,q.1<n/\q.2.2<m/\(∀o,q.2.1=some o->o<m)/\j5 part q.1 q.2.2<j5 rooms q.1 q.2.2/\∀o,q.2.1=some o->0<j5 part q.1 o
 on:∀q∈p,∃a,a<=j/\ks[a]?=some q.2.2
 off:∀q∈p,∀o,q.2.1=some o->∃a,a<j/\ks[a]?=some o
 len:p.length<=j+1
 inc1:∀i t,0<=inc p i t/\inc p i t<=1
 dec1:∀i t,0<=dec p i t/\dec p i t<=1
 cols:∀t,t<m->jr (fun i=>inc p i t-dec p i t) n=ind (s=t)-col t
 rows:∀i,i<n->jr (fun t=>inc p i t-dec p i t) m=row i
theorem PathOk.step {rooms part:List (List Int)} {n m:Nat} {ks:List Nat} (nd:ks.Nodup) {j j' s i o:Nat} {p:List ‹"I"›} {row col:Nat->Int} (h:PathOk rooms part n m ks j' o p row col) (hj:j'<j) (ho:ks[j']?=some o) (hs:ks[j]?=some s) (hom:o<m) (hsm:s<m) (hi:i<n) (hmv:Mv rooms part o s i) :
 PathOk rooms part n m ks j s (p++[(i,some o,s)]) row col:=by
 refine ⟨fun q hq=>?_,fun q hq=>?_,fun q hq x hx=>?_,?_,fun i' t=>?_,fun i' t=>?_,fun t ht=>?_,fun i' hi'=>?_⟩
 . rcases YZ.mp hq with hq | hq
   . exact h.ok q hq
   . rw [Yu.mp hq];exact ⟨hi,hsm,fun x hx=>by cases hx;exact hom,hmv.2,fun x hx=>by cases hx;exact hmv.1⟩
 . rcases YZ.mp hq with hq | hq
   . obtain ⟨a,h1,h2⟩:=h.on q hq;exact ⟨a,by omega,h2⟩
   . rw [Yu.mp hq];exact ⟨j,Yq _,hs⟩
 . rcases YZ.mp hq with hq | hq
   . obtain ⟨a,h1,h2⟩:=h.off q hq x hx;exact ⟨a,by omega,h2⟩
   . rw [Yu.mp hq] at hx;cases hx;exact ⟨j',hj,ho⟩
 . have:=h.len;simp;omega
 . rw [ZC];have h1:=h.inc1 i' t;by_cases c:i=i'/\s=t
   . have z:inc p i' t=0:=jgv fun q hq w=>by obtain ⟨a,a1,a2⟩:=h.on q hq;rw [w.2,<- c.2] at a2;have:=QH nd a2 hs;omega
     rw [z,Jo (show (i,some o,s).1=i'/\(i,some o,s).2.2=t from c)];omega
   . rw [zL (show ¬((i,some o,s).1=i'/\(i,some o,s).2.2=t) from c)];omega
 . rw [ZK];have h1:=h.dec1 i' t;by_cases c:i=i'/\some o=some t
   . have z:dec p i' t=0:=ZD fun q hq w=>by obtain ⟨a,a1,a2⟩:=h.off q hq t w.2;rw [<-Option.some.inj c.2] at a2;have:=QH nd a2 ho;omega
     rw [z,Jo (show (i,some o,s).1=i'/\(i,some o,s).2.1=some t from c)];omega
   . rw [zL (show ¬((i,some o,s).1=i'/\(i,some o,s).2.1=some t) from c)];omega
 . rw [jg (g:=fun i'=>(inc p i' t-dec p i' t)+(ind (i=i'/\s=t)-ind (i=i'/\o=t))),qR,JI (f:=fun i'=>ind (i=i'/\s=t)) (g:=fun i'=>ind (i=i'/\o=t)),jaY hi,jaY hi,h.cols t ht]
   . omega
   . intro i' _;rw [ZC,ZK];have e1:ind ((i,some o,s).1=i'/\(i,some o,s).2.2=t)=ind (i=i'/\s=t):=rfl;have e2:ind ((i,some o,s).1=i'/\(i,some o,s).2.1=some t)=ind (i=i'/\o=t):=by
       by_cases c:i=i'/\o=t
       . rw [Jo c,Jo (show (i,some o,s).1=i'/\(i,some o,s).2.1=some t from ⟨c.1,congrArg some c.2⟩)]
       . rw [zL c,zL fun w=>c ⟨w.1,Option.some.inj w.2⟩]
     rw [e1,e2];omega
 . rw [jg (g:=fun t=>(inc p i' t-dec p i' t)+(ind (i=i'/\s=t)-ind (i=i'/\o=t))),qR,JI (f:=fun t=>ind (i=i'/\s=t)) (g:=fun t=>ind (i=i'/\o=t)),jcK hsm,jcK hom,h.rows i' hi']
   . omega
   . intro t _;rw [ZC,ZK];have e1:ind ((i,some o,s).1=i'/\(i,some o,s).2.2=t)=ind (i=i'/\s=t):=rfl;have e2:ind ((i,some o,s).1=i'/\(i,some o,s).2.1=some t)=ind (i=i'/\o=t):=by
       by_cases c:i=i'/\o=t
       . rw [Jo c,Jo (show (i,some o,s).1=i'/\(i,some o,s).2.1=some t from ⟨c.1,congrArg some c.2⟩)]
       . rw [zL c,zL fun w=>c ⟨w.1,Option.some.inj w.2⟩]
     rw [e1,e2];omega
theorem jnh {n m:Nat} {needs:List Int} {rooms part:List (List Int)} {ks:List Nat} {ds:List D} (R:Rch rooms part n m (Bp needs rooms part n) ks ds) {j:Nat} {p:List ‹"I"›} (h:Path ks ds j p) :
 ∀s,ks[j]?=some s->∃i0 s0 rest,p=(i0,none,s0)::rest/\i0<n/\zB part i0<needs.getD i0 0/\PathOk rooms part n m ks j s p (fun i=>ind (i0=i)) (fun _=>0):=by
 induction h with
 | @p j s i h1 h2=>
   intro s' hs';rw [h1] at hs';cases hs';have hsm:=R.lt s (YB h1);rcases R.val j s _ h1 h2 with ⟨i',hi,e,b1,b2⟩ | ⟨i',o,j',_,_,_,e,_⟩
   . have:i=i':=by injection e with e;injection e with e;injection e with e;omega
     subst this;refine ⟨i,s,[],rfl,hi,b1,fun q hq=>?_,fun q hq=>?_,fun q hq o ho=>?_,by simp,fun i' t=>?_,fun i' t=>?_,fun t ht=>?_,fun i' hi'=>?_⟩
     . rw [Yu.mp hq];exact ⟨hi,hsm,fun o ho=>(by cases ho),b2,fun o ho=>(by cases ho)⟩
     . rw [Yu.mp hq];exact ⟨j,Yq _,h1⟩
     . rw [Yu.mp hq] at ho;cases ho
     . have e:inc [(i,none,s)] i' t=ind (i=i'/\s=t):=by unfold inc;simp
       rw [e];exact jqp _
     . have e:dec [(i,none,s)] i' t=0:=ZD fun q hq w=>by rw [Yu.mp hq] at w;cases w.2
       rw [e];omega
     . rw [jg (g:=fun i'=>ind (i=i'/\s=t)),jaY hi]
       . omega
       . intro i' _;have e:inc [(i,none,s)] i' t=ind (i=i'/\s=t):=by unfold inc;simp
         have e':dec [(i,none,s)] i' t=0:=ZD fun q hq w=>by rw [Yu.mp hq] at w;cases w.2
         rw [e,e'];omega
     . rw [jg (g:=fun t=>ind (i=i'/\s=t)),jcK hsm];intro t _;have e:inc [(i,none,s)] i' t=ind (i=i'/\s=t):=by unfold inc;simp
       have e':dec [(i,none,s)] i' t=0:=ZD fun q hq w=>by rw [Yu.mp hq] at w;cases w.2
       rw [e,e'];omega
   . injection e with e;injection e with _ e;injection e with e;cases e
 | @c j h1=>intro s hs;rcases R.val j s _ hs h1 with ⟨i',hi,e,_⟩ | ⟨i',o,j',_,_,_,e,_⟩ <;> cases e
 | @s j j' s i o p h0 hj ho h1 h2 ih=>
   intro s' hs';rw [h1] at hs';cases hs';obtain ⟨i0,s0,rest,rfl,hi0,hb,ok⟩:=ih o ho;rcases R.val j s _ h1 h2 with ⟨i',hi,e,_⟩ | ⟨i',o',j'',_,_,hi',e,hmv⟩
   . injection e with e;injection e with _ e;injection e with e;cases e
   . have e1:i=i'/\o=o':=by injection e with e;injection e with a e;injection e with b e;injection a with a;injection b with b;exact ⟨by omega,by omega⟩
     obtain ⟨rfl,rfl⟩:=e1;exact ⟨i0,s0,rest++[(i,some o,s)],rfl,hi0,hb,ok.step R.nd hj ho h1 (R.lt o (YB ho)) (R.lt s (YB h1)) hi' hmv⟩
structure Feas (n m:Nat) (needs:List Int) (rooms:List (List Int)) (tops:List Int) (P:List (List Int)):Prop where
 sh:Shape n m P
 cell:∀i s,i<n->s<m->0<=j5 P i s/\j5 P i s<=j5 rooms i s
 row:∀i,i<n->zB P i<=needs.getD i 0
 col:∀s,s<m->jS P s<=tops.getD s 0
theorem jsg {v a b:Int} (ha:0<=a/\a<=1) (hb:0<=b/\b<=1):(v*(a-b)=0)\/(v*(a-b)=v/\a=1)\/(v*(a-b) = -v/\b=1):=by
 have h1:a=0\/a=1:=by omega
 have h2:b=0\/b=1:=by omega
 rcases h1 with rfl | rfl <;> rcases h2 with rfl | rfl
 . left;simp
 . right;right;simp
 . right;left;simp
 . left;simp
theorem jm7 {p:List ‹"I"›} {i s:Nat} (h:inc p i s=1):∃q,q∈p/\q.1=i/\q.2.2=s:=Classical.byContradiction fun c=>by rw [jgv fun q hq w=>c ⟨q,hq,w⟩] at h;omega
theorem jnI {p:List ‹"I"›} {i s:Nat} (h:dec p i s=1):∃q,q∈p/\q.1=i/\q.2.1=some s:=Classical.byContradiction fun c=>by rw [ZD fun q hq w=>c ⟨q,hq,w⟩] at h;omega
theorem Feas.turn {n m:Nat} {needs:List Int} {rooms:List (List Int)} {tops:List Int} {P Q:List (List Int)} (h:Feas n m needs rooms tops P) (hQ:Shape n m Q) {ks:List Nat} {j s:Nat} {p:List ‹"I"›} {i0:Nat} (ok:PathOk rooms P n m ks j s p (fun i=>ind (i0=i)) (fun _=>0)) {v:Int} (hi0:i0<n) (hs:s<m)
 (hat:∀i t,j5 Q i t=j5 P i t+v*(inc p i t-dec p i t)) (v0:0<v) (v1:v<=needs.getD i0 0-zB P i0) (v2:∀q∈p,v<=j5 rooms q.1 q.2.2-j5 P q.1 q.2.2/\∀o,q.2.1=some o->v<=j5 P q.1 o) (v3:v<=tops.getD s 0-jS P s) :
 Feas n m needs rooms tops Q/\(∀t,t<m->jS P t<=jS Q t)/\qZ Q n=qZ P n+v:=by
 have hrow:∀i,i<n->zB Q i=zB P i+v*ind (i0=i):=fun i hi=>by rw [Je hQ hi,Je h.sh hi,<- ok.rows i hi,<- zm,<- qR];exact jg fun t _=>hat i t
 have hcol:∀t,t<m->jS Q t=jS P t+v*ind (s=t):=fun t ht=>by have e:=ok.cols t ht;rw [kG] at e;rw [Jy hQ,Jy h.sh,<- e,<- zm,<- qR];exact jg fun i _=>hat i t
 refine ⟨⟨hQ,fun i t hi ht=>?_,fun i hi=>?_,fun t ht=>?_⟩,fun t ht=>?_,?_⟩
 . have h1:=h.cell i t hi ht;rw [hat i t];rcases jsg (v:=v) (ok.inc1 i t) (ok.dec1 i t) with e | ⟨e,e1⟩ | ⟨e,e1⟩
   . rw [e];omega
   . rw [e];obtain ⟨q,hq,rfl,rfl⟩:=jm7 e1;have:=(v2 q hq).1;omega
   . rw [e];obtain ⟨q,hq,rfl,ho⟩:=jnI e1;have:=(v2 q hq).2 t ho;omega
 . rw [hrow i hi];by_cases z:i0=i
   . rw [Jo z,<- z];omega
   . rw [zL z];have:=h.row i hi;omega
 . rw [hcol t ht];by_cases z:s=t
   . rw [Jo z,<- z];omega
   . rw [zL z];have:=h.col t ht;omega
 . rw [hcol t ht];by_cases z:s=t
   . rw [Jo z];omega
   . rw [zL z];omega
 . unfold qZ;rw [jg (g:=fun i=>zB P i+v*ind (i0=i)) fun i hi=>hrow i hi,qR,zm];have e:jr (fun i=>ind (i0=i)) n=1:=by
    rw [jg (g:=fun i=>ind (i0=i/\True)),jaY hi0,Jo trivial];intro i _;by_cases z:i0=i
    . rw [Jo z,Jo ⟨z,trivial⟩]
    . rw [zL z,zL fun w=>z w.1]
   rw [e];omega
structure Fill (n m:Nat) (needs:List Int) (rooms:List (List Int)) (tops:List Int) (P0 P:List (List Int)) (marks:List Bool):Prop where
 feas:Feas n m needs rooms tops P
 mono:∀s,s<m->jS P0 s<=jS P s
 len:marks.length=m
 short:∀i s,i<n->s<m->zB P i<needs.getD i 0->j5 P i s<j5 rooms i s->marks.getD s false=true
 clo:∀s,s<m->marks.getD s false=true->∀t,t<m->∀i,i<n->Mv rooms P s t i->marks.getD t false=true
 full:∀s,s<m->marks.getD s false=true->jS P s=tops.getD s 0
theorem jkB {n m:Nat} {P:List (List Int)} (h:Shape n m P):(P.map List.sum).sum=qZ P n:=by rw [jaI List.sum [],h.1];rfl
theorem jgD {n m:Nat} {P:List (List Int)} (h:Shape n m P) {j:Nat} (hj:j<m):∀r∈P,j<r.length:=fun r hr=>by rw [h.2 r hr];exact hj
theorem jnB {n m:Nat} {P:List (List Int)} (h:Shape n m P) (hn:n<1000) {a b c e f g x y:Slot}:JV (jY (ja 3)) (jz 0) ‹"l"› (ji JB (jc (ja 0) jj)) 1 [] [a,b,c,.sh ‹"r"›,e,f,g,x,y]=some ((P.map List.sum).map D.int):=by refine qv (qk rfl) (by rw [Yd,h.1];omega) ?_;rw [Jn jh (fun r:List Int=>D.int r.sum) P fun r hr=>⟨_,rfl,rfl,jA rfl sum_ints⟩,YG];rfl
theorem jnT {n m:Nat} {P:List (List Int)} {tops:List Int} (h:Shape n m P) (hn:n<1000) (hm:m<1000) (ht:tops.length=m) {ks:List Nat} {ds:List D} (hk:∀s∈ks,s<m) (hl:ks.length<1000) {a b f g x y:Slot} :
 JV (jet (jq 4)) (jz 0) (qV (jk dLt (ji Zn (jc (jq 1) (jc (jq 0) jj))) (jk jO (ja 2) (ja 0)))) (jq 0) 1 [3,2] [a,b,.sh ‹"J"›,.sh ‹"r"›,.sh ‹"S"›,f,g,x,y] =
  some (nI (ks.filter fun s=>decide (jS P s<tops.getD s 0))):=by
 have e:jet (jq 4) [a,b,.sh ‹"J"›,.sh ‹"r"›,.sh ‹"S"›,f,g,x,y]=some (nI ks):=by show some ((kI ks).map D.int)=_;rw [jrO]
 refine qv e (by unfold nI;rw [Yd];omega) ?_;unfold nI;refine jmU (fun k:Nat=>D.int (k:Int)) (fun k:Nat=>D.int (k:Int)) (fun s=>decide (jS P s<tops.getD s 0)) ks fun s hs=>?_;have hsm:=hk s hs;exact ⟨_,rfl,qh (jw (jA rfl (jaB (jgD h hsm) (by rw [h.1];exact hn))) (jw rfl rfl (JR (by omega))) Zd),rfl⟩
theorem jkR {m:Nat} {tops:List Int} (ht:tops.length=m) (hm:m<1000) {ks:List Nat} {ds:List D} (nd:ks.Nodup) (hl:ks.length=ds.length) {a b c f g x y:Slot} :
 JV ‹"3"› (jz 0) ‹"l"› (jk (jaD false) (ja 0) (ja 1)) 1 [4] [a,b,.sh ‹"J"›,c,.sh ‹"S"›,f,g,x,y]=some (((List.range m).map fun s=>decide (s∈ks)).map D.bl):=by
 refine qv (ds:=(List.range m).map fun j:Nat=>D.int (j:Int)) ?_ (by simp;omega) ?_
 . rw [Qu (j:=(m:Int)) (js (jA rfl ?_) rfl) (by omega) (by omega),Yt,je3];show some (D.int ((tops.map D.int).length:Int))=_;rw [Yd,ht]
 . rw [Jn (fun j:Nat=>D.int (j:Int)) (fun s=>D.bl (decide (s∈ks))) (List.range m) fun s _=>⟨_,rfl,rfl,jw rfl rfl ?_⟩,YG]
   . rfl
   . rw [jhx nd hl];simp
theorem jhI {s:Nat} {r:List Nat}:jO (.lst (nI (s::r))) (.int 0)=some (.int s):=jkP
theorem jbV {n m:Nat} {needs:List Int} {rooms:List (List Int)} {tops:List Int} {P0:List (List Int)} (hd:needs.length=n) (hr:Shape n m rooms) (ht:tops.length=m) (F0:Feas n m needs rooms tops P0) (hn:n<1000) (hm:m<1000) :
 ∃d,‹"aq"›/\ZY [.lst (needs.map D.int),.lst (rooms.map jh),.lst (tops.map D.int),.lst (P0.map jh)]=some d:=by
 unfold ZY;refine Qp (ρ:=[.sh ‹"f"›,.sh ‹"b"›,.sh ‹"J"›,.sh (.lst (P0.map jh)),.un,.un,.un,.un,.un]) _ rfl rfl fun C fin=>?_;unfold jcz
 suffices key:∃r,Qb (qV (eC (.bl true))) _ _=r/\∃d,r=.ret d/\∃P marks,d=.tup [.int (qZ P n),.lst (P.map jh),.lst (marks.map D.bl)]/\Fill n m needs rooms tops P0 P marks by obtain ⟨r,e,d,rfl,h⟩:=key;rw [e];exact fin d h
 refine jdr (fun k ρ=>∃(P:List (List Int)) (x4 x5 x6 x7 x8:Slot),ρ=‹"ba"›/\Feas n m needs rooms tops P/\(∀s,s<m->jS P0 s<=jS P s)/\k=(jr ‹"m"› n-qZ P n).toNat) _ ⟨P0,_,_,_,_,_,rfl,F0,fun s _=>yk _,rfl⟩ ?_;rintro k ρ ⟨P,x4,x5,x6,x7,x8,rfl,F,mono,rfl⟩;refine .inr ⟨rfl,?_⟩;obtain ⟨d1,⟨ks1,ds1,rfl,R1,all1⟩,e1⟩:=jgl hd hr F.sh hm;have hn0:ks1≠[]->0<n:=fun h=>by
  cases ks1 with
  | nil=>exact absurd rfl h
  | cons s ks1=>
    have hl1:=R1.len;cases ds1 with
    | nil=>simp at hl1
    | cons d ds1=>
      rcases R1.val 0 s d rfl rfl with ⟨i,hi,_⟩ | ⟨i,o,j',hj,_⟩
      . omega
      . omega
 obtain ⟨d2,⟨ks,ds,rfl,R,⟨ex,hex⟩,hclo⟩,e2⟩:=jhJ hr F.sh hm R1 hn0;have hkl:ks.length<1000:=yN (Jb m ks R.nd R.lt) hm
 suffices main:∀C:Res->Prop,(∀ρ2 k2,k2<(jr ‹"m"› n-qZ P n).toNat->(∃(P:List (List Int)) (x4 x5 x6 x7 x8:Slot),ρ2=‹"ba"›/\Feas n m needs rooms tops P/\(∀s,s<m->jS P0 s<=jS P s)/\k2=(jr ‹"m"› n-qZ P n).toNat)->C (.next ρ2))->
  (∀d,‹"aq"›->C (.ret d))->C _ from
  main (fun r=>(∃ρ2 k2,r=.next ρ2/\k2<(jr ‹"m"› n-qZ P n).toNat/\(∃(P:List (List Int)) (x4 x5 x6 x7 x8:Slot),ρ2=‹"ba"›/\Feas n m needs rooms tops P/\(∀s,s<m->jS P0 s<=jS P s)/\k2=(jr ‹"m"› n-qZ P n).toNat))\/∃d,r=.ret d/\∃d',Res.ret d=.ret d'/\∃P marks,d'=.tup [.int (qZ P n),.lst (P.map jh),.lst (marks.map D.bl)]/\Fill n m needs rooms tops P0 P marks)
   (fun ρ2 k2 hk hP=>.inl ⟨ρ2,k2,rfl,hk,hP⟩) fun d h=>.inr ⟨d,rfl,d,rfl,h⟩
 intro C fnx frt;refine jK [.sh ‹"f"›,.sh ‹"b"›,.sh ‹"J"›,.sh ‹"r"›,.sh ‹"S"›,x5,x6,x7,x8] (j4 (jA (js rfl (js rfl (js (jA rfl e1) rfl))) e2)) ?_;generalize hfr:(ks.filter fun s=>decide (jS P s<tops.getD s 0))=fr;refine jK ‹"bg"› (Qq (by rw [<-hfr];exact jnT F.sh hn hm ht R.lt hkl)) ?_;have ec:qV (jk dEq (ja 5) (jM (zV jj))) ‹"bg"›=some (nI fr).isEmpty:=qh (jw rfl rfl jio);cases fr with
 | nil=>
   have hfull:∀s∈ks,¬jS P s<tops.getD s 0:=fun s hs hlt=>by have:s∈ks.filter fun s=>decide (jS P s<tops.getD s 0):=KR.mpr ⟨hs,YO hlt⟩;rw [hfr] at this;exact absurd this YD
   refine jfU (d:=.tup [.int (qZ P n),.lst (P.map jh),.lst (((List.range m).map fun s=>decide (s∈ks)).map D.bl)]) ((jag ec).trans ((qJ (ρ':=[.sh ‹"f"›,.sh ‹"b"›,.sh ‹"J"›,.sh ‹"r"›,.sh ‹"S"›,.sh (.lst (nI [])),.sh (.int (qZ P n)),x7,x8]) (j4 (jA (js (qu (jnB F.sh hn)) rfl) (sum_ints.trans (by rw [jkB F.sh]))))).trans (Zv ?_))) ?_
   . unfold jaa;rw [js rfl (js rfl (js (qu (jkR ht hm R.nd R.len)) rfl))];rfl
   . have mk:∀s,s<m->((List.range m).map fun s=>decide (s∈ks)).getD s false=decide (s∈ks):=fun s hs=>by rw [Yc,List.getElem?_map,yy hs];rfl
     refine frt _ ⟨P,(List.range m).map fun s=>decide (s∈ks),rfl,F,mono,by simp,fun i s hi hs h1 h2=>?_,fun s hs hk t htm i hi hmv=>?_,fun s hs hk=>?_⟩
     . rw [mk s hs,YO];rw [hex];exact YE _ (all1 i s hi hs h1 h2)
     . rw [mk s hs] at hk;rw [mk t htm,YO];rcases hclo s (yI hk) t htm with q | q
       . exact q
       . exact absurd hmv (q i hi)
     . rw [mk s hs] at hk;have h1:=hfull s (yI hk);have h2:=F.col s hs;omega
 | cons s fr=>
   have hsm:s∈ks/\jS P s<tops.getD s 0:=by
    have:s∈ks.filter fun s=>decide (jS P s<tops.getD s 0):=by rw [hfr];exact Ye
    obtain ⟨a,b⟩:=KR.mp this;exact ⟨a,yI b⟩
   obtain ⟨hsk,hslt⟩:=hsm;have hs:=R.lt s hsk;obtain ⟨j,hj,ej⟩:=yx hsk;have hjs:ks[j]?=some s:=by rw [Ya hj,ej]
   obtain ⟨l,⟨p,hp,rfl⟩,e3⟩:=jgj R hm (fun s d ⟨i,_,e,_⟩=>.inr ⟨i,e⟩) hjs;obtain ⟨i0,s0,rest,rfl,hi0,hb,ok⟩:=jnh R hp s hjs;have hlen:=ok.len;obtain ⟨d4,⟨v,rfl,v1,v2,v3⟩,e4⟩:=jg8 hd hr F.sh (fun q hq=>⟨(ok.ok q hq).1,(ok.ok q hq).2.1,(ok.ok q hq).2.2.1⟩) (by simp at hlen;omega);have v0:0<v:=v3 (by omega) fun q hq=>⟨by have:=(ok.ok q hq).2.2.2.1;omega,(ok.ok q hq).2.2.2.2⟩;refine jK [.sh ‹"f"›,.sh ‹"b"›,.sh ‹"J"›,.sh ‹"r"›,.sh ‹"S"›,.sh (.lst (nI (s::fr))),x6,x7,x8] (JS ec) ?_;refine jK [.sh ‹"f"›,.sh ‹"b"›,.sh ‹"J"›,.sh ‹"r"›,.sh ‹"S"›,.sh (.lst (nI (s::fr))),x6,.sh (.lst (((i0,none,s0)::rest).map ql)),x8] (Qq (jA (js rfl (js (jw rfl rfl jhI) rfl)) e3)) ?_;refine jK [.sh ‹"f"›,.sh ‹"b"›,.sh ‹"J"›,.sh ‹"r"›,.sh ‹"S"›,.sh (.lst (nI (s::fr))),x6,.sh (.lst (((i0,none,s0)::rest).map ql)),.sh (.int (tops.getD s 0-jS P s))]
    (j4 (jw (jw rfl (jw rfl rfl jhI) (JR (by omega))) (jA (js rfl (js (jw rfl rfl jhI) rfl)) (jaB (jgD F.sh hs) (by rw [F.sh.1];exact hn))) rfl)) ?_
   have hw:∃w,0<w/\w<=v/\w<=tops.getD s 0-jS P s/\jad [.int (tops.getD s 0-jS P s),.int v]=some (.int w):=by
    by_cases c:v<tops.getD s 0-jS P s
    . exact ⟨v,v0,yk _,by omega,by show some (D.int (if v<tops.getD s 0-jS P s then v else _))=_;rw [if_pos c]⟩
    . exact ⟨tops.getD s 0-jS P s,by omega,by omega,yk _,by show some (D.int (if v<tops.getD s 0-jS P s then v else _))=_;rw [if_neg c]⟩
   obtain ⟨w,w0,w1,w2,ew⟩:=hw;obtain ⟨d5,⟨Q,rfl,hQ,hat⟩,e5⟩:=jfQ F.sh hn (fun q hq=>⟨(ok.ok q hq).1,(ok.ok q hq).2.1,(ok.ok q hq).2.2.1⟩) w;obtain ⟨FQ,mq,tq⟩:=F.turn hQ ok hi0 hs hat w0 (by omega) (fun q hq=>⟨by have:=(v2 q hq).1;omega,fun o ho=>by have:=(v2 q hq).2 o ho;omega⟩) w2;refine Zs (j4 (jA (js rfl (js rfl (js (jA (js rfl (js (jA rfl e4) rfl)) ew) rfl))) e5)) ?_;have hle:qZ Q n<=jr ‹"m"› n:=qt fun i hi=>FQ.row i hi;exact fnx _ _ (by omega) ⟨Q,_,_,_,_,_,rfl,FQ,fun t ht=>Km (mono t ht) (mq t ht),rfl⟩
def jbs (mk:Nat->Bool) (P:List (List Int)) (m i:Nat):Int:=jr (fun s=>if mk s=true then 0 else j5 P i s) m
theorem jeu (mk:Nat->Bool) {n m:Nat} {P:List (List Int)} (h:Shape n m P):qZ P n=jr (fun s=>if mk s=true then jS P s else 0) m+jr (fun i=>jbs mk P m i) n:=by
 have e:jr (fun s=>if mk s=true then jS P s else 0) m=jr (fun i=>jr (fun s=>if mk s=true then j5 P i s else 0) m) n:=by
  rw [Ju];refine jg fun s _=>?_;by_cases c:mk s=true
  . rw [if_pos c,Jy h];exact jg fun i _=>by rw [if_pos c]
  . rw [if_neg c,jQ];intro i _;rw [if_neg c]
 rw [e,<- qR];unfold qZ;refine jg fun i hi=>?_;rw [Je h hi];unfold jbs;rw [<-qR];refine jg fun s _=>?_;by_cases c:mk s=true
 . rw [if_pos c,if_pos c];omega
 . rw [if_neg c,if_neg c];omega
def jj2 (mk:Nat->Bool) (needs:List Int) (rooms:List (List Int)) (tops:List Int) (n m:Nat):Int:=jr (fun s=>if mk s=true then tops.getD s 0 else 0) m+jr (fun i=>needs.getD i 0-jN (needs.getD i 0-jbs mk rooms m i)) n
theorem jcu (mk:Nat->Bool) {n m:Nat} {needs:List Int} {rooms:List (List Int)} {tops:List Int} {P:List (List Int)} (F:Feas n m needs rooms tops P) {i:Nat} (hi:i<n):jbs mk P m i<=zB P i:=by
 rw [Je F.sh hi];refine qt fun s hs=>?_;have:=(F.cell i s hi hs).1;by_cases c:mk s=true
 . rw [if_pos c];omega
 . rw [if_neg c];omega
theorem jbb (mk:Nat->Bool) {n m:Nat} {needs:List Int} {rooms:List (List Int)} {tops:List Int} {P:List (List Int)} (F:Feas n m needs rooms tops P) {i:Nat} (hi:i<n):jbs mk P m i<=jbs mk rooms m i:=by
 refine qt fun s hs=>?_;have:=(F.cell i s hi hs).2;by_cases c:mk s=true
 . rw [if_pos c,if_pos c];omega
 . rw [if_neg c,if_neg c];omega
theorem jpw (mk:Nat->Bool) {n m:Nat} {needs:List Int} {rooms:List (List Int)} {tops:List Int} {P:List (List Int)} (F:Feas n m needs rooms tops P):qZ P n<=jj2 mk needs rooms tops n m:=by
 rw [jeu mk F.sh];unfold jj2;have h1:jr (fun s=>if mk s=true then jS P s else 0) m<=jr (fun s=>if mk s=true then tops.getD s 0 else 0) m:=qt fun s hs=>by
  have:=F.col s hs;by_cases c:mk s=true
  . rw [if_pos c,if_pos c];exact this
  . rw [if_neg c,if_neg c];omega
 have h2:jr (fun i=>jbs mk P m i) n<=jr (fun i=>needs.getD i 0-jN (needs.getD i 0-jbs mk rooms m i)) n:=qt fun i hi=>by have a:=jcu mk F hi;have b:=jbb mk F hi;have c:=F.row i hi;unfold jN;split <;> omega
 omega
theorem jkv {n m:Nat} {needs:List Int} {rooms:List (List Int)} {tops:List Int} {P0 P:List (List Int)} {marks:List Bool} (F:Fill n m needs rooms tops P0 P marks):qZ P n=jj2 ‹"K"› needs rooms tops n m:=by
 rw [jeu ‹"K"› F.feas.sh];unfold jj2;have h1:jr (fun s=>if marks.getD s false=true then jS P s else 0) m=jr (fun s=>if marks.getD s false=true then tops.getD s 0 else 0) m:=jg fun s hs=>by
  by_cases c:marks.getD s false=true
  . rw [if_pos c,if_pos c];exact F.full s hs c
  . rw [if_neg c,if_neg c]
 have h2:jr (fun i=>jbs ‹"K"› P m i) n=jr (fun i=>needs.getD i 0-jN (needs.getD i 0-jbs ‹"K"› rooms m i)) n:=jg fun i hi=>by
  have a:=jcu ‹"K"› F.feas hi;have b:=jbb ‹"K"› F.feas hi;have c:=F.feas.row i hi;by_cases q:zB P i<needs.getD i 0\/∃s,s<m/\marks.getD s false=true/\0<j5 P i s
  . -- all stretches without a mark are full
    have e:jbs ‹"K"› P m i=jbs ‹"K"› rooms m i:=jg fun t ht=>by
      by_cases c:marks.getD t false=true
      . rw [if_pos c,if_pos c]
      . rw [if_neg c,if_neg c];have l:=(F.feas.cell i t hi ht).2;by_cases z:j5 P i t<j5 rooms i t
        . exfalso;rcases q with q | ⟨s,hs,hms,hp⟩
          . exact c (F.short i t hi ht q z)
          . exact c (F.clo s hs hms t ht i hi ⟨hp,z⟩)
        . omega
    rw [e];unfold jN;split <;> omega
  . -- all of the need is in them
    have e:jbs ‹"K"› P m i=zB P i:=by
      rw [Je F.feas.sh hi];refine jg fun s hs=>?_;by_cases c:marks.getD s false=true
      . rw [if_pos c];have l:=(F.feas.cell i s hi hs).1;by_cases z:0<j5 P i s
        . exact absurd (Or.inr ⟨s,hs,c,z⟩) q
        . omega
      . rw [if_neg c]
    have q1:¬zB P i<needs.getD i 0:=fun z=>q (.inl z);rw [e];unfold jN;split <;> omega
 rw [h1,h2]
theorem jjX {s:Ship} (hs:Sm s) (p:Int×Int):jfs [jm s,jD p]=some (.int (qQ s p)):=by
 have h1:=hs.1;have h2:=hs.2;have el:=ZL p;unfold jfs jg4 qQ;unfold jD at el ⊢;unfold jm;simp (disch:=omega) only [zk,YA,ya,KL,Nat.reduceAdd,jex,jy,Zu,Zx,qV,jk,ja,qI,List.map_cons,yS,K4,KH,kd,ku,Yk,eC,Yf,QF,Yp,jhY,Qg,ze,jfl,ji,jc,jq,jj,Yl,qw,yq];by_cases c1:s.b<=p.1
 . by_cases c2:p.2<=s.e
   . simp only [c1,c2,kM,and_self,yq,el];simp (disch:=omega) only [Yf,jaE]
   . simp only [c1,c2,kM,K1,and_false,yu]
 . simp only [c1,K1,false_and,yu]
def jax (fl:List Ship) (s:Ship):D:=jh ((jt fl).map (qQ s))
theorem jdI {fl:List Ship} (hs:∀s∈fl,Sm s) (hl:fl.length<20):jaC [.lst (fl.map jm)]=some (fl.map (jax fl)):=by
 have est:=Qf fl hl;have hsl:=QM hl
 suffices main:∀C:Res->Prop,C (.retO (fl.map (jax fl)))->C (Zf [.sh ‹"h"›,.un]) by exact main (fun r=>jbn r=some (fl.map (jax fl))) rfl
 intro C fin;unfold Zf;refine jK [.sh ‹"h"›,.sh ‹"U"›] (by simp (disch:=omega) only [jI,jM,ji,jc,jq,Yk,jj,Yl,Yf,YH,YJ];simp only [est];simp (disch:=omega) only [Yl]) ?_;have last:∀r,r=Res.retO (fl.map (jax fl))->C r:=fun r h=>by rw [h];exact fin
 refine last _ ?_;unfold zi;rw [qv (qk rfl) (by rw [Yd];omega) (Jn jm (jax fl) fl fun s h=>?_)];refine ⟨[.sh (jm s),.sh ‹"U"›],rfl,rfl,?_⟩;unfold jM;rw [qv (qk rfl) (by rw [Yd];omega) (Jn jD (fun p=>.int (qQ s p)) (jt fl) fun p hp=>?_)]
 . unfold jax jh;rw [YG];rfl
 . refine ⟨[.sh (jD p),.sh (jm s)],rfl,rfl,?_⟩;have e:=jjX (hs s h) p;simp (disch:=omega) only [ji,jc,jq,Yp,Yk,jj,Yl,Yf];exact e
theorem jhX {fl:List Ship} (hl:fl.length<20):Zo [.lst (fl.map jm)]=some ((fl.map (·.n)).map D.int):=by have e:Zo [.lst (fl.map jm)]=jbn (Zj [.sh ‹"h"›]):=rfl;rw [e];unfold Zj zi;rw [QK 2 (·.n) (fun s=>jbz) _ 0 rfl (by omega)];rfl
theorem jeA {fl:List Ship} (hl:fl.length<20):JY [.lst (fl.map jm)]=some (((jt fl).map fun p=>p.2-p.1).map D.int):=by
 have est:=Qf fl hl;have hsl:=QM hl;have e:JY [.lst (fl.map jm)]=jbn (J8 [.sh ‹"h"›]):=rfl;rw [e];unfold J8 zi;rw [qv (qk (l:=(jt fl).map jD) (by simp (disch:=omega) only [jM,ji,jc,jq,Yk,jj,Yl,Yf];simp only [est];simp (disch:=omega) only [Yl])) (by rw [Yd];omega) (Jn jD (fun p=>.int (p.2-p.1)) (jt fl) fun p hp=>?_)]
 . rw [YG];rfl
 . refine ⟨[.sh (jD p)],rfl,rfl,?_⟩;have el:=ZL p;simp (disch:=omega) only [ji,jc,jq,Yk,jj,Yl,Yf];exact el
theorem zt {fl:List Ship} (hfl:∀s∈fl,s.Ok) {j:Nat} (h:j<(jt fl).length):0<qB fl j/\qB fl j<2000000000000000:=by
 obtain ⟨h1,h2,h3⟩:=jcp (jiy h);have bd:∀k∈Jr fl,-500000000000000<=k/\k<=1000000000000000:=fun k hk=>by
  rcases YZ.mp (mem_bnds.mp hk) with z | z
  . obtain ⟨s,hs,rfl⟩:=Y3.mp z;have:=(hfl s hs).lo;have:=(hfl s hs).hi;omega
  . obtain ⟨s,hs,rfl⟩:=Y3.mp z;have:=(hfl s hs).lo;have:=(hfl s hs).hi;have:=(hfl s hs).lt;have:=(hfl s hs).long;omega
 have:=bd _ h2;have:=bd _ h3;unfold qB;omega
def QT (fl:List Ship):List (List Int):=fl.map fun s=>(jt fl).map (qQ s)
def jcx (fl:List Ship):List Int:=fl.map (·.n)
def ZE (n m:Nat):List (List Int):=(List.range n).map fun _=>List.replicate m 0
theorem jgG (fl:List Ship):Shape fl.length (jt fl).length (QT fl):=⟨Yd _,fun r hr=>by unfold QT at hr;obtain ⟨s,_,rfl⟩:=Y3.mp hr;rw [Yd]⟩
def shp (fl:List Ship) (i:Nat):Ship:=fl.getD i ⟨0,0,0,0⟩
theorem jao {fl:List Ship} {i:Nat} (h:i<fl.length):fl[i]?=some (shp fl i):=by unfold shp;rw [Yc,Ya h];rfl
theorem Qo {fl:List Ship} {i:Nat} (h:i<fl.length):shp fl i∈fl:=YB (jao h)
theorem jcd {fl:List Ship} {i j:Nat} (hi:i<fl.length) (hj:j<(jt fl).length):j5 (QT fl) i j=qQ (shp fl i) (spn fl j):=by
 unfold j5 QT;have e:(fl.map fun s=>(jt fl).map (qQ s)).getD i []=(jt fl).map (qQ (shp fl i)):=by rw [Yc,List.getElem?_map,jao hi];rfl
 rw [e,Yc,List.getElem?_map,jas hj];rfl
theorem jaN {fl:List Ship} {i:Nat} (hi:i<fl.length):(jcx fl).getD i 0=(shp fl i).n:=by unfold jcx;rw [Yc,List.getElem?_map,jao hi];rfl
theorem jnq (fl:List Ship):fl.map (jax fl)=(QT fl).map jh:=by unfold QT;rw [YG];rfl
theorem jdo (n m:Nat):Shape n m (ZE n m):=⟨by unfold ZE;simp,fun r hr=>by unfold ZE at hr;obtain ⟨s,_,rfl⟩:=Y3.mp hr;simp⟩
theorem je2 (n m i s:Nat):j5 (ZE n m) i s=0:=by
 unfold j5 ZE;by_cases h:i<n
 . rw [Yc (l:=List.map _ _),List.getElem?_map,yy h,Yl,K9,Yc,List.getElem?_replicate];split <;> rfl
 . rw [Yc (l:=List.map _ _),Yz (by simp;omega)];rfl
theorem jjE {n m:Nat} {needs:List Int} {rooms:List (List Int)} {tops:List Int} (h1:∀i s,i<n->s<m->0<=j5 rooms i s) (h2:∀i,i<n->0<=needs.getD i 0) (h3:∀s,s<m->0<=tops.getD s 0):Feas n m needs rooms tops (ZE n m):=by
 refine ⟨jdo n m,fun i s hi hs=>?_,fun i hi=>?_,fun s hs=>?_⟩
 . rw [je2];exact ⟨yk _,h1 i s hi hs⟩
 . rw [Je (jdo n m) hi,jQ fun s _=>je2 n m i s];exact h2 i hi
 . rw [Jy (jdo n m),jQ fun i _=>je2 n m i s];exact h3 s hs
theorem jgP (x:D):∀m,(List.replicate m [x]).flatten=List.replicate m x
 | 0=>rfl
 | m+1=>by rw [yw,Kx,jgP x m,yw];rfl
theorem jdG {n m:Nat} {rooms:List (List Int)} (hr:Shape n m rooms) (hn:n<1000) (hm:m<1000):Qs [.lst (rooms.map jh)]=some ((ZE n m).map jh):=by
 unfold Qs;refine jca (ρ:=[.sh ‹"b"›]) rfl rfl fun C fin=>?_;unfold ZS;refine Zs (QV (l:=(ZE n m).map jh) ?_) fin;refine qv (qk rfl) (by rw [Yd,hr.1];omega) ?_;have e:(ZE n m).map jh=rooms.map fun _=>jh (List.replicate m 0):=by
  unfold ZE;rw [YG];apply yU;intro i;rw [List.getElem?_map,List.getElem?_map];by_cases h:i<n
  . rw [yy h,Ya (by rw [hr.1];exact h)];rfl
  . rw [Yz (by simp;omega),Yz (by rw [hr.1];omega)];rfl
 rw [e];refine Jn jh (fun _=>jh (List.replicate m 0)) rooms fun r hr'=>⟨[.sh (jh r)],rfl,rfl,qu (jw rfl (jA rfl (show qS [jh r]=some (.int (m:Int)) from ?_)) ?_)⟩
 . show some (D.int ((r.map D.int).length:Int))=_;rw [Yd,hr.2 r hr']
 . show (if 0<=(m:Int)/\([D.int 0]:List D).length*(m:Int).toNat<=sizeLine/\(m:Int)<2 ^ 63 then some (List.replicate (m:Int).toNat [D.int 0]).flatten else none)=_;rw [if_pos ⟨by omega,by rw [PySem.sizeLine_eq];simp;omega,by omega⟩,Yt];congr 1;rw [List.map_replicate];exact jgP _ _
def qD (mk:Nat->Bool) (m:Nat):List Nat:=(List.range m).filter fun j=>mk j
theorem jcr (mk:Nat->Bool) (m:Nat):qD mk (m+1)=qD mk m++if mk m=true then [m] else []:=by unfold qD;rw [List.range_succ,List.filter_append];cases h:mk m <;> simp [h]
theorem jb9 (mk:Nat->Bool) (f:Nat->Int):∀m,jr (fun j=>f ((qD mk m).getD j 0)) (qD mk m).length=jr (fun j=>if mk j=true then f j else 0) m
 | 0=>rfl
 | m+1=>by
   show _=jr _ m+(if mk m=true then f m else 0);rw [<-jb9 mk f m,jcr];have key:jr (fun j=>f ((qD mk m++if mk m=true then [m] else []).getD j 0)) (qD mk m).length=jr (fun j=>f ((qD mk m).getD j 0)) (qD mk m).length:=jg fun j hj=>by rw [Yc,YF hj,<- Yc]
   cases h:mk m with
   | false=>rw [h] at key;rw [if_neg Yi,if_neg Yi,yM,kJ]
   | true=>rw [h,if_pos rfl] at key;rw [if_pos rfl,if_pos rfl,YR];show jr _ (qD mk m).length+f _=_;rw [key,Yc,YC (Yq _),K4];rfl
def JM (mk:Nat->Bool) (j:Nat):Nat:=(qD mk j).length
theorem Z2 (mk:Nat->Bool) {m j:Nat} (hj:j<m) (h:mk j=true):JM mk j<(qD mk m).length/\(qD mk m).getD (JM mk j) 0=j:=by
 have key:∀m,j<m->∃t,qD mk m=qD mk j++j::t:=by
  intro m;induction m with
  | zero=>intro h;omega
  | succ m ih=>
    intro hjm;rw [jcr];by_cases z:j=m
    . subst z;exact ⟨[],by rw [if_pos h]⟩
    . obtain ⟨t,ht⟩:=ih (by omega);exact ⟨t++if mk m=true then [m] else [],by rw [ht];simp⟩
 obtain ⟨t,ht⟩:=key m hj;unfold JM;rw [ht];refine ⟨by simp,?_⟩;rw [Yc,YC (Yq _),K4];rfl
theorem jmD {mk:Nat->Bool} {m i:Nat} (h:i<(qD mk m).length):(qD mk m).getD i 0<m/\mk ((qD mk m).getD i 0)=true:=by
 have e:(qD mk m)[i]?=some ((qD mk m).getD i 0):=by rw [Yc,Ya h];rfl
 have:=YB e;unfold qD at this;obtain ⟨a,b⟩:=KR.mp this;exact ⟨KA.mp a,b⟩
def keep (mk:Nat->Bool) (x:List Int):List Int:=(qD mk x.length).map fun j=>x.getD j 0
theorem jiW {mk:Nat->Bool} {x:List Int} {i:Nat} (h:i<(qD mk x.length).length):(keep mk x).getD i 0=x.getD ((qD mk x.length).getD i 0) 0:=by unfold keep;rw [Yc,List.getElem?_map,Yc (l:=qD mk x.length),Ya h];rfl
def qY (room:Nat->Nat->Int) (m:Nat) (mk:Nat->Bool) (i:Nat):Int:=jr (fun s=>if mk s=true then 0 else room i s) m
def qE (n m:Nat) (need:Nat->Int) (room:Nat->Nat->Int) (mk:Nat->Bool):Int:=jr (fun i=>jN (need i-qY room m mk i)) n
def zN (m:Nat) (len:Nat->Int) (mk:Nat->Bool):Int:=jr (fun s=>if mk s=true then len s else 0) m
def Jk (n:Nat) (P:Nat->Nat->Int) (s:Nat):Int:=jr (fun i=>P i s) n
def zg (n m:Nat) (len:Nat->Int) (P:Nat->Nat->Int) (k:Int):Int:=jr (fun s=>jN (Jk n P s-k*len s)) m
structure EvenP (n m:Nat) (need:Nat->Int) (room:Nat->Nat->Int) (len:Nat->Int) (P:Nat->Nat->Int):Prop where
 row:∀i,i<n->jr (P i) m=need i
 cell:∀i s,i<n->s<m->0<=P i s/\P i s<=room i s
 even:∀k,∃mk,zg n m len P k=qE n m need room mk-k*zN m len mk
theorem Jx (x:Int):0<=jN x/\x<=jN x:=by unfold jN;split <;> omega
theorem QZ {f g:Nat->Int} {n:Nat}:(∀j,j<n->g j<=f j)->jr f n<=jr g n->∀j,j<n->f j=g j:=by
 induction n with
 | zero=>intro _ _ j hj;omega
 | succ n ih=>
   intro h hs j hj;have h1:=qt (f:=g) (g:=f) (n:=n) fun j hj=>h j (by omega);have h2:=h n (by omega);have hs':jr f n+f n<=jr g n+g n:=hs;by_cases z:j=n
   . subst z;omega
   . exact ih (fun j hj=>h j (by omega)) (by omega) j (by omega)
theorem jml {x y:Int} (h:0<=y):jN (jN x-y)=jN (x-y):=by
 unfold jN;by_cases a:x>0
 . rw [if_pos a]
 . rw [if_neg a,if_neg (by omega),if_neg (by omega)]
theorem jle {x r o:Int} (h0:0<=o) (h1:o<=r):jN (x-o)=jN (x-r)+jN (x-jN (x-r)-o):=by
 by_cases a:x-r>0
 . have e:jN (x-r)=x-r:=by unfold jN;rw [if_pos a]
   rw [e];unfold jN;split <;> split <;> omega
 . have e:jN (x-r)=0:=by unfold jN;rw [if_neg a]
   rw [e,kG,K5]
theorem jj3 {n m:Nat} {need:Nat->Int} {room:Nat->Nat->Int} {len:Nat->Int} {P:Nat->Nat->Int} {l:Int} (h0:∀i,i<n->0<=need i) (h1:∀i,i<n->need i<=jr (room i) m) (hl:∀s,s<m->0<len s) (row:∀i,i<n->jr (P i) m=need i) (cell:∀i s,i<n->s<m->0<=P i s/\P i s<=room i s)
 (lo:∀s,s<m->l*len s<=Jk n P s) (hi:∀s,s<m->Jk n P s<=(l+1)*len s):EvenP n m need room len P:=by
 refine ⟨row,cell,fun k=>?_⟩;by_cases c:k<=l
 . refine ⟨fun _=>true,?_⟩;have e1:qE n m need room (fun _=>true)=jr need n:=jg fun i hi'=>by have:qY room m (fun _=>true) i=0:=jQ fun s _=>if_pos rfl;rw [this,kG];have:=h0 i hi';unfold jN;split <;> omega
   have e2:zN m len (fun _=>true)=jr len m:=jg fun s _=>if_pos rfl;have e3:zg n m len P k=jr (fun s=>Jk n P s-k*len s) m:=jg fun s hs=>by have a:=lo s hs;have b:k*len s<=l*len s:=YX c (Y9 (hl s hs));unfold jN;split <;> omega
   rw [e1,e2,e3,JI,zm];have e4:jr (fun s=>Jk n P s) m=jr need n:=by unfold Jk;rw [<-Ju];exact jg row
   rw [e4]
 . refine ⟨fun _=>false,?_⟩;have e1:qE n m need room (fun _=>false)=0:=jQ fun i hi'=>by have:qY room m (fun _=>false) i=jr (room i) m:=jg fun s _=>if_neg Yi;rw [this];have:=h1 i hi';unfold jN;split <;> omega
   have e2:zN m len (fun _=>false)=0:=jQ fun s _=>if_neg Yi;have e3:zg n m len P k=0:=jQ fun s hs=>by have a:=hi s hs;have b:(l+1)*len s<=k*len s:=YX (by omega) (Y9 (hl s hs));unfold jN;split <;> omega
   rw [e1,e2,e3];omega
def nt (mk:Nat->Bool):Nat->Bool:=fun s=>!mk s
def pl (mk:Nat->Bool) (m t:Nat):Nat:=(qD mk m).getD t 0
theorem jjs (mk:Nat->Bool) (m:Nat):(qD mk m).Nodup:=by unfold qD;exact List.Pairwise.filter _ List.nodup_range
theorem JQ {mk:Nat->Bool} {m t:Nat} (h:t<(qD mk m).length):pl mk m t<m/\mk (pl mk m t)=true:=jmD h
theorem jce {mk:Nat->Bool} {m t:Nat} (h:t<(qD mk m).length):JM mk (pl mk m t)=t:=by
 obtain ⟨a,b⟩:=JQ h;obtain ⟨c,d⟩:=Z2 mk a b;have e1:(qD mk m)[JM mk (pl mk m t)]?=some (pl mk m t):=by
  have e:(qD mk m)[JM mk (pl mk m t)]?=some ((qD mk m).getD (JM mk (pl mk m t)) 0):=by rw [Yc,Ya c];rfl
  rw [e,d]
 have e2:(qD mk m)[t]?=some (pl mk m t):=by unfold pl;rw [Yc,Ya h];rfl
 exact QH (jjs mk m) e1 e2
theorem zy (M:Nat->Bool) (g:Nat->Int) (m:Nat):jr g m=jr (fun t=>g (pl M m t)) (qD M m).length+jr (fun t=>g (pl (nt M) m t)) (qD (nt M) m).length:=by unfold pl;rw [jb9,jb9,<- qR];refine jg fun s _=>?_;unfold nt;cases M s <;> simp
def Zt (M:Nat->Bool) (A B:Nat->Nat->Int):Nat->Nat->Int:=fun i s=>if M s=true then A i (JM M s) else B i (JM (nt M) s)
theorem jfL {M:Nat->Bool} {m t:Nat} (h:t<(qD (nt M) m).length):M (pl (nt M) m t)=false:=by
 have h2:(!M (pl (nt M) m t))=true:=(JQ h).2;cases hM:M (pl (nt M) m t) with
 | false=>rfl
 | true=>rw [hM] at h2;cases h2
theorem jiK {M:Nat->Bool} {m:Nat} {A B:Nat->Nat->Int} {i t:Nat} (h:t<(qD M m).length):Zt M A B i (pl M m t)=A i t:=by unfold Zt;rw [if_pos (show M (pl M m t)=true from (JQ h).2),jce h]
theorem jiN {M:Nat->Bool} {m:Nat} {A B:Nat->Nat->Int} {i t:Nat} (h:t<(qD (nt M) m).length):Zt M A B i (pl (nt M) m t)=B i t:=by unfold Zt;rw [if_neg (by rw [jfL h];exact Yi),jce h]
theorem jjI {n m:Nat} {need:Nat->Int} {room:Nat->Nat->Int} {len:Nat->Int} {M:Nat->Bool} {l:Int} {A B:Nat->Nat->Int} (hr:∀i s,i<n->s<m->0<=room i s) (hl:∀s,s<m->0<len s)
 (best:∀mk,qE n m need room mk-l*zN m len mk<=qE n m need room M-l*zN m len M)
 (hA:EvenP n (qD M m).length (fun i=>jN (need i-qY room m M i)) (fun i t=>room i (pl M m t)) (fun t=>len (pl M m t)) A)
 (hB:EvenP n (qD (nt M) m).length (fun i=>need i-jN (need i-qY room m M i)) ‹"ay"› (fun t=>len (pl (nt M) m t)) B) :
 EvenP n m need room len (Zt M A B):=by
 have plH:∀t,t<(qD M m).length->pl M m t<m:=fun t ht=>(JQ ht).1;have plL:∀t,t<(qD (nt M) m).length->pl (nt M) m t<m:=fun t ht=>(JQ ht).1;have hout:∀i,qY room m M i=jr (fun t=>room i (pl (nt M) m t)) (qD (nt M) m).length:=fun i=>by unfold qY;rw [zy M,jQ (f:=fun t=>if M (pl M m t)=true then 0 else room i (pl M m t)) fun t ht=>if_pos (JQ ht).2,K5];exact jg fun t ht=>if_neg (by rw [jfL ht];exact Yi)
 have hMh:zN m len M=jr (fun t=>len (pl M m t)) (qD M m).length:=by unfold zN;rw [zy M,jQ (f:=fun t=>if M (pl (nt M) m t)=true then len (pl (nt M) m t) else 0) fun t ht=>if_neg (by rw [jfL ht];exact Yi),kJ];exact jg fun t ht=>if_pos (JQ ht).2
 -- marks within M
 let up:(Nat->Bool)->Nat->Bool:=fun mk s=>M s && mk (JM M s)
 have upH:∀mk t,t<(qD M m).length->up mk (pl M m t)=mk t:=fun mk t ht=>by show (M _ && mk (JM M _))=_;rw [(JQ ht).2,jce ht];rfl
 have upL:∀mk t,t<(qD (nt M) m).length->up mk (pl (nt M) m t)=false:=fun mk t ht=>by show (M _ && _)=_;rw [jfL ht];rfl
 have upHrs:∀mk,zN m len (up mk)=zN (qD M m).length (fun t=>len (pl M m t)) mk:=fun mk=>by unfold zN;rw [zy M,jQ (f:=fun t=>if up mk (pl (nt M) m t)=true then len (pl (nt M) m t) else 0) fun t ht=>if_neg (by rw [upL mk t ht];exact Yi),kJ];exact jg fun t ht=>by rw [upH mk t ht]
 have upWant:∀mk,qE n m need room (up mk)=qE n (qD M m).length (fun i=>jN (need i-qY room m M i)) (fun i t=>room i (pl M m t)) mk:=fun mk=>jg fun i hi=>by
  have e:qY room m (up mk) i=qY (fun i t=>room i (pl M m t)) (qD M m).length mk i+qY room m M i:=by rw [hout i];unfold qY;rw [zy M,jg (f:=fun t=>if up mk (pl M m t)=true then 0 else room i (pl M m t)) (g:=fun t=>if mk t=true then 0 else room i (pl M m t)) fun t ht=>by rw [upH mk t ht]];congr 1;exact jg fun t ht=>if_neg (by rw [upL mk t ht];exact Yi)
  have nn:0<=qY (fun i t=>room i (pl M m t)) (qD M m).length mk i:=J5 fun t ht=>by
   split
   . exact yk _
   . exact hr i _ hi (plH t ht)
  show jN (need i-qY room m (up mk) i)=jN (jN (need i-qY room m M i)-qY (fun i t=>room i (pl M m t)) (qD M m).length mk i);rw [e,jml nn];congr 1;omega
 -- all of M, and marks outside
 let dn:(Nat->Bool)->Nat->Bool:=fun mk s=>M s || mk (JM (nt M) s)
 have dnH:∀mk t,t<(qD M m).length->dn mk (pl M m t)=true:=fun mk t ht=>by show (M _ || _)=_;rw [show M (pl M m t)=true from (JQ ht).2];rfl
 have dnL:∀mk t,t<(qD (nt M) m).length->dn mk (pl (nt M) m t)=mk t:=fun mk t ht=>by show (M _ || mk (JM _ _))=_;rw [jfL ht,jce ht];rfl
 have dnHrs:∀mk,zN m len (dn mk)=zN m len M+zN (qD (nt M) m).length (fun t=>len (pl (nt M) m t)) mk:=fun mk=>by rw [hMh];unfold zN;rw [zy M,jg (f:=fun t=>if dn mk (pl M m t)=true then len (pl M m t) else 0) (g:=fun t=>len (pl M m t)) fun t ht=>if_pos (dnH mk t ht)];congr 1;exact jg fun t ht=>by rw [dnL mk t ht]
 have dnWant:∀mk,qE n m need room (dn mk)=qE n m need room M+qE n (qD (nt M) m).length (fun i=>need i-jN (need i-qY room m M i)) ‹"ay"› mk:=fun mk=>by
  unfold qE;rw [<-qR];refine jg fun i hi=>?_;have e:qY room m (dn mk) i=qY ‹"ay"› (qD (nt M) m).length mk i:=by unfold qY;rw [zy M,jQ (f:=fun t=>if dn mk (pl M m t)=true then 0 else room i (pl M m t)) fun t ht=>if_pos (dnH mk t ht),K5];exact jg fun t ht=>by rw [dnL mk t ht]
  have le:qY ‹"ay"› (qD (nt M) m).length mk i<=qY room m M i:=by rw [hout i];refine qt fun t ht=>?_;have:=hr i _ hi (plL t ht);show (if mk t=true then 0 else room i (pl (nt M) m t))<=_;split <;> omega
  have nn:0<=qY ‹"ay"› (qD (nt M) m).length mk i:=J5 fun t ht=>by
   split
   . exact yk _
   . exact hr i _ hi (plL t ht)
  rw [e];exact jle nn le
 have eAb:∀k,zg n m len (Zt M A B) k=zg n (qD M m).length (fun t=>len (pl M m t)) A k+zg n (qD (nt M) m).length (fun t=>len (pl (nt M) m t)) B k:=fun k=>by
  unfold zg;rw [zy M];congr 1
  . refine jg fun t ht=>?_;have e:Jk n (Zt M A B) (pl M m t)=Jk n A t:=jg fun i _=>jiK ht;rw [e]
  . refine jg fun t ht=>?_;have e:Jk n (Zt M A B) (pl (nt M) m t)=Jk n B t:=jg fun i _=>jiN ht;rw [e]
 have lowc:∀t,t<(qD (nt M) m).length->Jk n B t<=l*len (pl (nt M) m t):=by
  obtain ⟨mk,e⟩:=hB.even l;have b:=best (dn mk);rw [dnWant,dnHrs,Int.mul_add] at b;have z:zg n (qD (nt M) m).length (fun t=>len (pl (nt M) m t)) B l<=0:=by omega
  intro t ht;have q:=QZ (f:=fun t=>jN (Jk n B t-l*len (pl (nt M) m t))) (g:=fun _=>0) (fun t _=>(Jx _).1) (by rw [jQ (f:=fun _=>0) fun _ _=>rfl];exact z) t ht;have:=(Jx (Jk n B t-l*len (pl (nt M) m t))).2;omega
 have colA:jr (fun t=>Jk n A t) (qD M m).length=qE n m need room M:=by unfold Jk qE;rw [<-Ju];exact jg fun i hi=>hA.row i hi
 have highc:∀t,t<(qD M m).length->l*len (pl M m t)<=Jk n A t:=by obtain ⟨mk,e⟩:=hA.even l;have b:=best (up mk);rw [upWant,upHrs,<- e,hMh,<- colA,<- zm,<- JI] at b;intro t ht;have q:=QZ (f:=fun t=>jN (Jk n A t-l*len (pl M m t))) (g:=fun t=>Jk n A t-l*len (pl M m t)) (fun t _=>(Jx _).2) b t ht;have:=(Jx (Jk n A t-l*len (pl M m t))).1;omega
 refine ⟨fun i hi=>?_,fun i s hi hs=>?_,fun k=>?_⟩
 . rw [zy M,jg (f:=fun t=>Zt M A B i (pl M m t)) (g:=A i) fun t ht=>jiK ht,jg (f:=fun t=>Zt M A B i (pl (nt M) m t)) (g:=B i) fun t ht=>jiN ht,hA.row i hi,hB.row i hi];omega
 . unfold Zt;by_cases c:M s=true
   . rw [if_pos c];obtain ⟨r1,r2⟩:=Z2 M hs c;have:=hA.cell i (JM M s) hi r1;have e:pl M m (JM M s)=s:=r2;rw [e] at this;exact this
   . rw [if_neg c];have c':nt M s=true:=by unfold nt;simpa using c
     obtain ⟨r1,r2⟩:=Z2 (nt M) hs c';have:=hB.cell i (JM (nt M) s) hi r1;have e:pl (nt M) m (JM (nt M) s)=s:=r2;rw [e] at this;exact this
 . by_cases c:l<=k
   . obtain ⟨mk,e⟩:=hA.even k;refine ⟨up mk,?_⟩;rw [eAb,upWant,upHrs,e];have z:zg n (qD (nt M) m).length (fun t=>len (pl (nt M) m t)) B k=0:=jQ fun t ht=>by have a:=lowc t ht;have b:l*len (pl (nt M) m t)<=k*len (pl (nt M) m t):=YX c (Y9 (hl _ (plL t ht)));show jN (Jk n B t-k*len (pl (nt M) m t))=0;unfold jN;split <;> omega
     rw [z];omega
   . obtain ⟨mk,e⟩:=hB.even k;refine ⟨dn mk,?_⟩;rw [eAb,dnWant,dnHrs,e];have z:zg n (qD M m).length (fun t=>len (pl M m t)) A k=qE n m need room M-k*zN m len M:=by rw [hMh,<- colA,<- zm,<- JI];refine jg fun t ht=>?_;have a:=highc t ht;have b:k*len (pl M m t)<=l*len (pl M m t):=YX (by omega) (Y9 (hl _ (plH t ht)));show jN (Jk n A t-k*len (pl M m t))=Jk n A t-k*len (pl M m t);unfold jN;split <;> omega
     rw [z,Int.mul_add];omega
def qo (M:List Bool):D:=.lst (M.map D.bl)
theorem jg6 {need:Int} {rs:List Int} {M:List Bool} (h:rs.length=M.length) (hl:rs.length<1000):jay [.int need,jh rs,qo M]=some ‹"t"›:=by
 suffices main:∀C:Res->Prop,C (.ret ‹"t"›)->C (Zi [.sh (.int need),.sh (.lst (rs.map D.int)),.sh (.lst (M.map D.bl)),.un]) by exact main (fun r=>jex r=some ‹"t"›) rfl
 intro C fin;have hz:ZW (jc (ja 1) (jc (ja 2) jj)) [.sh (.int need),.sh (.lst (rs.map D.int)),.sh (.lst (M.map D.bl)),.un]=some ((rs.zip M).map fun q=>.tup [.int q.1,.bl q.2]):=by unfold ZW;simp (disch:=omega) only [jc,ja,Yp,Yk,jj,Yl,Yf];rw [jaP]
 have lc:=qv (m:=Qh 2 (j2 (jz 0) (j2 (jz 1) Qn))) (ft:=jdH (qV (ja 1))) (fe:=jq 0) (n:=2) (ix:=[]) hz (by simp;omega)
  (jeL (fun q:Int×Bool=>.tup [.int q.1,.bl q.2]) (fun q=>.int q.1) (fun q=>!q.2) _ fun q _=>⟨[.sh (.int q.1),.sh (.bl q.2)],rfl,rfl,rfl⟩)
 have ss:=jiV (fun b=>!b) rs M h;have s1:JB [.lst ((((rs.zip M).filter fun q=>!q.2).map fun q=>D.int q.1))]=some (.int (jr (fun j=>if M.getD j false=true then 0 else rs.getD j 0) rs.length)):=by have:=jcc (((rs.zip M).filter fun q=>!q.2).map (·.1));rw [YG] at this;refine this.trans ?_;congr 2;refine ss.trans (jg fun j hj=>?_);cases M.getD j false <;> rfl
 unfold Zi;refine jK [.sh (.int need),.sh (.lst (rs.map D.int)),.sh (.lst (M.map D.bl)),.sh (.int (jr (fun j=>if M.getD j false=true then 0 else rs.getD j 0) rs.length))] (by simp (disch:=omega) only [jI,ji,jc,jM,jj,Yl,YH,YJ];simp only [lc];simp (disch:=omega) only [Yl,Yf];simp only [s1]) ?_
 have last:∀r,r=Res.ret ‹"t"›->C r:=fun r h=>by rw [h];exact fin
 refine last _ ?_;simp (disch:=omega) only [ze,ji,jc,jk,ja,Yk,Yp,Yf,qN,eC,jj,Yl,jd1];rw [jpm]
theorem jjw (x:List Int) (M:List Bool) (h:x.length=M.length):x.zip M=(List.range x.length).map fun j=>(x.getD j 0,M.getD j false):=by
 apply yU;intro i;rw [List.getElem?_map];by_cases hi:i<x.length
 . rw [yy hi,Yl,YQ.mpr ⟨_,_⟩]
   . show x[i]?=some (x.getD i 0);rw [Yc,Ya hi];rfl
   . have hi':i<M.length:=by omega
     show M[i]?=some (M.getD i false);rw [Yc,Ya hi'];rfl
 . rw [Yz (by simp;omega),Yz (by simp;omega)];rfl
def zH (M:List Bool) (b:Bool):Nat->Bool:=fun j=>M.getD j false == b
theorem jea {x:List Int} {M:List Bool} (h:x.length=M.length) (hl:x.length<1000) (b:Bool):Zg [jh x,qo M,.bl b]=some ((keep (zH M b) x).map D.int):=by
 unfold Zg;refine jca (ρ:=[.sh (jh x),.sh (qo M),.sh (.bl b)]) rfl rfl fun C fin=>?_;unfold jhn;refine Zs (QV (l:=(keep (zH M b) x).map D.int) ?_) fin;have hz:ZW (jc (ja 0) (jc (ja 1) jj)) [.sh (jh x),.sh (qo M),.sh (.bl b)]=some ((x.zip M).map fun q=>.tup [.int q.1,.bl q.2]):=by show some (jal (x.map D.int) (M.map D.bl))=_;rw [jaP]
 refine (qv hz (by simp;omega) (jeL (fun q:Int×Bool=>.tup [.int q.1,.bl q.2]) (fun q=>.int q.1) (fun q=>q.2 == b) _ fun q _=>⟨[.sh (.int q.1),.sh (.bl q.2),.sh (.bl b)],rfl,qh ((jw rfl rfl jtm).trans ?_),rfl⟩)).trans ?_
 . cases q.2 <;> cases b <;> rfl
 . rw [jjw x M h,List.filter_map,YG];unfold keep qD zH;rw [YG];rfl
theorem jcy (M:List Bool) (b:Bool):∀j,j<=M.length->(M.take j).countP (· == b)=JM (zH M b) j
 | 0,_=>by simp [JM,qD]
 | j+1,h=>by
   have hj:j<M.length:=by omega
   have e:M.take (j+1)=M.take j++[M.getD j false]:=by rw [List.take_succ,Yc,Ya hj];rfl
   rw [e,List.countP_append,jcy M b j (by omega)];unfold JM;rw [jcr];unfold zH;cases hb:(M.getD j false == b) with
   | true=>rw [if_pos rfl,YR,List.countP_cons_of_pos (by simpa using hb)];rfl
   | false=>rw [if_neg Yi,yM,List.countP_cons_of_neg (by simpa using hb)];rfl
def jv (M:List Bool) (A B:List Int) (j:Nat):Int:=if M.getD j false=true then A.getD (JM (zH M true) j) 0 else B.getD (JM (zH M false) j) 0
def ja4 (M:List Bool) (A B:List Int):List Int:=(List.range M.length).map (jv M A B)
theorem ZT:∀M:List Bool,jdF (M.map D.bl)=some M
 | []=>rfl
 | b::M=>by show (jdF (M.map D.bl)).map (b::·)=_;rw [ZT M];rfl
theorem jgI {A B:List Int} {M:List Bool} (hl:M.length<1000) (hA:A.length=(qD (zH M true) M.length).length) (hB:B.length=(qD (zH M false) M.length).length):jaG [jh A,jh B,qo M]=some ((ja4 M A B).map D.int):=by
 unfold jaG;refine jca (ρ:=[.sh (jh A),.sh (jh B),.sh (qo M),.un,.un,.un,.un]) rfl rfl fun C fin=>?_;unfold jcS;refine jK [.sh (jh A),.sh (jh B),.sh (qo M),.ow [],.un,.un,.un] rfl ?_;refine jdn (fun j:Nat=>.tup [.int (j:Int),.bl (M.getD j false)]) M.length (fun j ρ=>∃x y z,ρ=[.sh (jh A),.sh (jh B),.sh (qo M),.ow (((List.range j).map (jv M A B)).map D.int),x,y,z]) ?_ ⟨_,_,_,rfl⟩ ?_ ?_
 . show some (ZQ (M.map D.bl))=_;rw [ZZ D.bl false]
 . rintro j ρ hj ⟨x,y,z,rfl⟩;have ec:eBM jco (jM (eSl (ja 2) pNo (pSo (ja 4)))) (jc (jq 5) jj) ‹"w"›=some (.int ((JM (zH M (M.getD j false)) j:Nat):Int)):=by
    have es:jM (eSl (ja 2) pNo (pSo (ja 4))) ‹"w"›=some (.lst ((M.take j).map D.bl)):=by refine qu ?_;show some (L2.jcO (M.map D.bl) none (some (j:Int)))=_;rw [jkT j (by rw [Yd];omega),List.map_take]
    unfold eBM;rw [es,js rfl rfl];show (jdF ((M.take j).map D.bl)).map _=_;rw [ZT];show some (D.int (((M.take j).countP (· == M.getD j false):Nat):Int))=_;rw [jcy M _ j (by omega)]
   have ev:eIf (qV (ja 5)) (jk jO (ja 0) (ja 6)) (jk jO (ja 1) (ja 6)) [.sh (jh A),.sh (jh B),.sh (qo M),.ow (((List.range j).map (jv M A B)).map D.int),.sh (.int j),.sh (.bl (M.getD j false)),.sh (.int ((JM (zH M (M.getD j false)) j:Nat):Int))]=some (.int (jv M A B j)):=by
    unfold eIf jv;rw [qh (b:=M.getD j false) rfl];cases hb:M.getD j false with
    | true=>obtain ⟨r1,_⟩:=Z2 (zH M true) hj (by unfold zH;rw [hb];rfl);rw [if_pos rfl];exact jw rfl rfl (JR (by omega))
    | false=>obtain ⟨r1,_⟩:=Z2 (zH M false) hj (by unfold zH;rw [hb];rfl);rw [if_neg Yi];exact jw rfl rfl (JR (by omega))
   refine ⟨‹"w"›,[.sh (jh A),.sh (jh B),.sh (qo M),.ow (((List.range (j+1)).map (jv M A B)).map D.int),.sh (.int j),.sh (.bl (M.getD j false)),.sh (.int ((JM (zH M (M.getD j false)) j:Nat):Int))],rfl,?_,_,_,_,rfl⟩;rw [List.range_succ,Y0,Y0];exact (qJ (j4 ec)).trans (jl6 rfl ev (by simp;omega))
 . rintro ρ ⟨x,y,z,rfl⟩;exact fin
structure Prob (n m:Nat) (needs:List Int) (rooms:List (List Int)) (hours:List Int):Prop where
 nl:needs.length=n
 sh:Shape n m rooms
 hl:hours.length=m
 n0:∀i,i<n->0<=needs.getD i 0
 n1:∀i,i<n->needs.getD i 0<=jr (j5 rooms i) m
 r0:∀i s,i<n->s<m->0<=j5 rooms i s
 h0:∀s,s<m->0<hours.getD s 0
 h1:jr ‹"s"› m<=1000000000000000000
abbrev jeg (n m:Nat) (needs:List Int) (rooms:List (List Int)) (hours:List Int) (P:List (List Int)):Prop:=EvenP n m ‹"m"› (j5 rooms) ‹"s"› (j5 P)
theorem jkK {f:Nat->Int} {n j:Nat} (h:∀j,j<n->0<=f j) (hj:j<n):f j<=jr f n:=by
 induction n with
 | zero=>omega
 | succ n ih=>
   have h1:=J5 (f:=f) (n:=n) fun j hj=>h j (by omega);have h2:=h n (by omega);show f j<=jr f n+f n;by_cases z:j=n
   . subst z;omega
   . have:=ih (fun j hj=>h j (by omega)) (by omega);omega
theorem jcZ {hours:List Int} {l:Int} {s:Nat} (h:s<hours.length):(hours.map (l * ·)).getD s 0=l*hours.getD s 0:=by rw [Yc,List.getElem?_map,Ya h,Yc,Ya h];rfl
theorem joz {n m:Nat} {needs:List Int} {rooms:List (List Int)} {hours:List Int} (hh:hours.length=m) (l:Int) (mk:Nat->Bool):jj2 mk needs rooms (hours.map (l * ·)) n m=l*zN m ‹"s"› mk+(jr ‹"m"› n-qE n m ‹"m"› (j5 rooms) mk):=by
 unfold jj2 zN qE;rw [<-zm,<- JI];congr 1;refine jg fun s hs=>?_;by_cases c:mk s=true
 . rw [if_pos c,if_pos c];exact jcZ (by omega)
 . rw [if_neg c,if_neg c,Int.mul_zero]
theorem jna {n m:Nat} {needs:List Int} {rooms:List (List Int)} {hours:List Int} {l:Int} {P0 P:List (List Int)} {marks:List Bool} (hh:hours.length=m) (F:Fill n m needs rooms (hours.map (l * ·)) P0 P marks) (mk:Nat->Bool) :
 qE n m ‹"m"› (j5 rooms) mk-l*zN m ‹"s"› mk<=qE n m ‹"m"› (j5 rooms) ‹"K"›-l*zN m ‹"s"› ‹"K"›:=by
 have h1:=jkv F;have h2:=jpw mk F.feas;rw [joz hh] at h1 h2;omega
theorem jkt {n m:Nat} {need:Nat->Int} {room:Nat->Nat->Int} {mk mk':Nat->Bool} (h:∀s,s<m->mk s=mk' s):qE n m need room mk=qE n m need room mk':=jg fun i _=>by
 have:qY room m mk i=qY room m mk' i:=jg fun s hs=>by rw [h s hs]
 rw [this]
theorem jmx {m:Nat} {len:Nat->Int} {mk mk':Nat->Bool} (h:∀s,s<m->mk s=mk' s):zN m len mk=zN m len mk':=jg fun s hs=>by rw [h s hs]
theorem Qm (M:List Bool) (s:Nat):zH M true s=M.getD s false:=by unfold zH;cases M.getD s false <;> rfl
theorem jbC (M:List Bool) (s:Nat):zH M false s=nt (zH M true) s:=by unfold nt;rw [Qm];unfold zH;cases M.getD s false <;> rfl
theorem jhq (M:List Bool):zH M false=nt (zH M true):=funext (jbC M)
def ZP (mk:Nat->Bool) (m:Nat) (R:List (List Int)):List (List Int):=R.map fun r=>keep mk r
theorem jgO {mk:Nat->Bool} {x:List Int}:(keep mk x).length=(qD mk x.length).length:=Yd _
theorem jlG {n m:Nat} {R:List (List Int)} (h:Shape n m R) (mk:Nat->Bool):Shape n (qD mk m).length (ZP mk m R):=⟨by unfold ZP;rw [Yd];exact h.1,fun r hr=>by unfold ZP at hr;obtain ⟨q,hq,rfl⟩:=Y3.mp hr;rw [jgO,h.2 q hq]⟩
theorem jaQ {n m:Nat} {R:List (List Int)} (h:Shape n m R) (mk:Nat->Bool) {i t:Nat} (hi:i<n) (ht:t<(qD mk m).length):j5 (ZP mk m R) i t=j5 R i (pl mk m t):=by
 have e:(ZP mk m R).getD i []=keep mk (R.getD i []):=by unfold ZP;rw [Yc,List.getElem?_map,(h.row hi).1];rfl
 unfold j5 pl;rw [e,jiW (by rw [(h.row hi).2];exact ht),(h.row hi).2]
theorem jaU {m:Nat} {x:List Int} (h:x.length=m) (mk:Nat->Bool) {t:Nat} (ht:t<(qD mk m).length):(keep mk x).getD t 0=x.getD (pl mk m t) 0:=by unfold pl;rw [jiW (by rw [h];exact ht),h]
theorem jcG {n m:Nat} {need need':Nat->Int} {room room':Nat->Nat->Int} {len len':Nat->Int} {P:Nat->Nat->Int} (h:EvenP n m need room len P) (h1:∀i,i<n->need i=need' i) (h2:∀i s,i<n->s<m->room i s=room' i s) (h3:∀s,s<m->len s=len' s):EvenP n m need' room' len' P:=by
 refine ⟨fun i hi=>(h.row i hi).trans (h1 i hi),fun i s hi hs=>by rw [<-h2 i s hi hs];exact h.cell i s hi hs,fun k=>?_⟩;obtain ⟨mk,e⟩:=h.even k;refine ⟨mk,?_⟩;have e1:zg n m len P k=zg n m len' P k:=jg fun s hs=>by rw [h3 s hs]
 have e2:qE n m need room mk=qE n m need' room' mk:=jg fun i hi=>by
  have:qY room m mk i=qY room' m mk i:=jg fun s hs=>by rw [h2 i s hi hs]
  rw [this,h1 i hi]
 have e3:zN m len mk=zN m len' mk:=jg fun s hs=>by rw [h3 s hs]
 rw [<-e1,<- e2,<- e3];exact e
theorem jgi {n m:Nat} {need:Nat->Int} {room:Nat->Nat->Int} {len:Nat->Int} {P P':Nat->Nat->Int} (h:EvenP n m need room len P) (hP:∀i s,i<n->s<m->P i s=P' i s):EvenP n m need room len P':=by refine ⟨fun i hi=>by rw [<-h.row i hi];exact jg fun s hs=>(hP i s hi hs).symm,fun i s hi hs=>by rw [<-hP i s hi hs];exact h.cell i s hi hs,fun k=>?_⟩;obtain ⟨mk,e⟩:=h.even k;refine ⟨mk,?_⟩;rw [<-e];refine jg fun s hs=>?_;have:Jk n P' s=Jk n P s:=jg fun i hi=>(hP i s hi hs).symm;rw [this]
theorem jnH (mk:Nat->Bool) (m:Nat):(qD mk m).length+(qD (nt mk) m).length=m:=by
 have h:=zy mk (fun _=>1) m;have one:∀n:Nat,jr (fun _=>1) n=(n:Int):=fun n=>by
  induction n with
  | zero=>rfl
  | succ n ih=>show jr _ n+1=_;rw [ih];omega
 rw [one,one,one] at h;omega
def Zy (needs:List Int) (rooms:List (List Int)) (M:List Bool):List Int:=(needs.zip rooms).map fun q=>jN (q.1-jr (fun j=>if M.getD j false=true then 0 else q.2.getD j 0) q.2.length)
def jfd (needs ins:List Int):List Int:=(needs.zip ins).map fun q=>q.1-q.2
theorem jqc {n m:Nat} {needs:List Int} {rooms:List (List Int)} {M:List Bool} (h:needs.length=n) (hr:Shape n m rooms) {i:Nat} (hi:i<n):‹"ah"›.getD i 0=jN (needs.getD i 0-qY (j5 rooms) m (zH M true) i):=by
 have e:(needs.zip rooms)[i]?=some (needs.getD i 0,rooms.getD i []):=by rw [YQ];refine ⟨?_,(hr.row hi).1⟩;show needs[i]?=some (needs.getD i 0);rw [Yc,Ya (by omega)];rfl
 unfold Zy;rw [Yc,List.getElem?_map,e];show jN (needs.getD i 0-jr _ (rooms.getD i []).length)=_;rw [(hr.row hi).2];congr 2;refine jg fun s _=>?_;rw [Qm];rfl
theorem jo0 {n:Nat} {needs ins:List Int} (h:needs.length=n) (h':ins.length=n) {i:Nat} (hi:i<n):(jfd needs ins).getD i 0=needs.getD i 0-ins.getD i 0:=by
 have e:(needs.zip ins)[i]?=some (needs.getD i 0,ins.getD i 0):=by
  rw [YQ];refine ⟨?_,?_⟩
  . show needs[i]?=some (needs.getD i 0);rw [Yc,Ya (by omega)];rfl
  . show ins[i]?=some (ins.getD i 0);rw [Yc,Ya (by omega)];rfl
 unfold jfd;rw [Yc,List.getElem?_map,e];rfl
theorem jc6 {m:Nat} (mk:Nat->Bool) (f:Nat->Int):jr (fun t=>f (pl mk m t)) (qD mk m).length=jr (fun s=>if mk s=true then f s else 0) m:=jb9 mk f m
theorem jgT {n m:Nat} {needs:List Int} {rooms:List (List Int)} {hours:List Int} (Pb:Prob n m needs rooms hours) (mk:Nat->Bool) {ns:List Int} (hl:ns.length=n) (h0:∀i,i<n->0<=ns.getD i 0) (h1:∀i,i<n->ns.getD i 0<=jr (fun t=>j5 rooms i (pl mk m t)) (qD mk m).length) :
 Prob n (qD mk m).length ns (ZP mk m rooms) (keep mk hours):=by
 refine ⟨hl,jlG Pb.sh mk,by rw [jgO,Pb.hl],h0,fun i hi=>?_,fun i t hi ht=>?_,fun t ht=>?_,?_⟩
 . rw [jg fun t ht=>jaQ Pb.sh mk hi ht];exact h1 i hi
 . rw [jaQ Pb.sh mk hi ht];exact Pb.r0 i _ hi (JQ ht).1
 . rw [jaU Pb.hl mk ht];exact Pb.h0 _ (JQ ht).1
 . rw [jg fun t ht=>jaU Pb.hl mk ht,jc6 mk fun s=>hours.getD s 0];refine Km (qt fun s hs=>?_) Pb.h1;have:=Pb.h0 s hs;split <;> omega
theorem jfE {k n m:Nat} {needs:List Int} {rooms:List (List Int)} {hours:List Int} (Pb:Prob n m needs rooms hours) (hn:n<1000) (hm:m<1000) {M:List Bool} (hM:M.length=m) {l:Int}
 (best:∀mk,qE n m ‹"m"› (j5 rooms) mk-l*zN m ‹"s"› mk<=qE n m ‹"m"› (j5 rooms) (zH M true)-l*zN m ‹"s"› (zH M true))
 (IH:∀m' needs' rooms' hours',Prob n m' needs' rooms' hours'->m'<1000->0<m'->m'<=k->∃d,(∃P,d=.lst (P.map jh)/\Shape n m' P/\jeg n m' needs' rooms' hours' P)/\zp k [.lst (needs'.map D.int),.lst (rooms'.map jh),.lst (hours'.map D.int)]=some d)
 (hH:0<(qD (zH M true) m).length) (hL:0<(qD (zH M false) m).length) (hk:m<=k+1) :
 ∃d,(∃P,d=P.map jh/\Shape n m P/\jeg n m needs rooms hours P)/\zO 4 8 (qx (zp k)) [.lst (needs.map D.int),.lst (rooms.map jh),.lst (hours.map D.int),qo M]=some d:=by
 have hadd:=jnH (zH M true) m;rw [<-jhq] at hadd;have hil:‹"ah"›.length=n:=by unfold Zy;rw [Yd,Kk,Pb.nl,Pb.sh.1,kE]
 have hol:(jfd needs ‹"ah"›).length=n:=by unfold jfd;rw [Yd,Kk,Pb.nl,hil,kE]
 have iat:=fun i (hi:i<n)=>jqc (M:=M) Pb.nl Pb.sh hi;have oat:=fun i (hi:i<n)=>jo0 (ins:=Zy needs rooms M) Pb.nl hil hi;have hsplit:∀i,i<n->jr (j5 rooms i) m=jr (fun t=>j5 rooms i (pl (zH M true) m t)) (qD (zH M true) m).length+qY (j5 rooms) m (zH M true) i:=fun i hi=>by rw [jc6 (zH M true) (j5 rooms i)];unfold qY;rw [<-qR];refine jg fun s _=>?_;split <;> omega
 have hout:∀i,qY (j5 rooms) m (zH M true) i=jr (fun t=>j5 rooms i (pl (zH M false) m t)) (qD (zH M false) m).length:=fun i=>by rw [jc6 (zH M false) (j5 rooms i)];refine jg fun s _=>?_;rw [jbC];unfold nt;cases zH M true s <;> simp
 have onn:∀i,i<n->0<=qY (j5 rooms) m (zH M true) i:=fun i hi=>J5 fun s hs=>by have:=Pb.r0 i s hi hs;split <;> omega
 have p1:Prob n (qD (zH M true) m).length ‹"ah"› (ZP (zH M true) m rooms) (keep (zH M true) hours):=jgT Pb _ hil (fun i hi=>by rw [iat i hi];exact (Jx _).1) (fun i hi=>by rw [iat i hi];have h1:=Pb.n1 i hi;rw [hsplit i hi] at h1;have h2:0<=jr (fun t=>j5 rooms i (pl (zH M true) m t)) (qD (zH M true) m).length:=J5 fun t ht=>Pb.r0 i _ hi (JQ ht).1;unfold jN;split <;> omega)
 have p2:Prob n (qD (zH M false) m).length (jfd needs ‹"ah"›) (ZP (zH M false) m rooms) (keep (zH M false) hours):=jgT Pb _ hol (fun i hi=>by
  rw [oat i hi,iat i hi];have h1:=Pb.n0 i hi;have h2:=onn i hi;unfold jN;split <;> omega) (fun i hi=>by
  rw [oat i hi,iat i hi,<- hout i];have h2:=onn i hi;unfold jN;split <;> omega)
 obtain ⟨d1,⟨P1,rfl,s1,ev1⟩,e1⟩:=IH _ _ _ _ p1 (by omega) hH (by omega);obtain ⟨d2,⟨P2,rfl,s2,ev2⟩,e2⟩:=IH _ _ _ _ p2 (by omega) hL (by omega);have kr:∀b (ρ:L2.Env) (i:Nat),ja i ρ=some ‹"b"›->Ji 1 [3] ρ=[.un,.sh (qo M)]->∀fe,(∀r:List Int,r∈rooms->fe [.sh (jh r),.sh (qo M)]=some (jh (keep (zH M b) r)))->JV (jY (ja i)) (jz 0) ‹"l"› fe 1 [3] ρ=some ((ZP (zH M b) m rooms).map jh):=fun b ρ i h1 h2 fe h3=>by refine qv (qk h1) (by rw [Yd,Pb.sh.1];omega) ?_;rw [h2];unfold ZP;rw [YG];exact Jn jh (jh∘fun r=>keep (zH M b) r) rooms fun r hr=>⟨[.sh (jh r),.sh (qo M)],rfl,rfl,h3 r hr⟩
 have kf:∀b (r:List Int),r∈rooms->Zg [jh r,qo M,.bl b]=some ((keep (zH M b) r).map D.int):=fun b r hr=>jea (by rw [Pb.sh.2 r hr,hM]) (by rw [Pb.sh.2 r hr];exact hm) b;have kh:∀b,Zg [.lst (hours.map D.int),qo M,.bl b]=some ((keep (zH M b) hours).map D.int):=fun b=>jea (x:=hours) (by rw [Pb.hl,hM]) (by rw [Pb.hl];exact hm) b;refine ji3 (ρ:=[.sh ‹"f"›,.sh ‹"b"›,.sh ‹"L"›,.sh (qo M),.un,.un,.un,.un]) _ rfl rfl fun C fin=>?_;unfold qx;refine jK [.sh ‹"f"›,.sh ‹"b"›,.sh ‹"L"›,.sh (qo M),.sh (.lst (‹"ah"›.map D.int)),.un,.un,.un] (Qq ?_) ?_
 . refine (qv (ds:=(needs.zip rooms).map fun q=>.tup [.int q.1,jh q.2]) (by show some (jal (needs.map D.int) (rooms.map jh))=_;rw [jaP]) (by rw [Yd,Kk,Pb.nl];omega) (Jn (fun q:Int×List Int=>.tup [.int q.1,jh q.2]) (fun q=>.int (jN (q.1-jr (fun j=>if M.getD j false=true then 0 else q.2.getD j 0) q.2.length))) _ fun q hq=>⟨[.sh (.int q.1),.sh (jh q.2),.sh (qo M)],rfl,rfl,jA rfl (jg6 ?_ ?_)⟩)).trans ?_
   . rw [Pb.sh.2 _ (Kj hq).2,hM]
   . rw [Pb.sh.2 _ (Kj hq).2];exact hm
   . unfold Zy;rw [YG];rfl
 refine jK [.sh ‹"f"›,.sh ‹"b"›,.sh ‹"L"›,.sh (qo M),.sh (.lst (‹"ah"›.map D.int)),.sh (.lst ((jfd needs ‹"ah"›).map D.int)),.un,.un] (Qq ?_) ?_
 . refine (qv (ds:=(needs.zip ‹"ah"›).map fun q=>.tup [.int q.1,.int q.2]) (by show some (jal (needs.map D.int) (‹"ah"›.map D.int))=_;rw [jaP]) (by rw [Yd,Kk,Pb.nl];omega) (Jn (fun q:Int×Int=>.tup [.int q.1,.int q.2]) (fun q=>.int (q.1-q.2)) _ fun q hq=>⟨[.sh (.int q.1),.sh (.int q.2)],rfl,rfl,jw rfl rfl qN⟩)).trans ?_;unfold jfd;rw [YG];rfl
 refine jK [.sh ‹"f"›,.sh ‹"b"›,.sh ‹"L"›,.sh (qo M),.sh (.lst (‹"ah"›.map D.int)),.sh (.lst ((jfd needs ‹"ah"›).map D.int)),.sh (.lst (P1.map jh)),.un] (j4 (jA (js rfl (js (qu (kr true _ 1 rfl rfl _ fun r hr=>qu (jA rfl (kf true r hr)))) (js (qu (jA rfl (kh true))) rfl))) e1)) ?_;refine jK [.sh ‹"f"›,.sh ‹"b"›,.sh ‹"L"›,.sh (qo M),.sh (.lst (‹"ah"›.map D.int)),.sh (.lst ((jfd needs ‹"ah"›).map D.int)),.sh (.lst (P1.map jh)),.sh (.lst (P2.map jh))] (j4 (jA (js rfl (js (qu (kr false _ 1 rfl rfl _ fun r hr=>qu (jA rfl (kf false r hr)))) (js (qu (jA rfl (kh false))) rfl))) e2)) ?_;refine Zs (QV (l:=((P1.zip P2).map fun q=>ja4 M q.1 q.2).map jh) ?_) (fin _ ⟨(P1.zip P2).map fun q=>ja4 M q.1 q.2,rfl,?_,?_⟩)
 . refine (qv (ds:=(P1.zip P2).map fun q=>.tup [jh q.1,jh q.2]) (by show some (jal (P1.map jh) (P2.map jh))=_;rw [jaP]) (by rw [Yd,Kk,s1.1];omega) (Jn (fun q:List Int×List Int=>.tup [jh q.1,jh q.2]) (fun q=>jh (ja4 M q.1 q.2)) _ fun q hq=>⟨[.sh (jh q.1),.sh (jh q.2),.sh (qo M)],rfl,rfl,qu (jA rfl (jgI (by omega) ?_ ?_))⟩)).trans ?_
   . rw [s1.2 _ (Kj hq).1,hM]
   . rw [s2.2 _ (Kj hq).2,hM]
   . rw [YG];rfl
 . refine ⟨by rw [Yd,Kk,s1.1,s2.1,kE],fun r hr=>?_⟩;obtain ⟨q,_,rfl⟩:=Y3.mp hr;unfold ja4;simp [hM]
 . have ev1':EvenP n (qD (zH M true) m).length (fun i=>jN (needs.getD i 0-qY (j5 rooms) m (zH M true) i)) (fun i t=>j5 rooms i (pl (zH M true) m t)) (fun t=>hours.getD (pl (zH M true) m t) 0) (j5 P1):=jcG ev1 (fun i hi=>iat i hi) (fun i t hi ht=>jaQ Pb.sh _ hi ht) (fun t ht=>jaU Pb.hl _ ht);have ev2':EvenP n (qD (nt (zH M true)) m).length (fun i=>needs.getD i 0-jN (needs.getD i 0-qY (j5 rooms) m (zH M true) i)) (fun i t=>j5 rooms i (pl (nt (zH M true)) m t)) (fun t=>hours.getD (pl (nt (zH M true)) m t) 0) (j5 P2):=by rw [<-jhq];exact jcG ev2 (fun i hi=>by rw [oat i hi,iat i hi]) (fun i t hi ht=>jaQ Pb.sh _ hi ht) (fun t ht=>jaU Pb.hl _ ht)
   refine jgi (jjI (len:=fun s=>hours.getD s 0) Pb.r0 Pb.h0 best ev1' ev2') fun i s hi hs=>?_;have e:((P1.zip P2).map fun q=>ja4 M q.1 q.2).getD i []=ja4 M (P1.getD i []) (P2.getD i []):=by have e0:(P1.zip P2)[i]?=some (P1.getD i [],P2.getD i []):=YQ.mpr ⟨(s1.row hi).1,(s2.row hi).1⟩;rw [Yc,List.getElem?_map,e0];rfl
   have e2:j5 ((P1.zip P2).map fun q=>ja4 M q.1 q.2) i s=jv M (P1.getD i []) (P2.getD i []) s:=by unfold j5;rw [e];unfold ja4;rw [Yc (l:=List.map _ _),List.getElem?_map,yy (by rw [hM];exact hs)];rfl
   rw [e2];unfold jv Zt;rw [Qm,<- jhq];rfl
theorem jlb {n m:Nat} {P:List (List Int)} (h:Shape n m P):qZ P n=jr (fun s=>jS P s) m:=by unfold qZ;rw [jg (f:=zB P) fun i hi=>Je h hi,Ju];exact jg fun s _=>(Jy h s).symm
theorem jgF {mk:Nat->Bool} {m:Nat} (h:¬0<(qD mk m).length):∀s,s<m->mk s=false:=fun s hs=>by
 cases c:mk s with
 | false=>rfl
 | true=>exact absurd (yN (ye _) (Z2 mk hs c).1) h
theorem jbN {n m:Nat} {needs:List Int} {rooms:List (List Int)} {hours:List Int} (Pb:Prob n m needs rooms hours) {l:Int} {P0 P:List (List Int)} {M:List Bool} (F:Fill n m needs rooms (hours.map (l * ·)) P0 P M)
 (h1:qZ P n≠jr ‹"m"› n) (h2:qZ P n≠l*jr ‹"s"› m):0<(qD (zH M true) m).length/\0<(qD (zH M false) m).length:=by
 have e:=jkv F;rw [joz Pb.hl] at e;constructor
 . refine Classical.byContradiction fun c=>h1 ?_;have z:∀s,s<m->M.getD s false=false:=fun s hs=>by rw [<-Qm];exact jgF c s hs
   have e1:zN m ‹"s"› (fun s=>M.getD s false)=0:=jQ fun s hs=>if_neg (by show ¬M.getD s false=true;rw [z s hs];exact Yi);have e2:qE n m ‹"m"› (j5 rooms) (fun s=>M.getD s false)=0:=jQ fun i hi=>by have e3:qY (j5 rooms) m (fun s=>M.getD s false) i=jr (j5 rooms i) m:=jg fun s hs=>if_neg (by show ¬M.getD s false=true;rw [z s hs];exact Yi);have:=Pb.n1 i hi;show jN (needs.getD i 0-_)=0;rw [e3];unfold jN;split <;> omega
   rw [e,e1,e2];omega
 . refine Classical.byContradiction fun c=>h2 ?_;have z:∀s,s<m->M.getD s false=true:=fun s hs=>by have:=jgF c s hs;rw [jbC] at this;unfold nt at this;rw [Qm] at this;simpa using this
   have e1:zN m ‹"s"› (fun s=>M.getD s false)=jr ‹"s"› m:=jg fun s hs=>if_pos (z s hs);have e2:qE n m ‹"m"› (j5 rooms) (fun s=>M.getD s false)=jr ‹"m"› n:=jg fun i hi=>by have e3:qY (j5 rooms) m (fun s=>M.getD s false) i=0:=jQ fun s hs=>if_pos (z s hs);have:=Pb.n0 i hi;show jN (needs.getD i 0-_)=_;rw [e3];unfold jN;split <;> omega
   rw [e,e1,e2];omega
theorem jiR {hours:List Int} (hl:hours.length<1000) {l l':Int} (hb:∀h∈hours,-18446744073709551616<h/\h<18446744073709551616) {fl:L2.Env->Option D} (hf:∀h:Int,fl [.sh (.int h),.sh (.int l)]=some (.int l')) {a b x y:Slot} :
 JV (jY (ja 2)) (jz 0) ‹"l"› (jk zd fl (ja 0)) 1 [3] [a,b,.sh ‹"L"›,.sh (.int l),x,y]=some ((hours.map (l' * ·)).map D.int):=by
 refine qv (qk rfl) (by rw [Yd];omega) ?_;rw [YG];exact Jn D.int (D.int∘fun h=>l' * h) hours fun h hh=>⟨[.sh (.int h),.sh (.int l)],rfl,rfl,jw (hf h) rfl (Zh (hb h hh).1 (hb h hh).2)⟩
theorem jei (n:Nat) (hn:n<1000):∀(k m:Nat) (needs:List Int) (rooms:List (List Int)) (hours:List Int),Prob n m needs rooms hours->m<1000->0<m->m<=k->∃d,(∃P,d=.lst (P.map jh)/\Shape n m P/\jeg n m needs rooms hours P)/\zp k [.lst (needs.map D.int),.lst (rooms.map jh),.lst (hours.map D.int)]=some d
 | 0,m,_,_,_,_,_,h0,h1=>by omega
 | k+1,m,needs,rooms,hours,Pb,hm,h0,h1=>by
   have hsn:needs.sum=jr ‹"m"› n:=by rw [ja6,Pb.nl]
   have hsh:hours.sum=jr ‹"s"› m:=by rw [ja6,Pb.hl]
   have sn0:0<=jr ‹"m"› n:=J5 fun i hi=>Pb.n0 i hi;have sh1:=Pb.h1;have sh0:0<jr ‹"s"› m:=Int.lt_of_lt_of_le (Pb.h0 0 h0) (jkK (fun s hs=>Y9 (Pb.h0 s hs)) h0);have hb:∀h∈hours,-18446744073709551616<h/\h<18446744073709551616:=fun h hh=>by
     obtain ⟨s,hs,es⟩:=yx hh;have e:hours.getD s 0=h:=by rw [Yc,Ya hs,es];rfl
     have a:=Pb.h0 s (by rw [<-Pb.hl];exact hs);have b:=jkK (f:=fun s=>hours.getD s 0) (n:=m) (j:=s) (fun s hs=>Y9 (Pb.h0 s hs)) (by rw [<-Pb.hl];exact hs);rw [e] at a;have b':h<=jr ‹"s"› m:=by rw [<-e];exact b
     omega
   obtain ⟨lv,hlv⟩:∃lv,needs.sum/hours.sum=lv:=⟨_,rfl⟩;have l0:0<=lv:=by rw [<-hlv,hsn];exact Int.ediv_nonneg sn0 (by rw [hsh];omega)
   have l1:lv*jr ‹"s"› m<=jr ‹"m"› n:=by rw [<-hsn,<- hsh,<- hlv];exact Int.ediv_mul_le _ (by omega)
   have l2:jr ‹"m"› n<(lv+1)*jr ‹"s"› m:=by rw [<-hsn,<- hsh,<- hlv];exact Int.lt_ediv_add_one_mul_self _ (by omega)
   have tl:∀l:Int,(hours.map (l * ·)).length=m:=fun l=>by rw [Yd];exact Pb.hl
   have F0:Feas n m needs rooms (hours.map (lv * ·)) (ZE n m):=jjE Pb.r0 Pb.n0 fun s hs=>by rw [jcZ (by rw [Pb.hl];exact hs)];exact yT l0 (Y9 (Pb.h0 s hs))
   obtain ⟨d0,⟨P0,M0,rfl,Fl⟩,e0⟩:=jbV Pb.nl Pb.sh (tl lv) F0 hn hm;have F1:Feas n m needs rooms (hours.map ((lv+1) * ·)) P0:=⟨Fl.feas.sh,Fl.feas.cell,Fl.feas.row,fun s hs=>by have a:=Fl.feas.col s hs;rw [jcZ (by rw [Pb.hl];exact hs)] at a ⊢;have:=Pb.h0 s hs;rw [Int.add_mul,Int.one_mul];omega⟩
   obtain ⟨d1,⟨P1,M1,rfl,Fu⟩,e1⟩:=jbV Pb.nl Pb.sh (tl (lv+1)) F1 hn hm;have ez:=jdG Pb.sh hn hm;have le1:qZ P1 n<=jr ‹"m"› n:=qt fun i hi=>Fu.feas.row i hi;have bestB:∀{l:Int} {Q0 Q:List (List Int)} {M:List Bool},Fill n m needs rooms (hours.map (l * ·)) Q0 Q M->∀mk,qE n m ‹"m"› (j5 rooms) mk-l*zN m ‹"s"› mk<=qE n m ‹"m"› (j5 rooms) (zH M true)-l*zN m ‹"s"› (zH M true):=fun {l Q0 Q M} F mk=>by rw [jkt (mk:=zH M true) (mk':=fun s=>M.getD s false) fun s _=>Qm M s,jmx (mk:=zH M true) (mk':=fun s=>M.getD s false) fun s _=>Qm M s];exact jna Pb.hl F mk
   have IH:=fun m' needs' rooms' hours' p (c:m'<1000) (a:0<m') (b:m'<=k)=>jei n hn k m' needs' rooms' hours' p c a b;show ∃d,_/\zk 3 6 (ja3 (zO 4 8 (qx (zp k)))) _=some d;refine Qp (ρ:=[.sh ‹"f"›,.sh ‹"b"›,.sh ‹"L"›,.un,.un,.un]) _ rfl rfl fun C fin=>?_;unfold ja3;refine jK [.sh ‹"f"›,.sh ‹"b"›,.sh ‹"L"›,.sh (.int lv),.un,.un] (j4 (jw (jA rfl sum_ints) (jA rfl sum_ints) (by rw [zc (by omega) (by omega),hlv]))) ?_;refine jK ‹"a8"› (j4 (jA (js rfl (js rfl (js (qu (jiR (by rw [Pb.hl];omega) hb fun _=>rfl)) (js (qu (jA rfl ez)) rfl)))) e0)) ?_;have ec:qV (jk dLt (jk jO (ja 4) (eC (.int 0))) (jk zd (ja 3) (ji JB (jc (ja 2) jj)))) ‹"a8"›=some (decide (qZ P0 n<lv*hours.sum)):=qh (jw (jw rfl rfl QF) (jw rfl (jA rfl sum_ints) (Zh (by omega) (by omega))) Zd);by_cases c1:qZ P0 n<lv*hours.sum
   . obtain ⟨mh,ml⟩:=jbN Pb Fl (by rw [hsh] at c1;omega) (by rw [hsh] at c1;omega);obtain ⟨d,⟨P,rfl,sP,ev⟩,ed⟩:=jfE Pb hn hm Fl.len (bestB Fl) IH mh ml h1;refine jfU ((jag (by rw [ec,YO c1])).trans (Zv (qu (jA (js rfl (js rfl (js rfl (js (jw rfl rfl jbz) rfl)))) ed)))) (fin _ ⟨P,rfl,sP,ev⟩)
   . refine jK ‹"a8"› (JS (by rw [ec,YV c1])) ?_;refine jK ‹"a9"› (j4 (jA (js rfl (js rfl (js (qu (jiR (by rw [Pb.hl];omega) hb fun _=>jw rfl rfl j1)) (js (jw rfl rfl Qg) rfl)))) e1)) ?_;have ec2:qV (jk dLt (jk jO (ja 5) (eC (.int 0))) (ji JB (jc (ja 0) jj))) ‹"a9"›=some (decide (qZ P1 n<needs.sum)):=qh (jw (jw rfl rfl QF) (jA rfl sum_ints) Zd);by_cases c2:qZ P1 n<needs.sum
     . obtain ⟨mh,ml⟩:=jbN Pb Fu (by rw [hsn] at c2;omega) (by omega);obtain ⟨d,⟨P,rfl,sP,ev⟩,ed⟩:=jfE Pb hn hm Fu.len (bestB Fu) IH mh ml h1;refine jfU ((jag (by rw [ec2,YO c2])).trans (Zv (qu (jA (js rfl (js rfl (js rfl (js (jw rfl rfl jbz) rfl)))) ed)))) (fin _ ⟨P,rfl,sP,ev⟩)
     . refine jK _ (JS (by rw [ec2,YV c2])) ?_;refine Zs (Zv (jw rfl rfl Qg)) (fin _ ⟨P1,rfl,Fu.feas.sh,?_⟩);have rows:=QZ (f:=fun i=>needs.getD i 0) (g:=zB P1) (n:=n) (fun i hi=>Fu.feas.row i hi) (by rw [hsn] at c2;show _<=qZ P1 n;omega);have cols:∀s,s<m->lv*hours.getD s 0=jS P0 s:=QZ (f:=fun s=>lv*hours.getD s 0) (g:=fun s=>jS P0 s) (n:=m) (fun s hs=>by have a:=Fl.feas.col s hs;rw [jcZ (by rw [Pb.hl];exact hs)] at a;exact a) (by rw [<-jlb Fl.feas.sh,zm];rw [hsh] at c1;omega)
       refine jj3 (l:=lv) Pb.n0 Pb.n1 Pb.h0 (fun i hi=>by rw [<-Je Fu.feas.sh hi];exact (rows i hi).symm) Fu.feas.cell (fun s hs=>?_) (fun s hs=>?_)
       . rw [cols s hs];have:=Fu.mono s hs;rw [Jy Fu.feas.sh] at this;exact this
       . have a:=Fu.feas.col s hs;rw [jcZ (by rw [Pb.hl];exact hs),Jy Fu.feas.sh] at a;exact a
theorem jp7 {ρ:L2.Env} {x y:Int} {fb fc:L2.Env->Option D} (h1:fb ρ=some (.int x)) (h2:fc ρ=some (.int y)) (h3:0<=x) (h4:x<=y):jcJ dLe dLe (eC (.int 0)) fb fc ρ=some (.bl true):=by unfold jcJ eC;simp only [h1,h2,Yf,jhY,YO h3,YO h4]
theorem jf4 {s:Ship} (hs:s.Ok):QG [jm s]=some (.bl true):=by
 have h1:=hs.lt;have h2:=hs.n0;have h3:=hs.m0;have h4:=hs.n1;have h5:=hs.m1;unfold QG;refine jaM (ρ:=[.sh (jm s),.un]) rfl rfl fun C fin=>?_;unfold jbF;refine jK [.sh (jm s),.un] (JS (jso (jgs (b:=true) (qh rfl)) (qh (jw (jA rfl rfl) rfl (jtk rfl))))) ?_;have lc:JV (jbW (jq 0)) (jz 0) ‹"l"› (ji jau (jc (jq 0) jj)) 1 [] [.sh (jm s),.un]=some ([true,true,true,true].map D.bl):=by refine qv (jk7 rfl) (by show 4<16777216;decide) ?_;exact Jn D.int (fun _=>D.bl true) [s.b,s.e,s.n,s.m] fun i _=>⟨[.sh (.int i)],rfl,rfl,rfl⟩
 refine jK [.sh (jm s),.un] (JS (jgs (b:=true) (qh (jA (js (qu lc) rfl) (jix _))))) ?_;refine jK [.sh (jm s),.sh (.int (s.e-s.b))] (j4 (jw (jw rfl rfl Qg) (jw rfl rfl QF) rfl)) ?_;refine Zs (Zv (jeZ ((jw rfl rfl jfm).trans (by rw [YO (by omega)])) (jeZ ((jw (jw rfl rfl jfl) rfl jlz).trans (by rw [YO (by omega)])) (d:=.bl true) ?_))) fin;exact jp7 (jw rfl rfl jbz) (jw (jw rfl rfl jfl) rfl (jaE (by omega) (by omega))) (by omega) (by omega)
theorem jeY {fl:List Ship} (hfl:∀s∈fl,s.Ok) (hl:fl.length<1000):Zm [.lst (fl.map jm)]=some (.bl true):=by
 unfold Zm;refine jaM (ρ:=[.sh ‹"h"›]) rfl rfl fun C fin=>?_;unfold jaw;have lc:JV (jY (ja 0)) (jz 0) ‹"l"› (ji QG (jc (jq 0) jj)) 1 [] [.sh ‹"h"›]=some ((fl.map fun _=>true).map D.bl):=by refine qv (qk rfl) (by rw [Yd];omega) ?_;rw [YG];exact Jn jm (D.bl∘fun _=>true) fl fun s hs=>⟨[.sh (jm s)],rfl,rfl,jA rfl (jf4 (hfl s hs))⟩
 refine Zs (Zv (jeZ rfl (jA (js (qu lc) rfl) (jix _)))) ?_;have:(fl.map fun _=>true).all id=true:=by simp
 rw [this];exact fin
theorem jc0 {fl:List Ship} (hfl:∀s∈fl,s.Ok) (hl:fl.length<1000):zR [.lst (fl.map jm)]=some .non:=by unfold zR zk;rw [if_pos (show ([.lst (fl.map jm)]:List D).length=1 from rfl)];unfold JO;show jex (Zu _ _ qw [.sh ‹"h"›])=_;rw [JS (jgs (b:=true) (qh (jA rfl (jeY hfl hl))))];rfl
def jcF (fl:List Ship):List Int:=(jt fl).map fun p=>p.2-p.1
theorem jfk {fl:List Ship} {j:Nat} (hj:j<(jt fl).length):(jcF fl).getD j 0=qB fl j:=by unfold jcF;rw [Yc,List.getElem?_map,jas hj];rfl
theorem jki {fl:List Ship} {s:Ship} (hs:s∈fl) (hk:s.Ok):0<(jt fl).length:=by
 have h1:s.b∈Jr fl:=mem_bnds.mpr (YE _ (Y3.mpr ⟨s,hs,rfl⟩));have h2:s.e∈Jr fl:=mem_bnds.mpr (YM _ (Y3.mpr ⟨s,hs,rfl⟩));have h3:=hk.lt;have hz:=ja1 (Jr fl);have hl:2<=(Jr fl).length:=by
  generalize Jr fl=l at h1 h2
  match l,h1,h2 with
  | [x],h1,h2=>have a:=Yu.mp h1;have b:=Yu.mp h2;omega
  | _::_::_,_,_=>simp
 unfold jt;omega
theorem jeq (c:Int):∀n:Nat,jr (fun _=>c) n=n*c
 | 0=>by simp [jr]
 | n+1=>by show jr (fun _=>c) n+c=_;rw [jeq c n,show ((n+1:Nat):Int)=(n:Int)+1 from by omega,Int.add_mul,Int.one_mul]
theorem jms {fl:List Ship} (hfl:∀s∈fl,s.Ok) (hlen:fl.length<=8):Prob fl.length (jt fl).length (jcx fl) (QT fl) (jcF fl):=by
 have hsl:(jt fl).length<40:=QM (by omega);refine ⟨Yd _,jgG fl,Yd _,fun i hi=>by rw [jaN hi];exact (hfl _ (Qo hi)).n0,fun i hi=>?_,fun i s hi hs=>by rw [jcd hi hs];exact jfG (hfl _ (Qo hi)) (jcp (jiy hs)).1,fun s hs=>by rw [jfk hs];exact (zt hfl hs).1,?_⟩
 . have e:jr (j5 (QT fl) i) (jt fl).length=((jt fl).map (qQ (shp fl i))).sum:=by rw [<-Je (jgG fl) hi];unfold zB QT;rw [Yc,List.getElem?_map,jao hi];rfl
   rw [e,jaN hi,jdX (Qo hi) (hfl _ (Qo hi))];exact (hfl _ (Qo hi)).n1
 . refine Km (qt (g:=fun _=>2000000000000000) fun s hs=>?_) ?_
   . rw [jfk hs];exact Y9 (zt hfl hs).2
   . rw [jeq];omega
theorem jj8 {fl:List Ship} (hfl:∀s∈fl,s.Ok) (hlen:fl.length<=8) :
 ∃d,(∃P,d=.lst (P.map jh)/\Shape fl.length (jt fl).length P/\jeg fl.length (jt fl).length (jcx fl) (QT fl) (jcF fl) P)/\jdg [.lst (fl.map jm)]=some d:=by
 have hsl:(jt fl).length<=16:=by have:=ZV fl;have:=ja1 (Jr fl);unfold jt;omega
 have em:=jc0 hfl (by omega);have e1:=jdI (fl:=fl) (fun s hs=>jsf (hfl s hs)) (by omega);have e2:=jeA (fl:=fl) (by omega);have e3:=jhX (fl:=fl) (by omega);rw [jnq] at e1;unfold jdg;refine Qp (ρ:=[.sh ‹"h"›]) _ rfl rfl fun C fin=>?_;unfold jhQ;refine jK [.sh ‹"h"›] (by unfold jf8;rw [jA rfl em]) ?_;have ec:qV (jk dEq (ja 0) (jM (zV jj))) [.sh ‹"h"›]=some (fl.map jm).isEmpty:=qh (jw rfl rfl jio);cases fl with
 | nil=>refine jfU (d:=.lst []) ((jag ec).trans (Zv rfl)) (fin _ ⟨[],rfl,⟨rfl,fun r hr=>absurd hr YD⟩,⟨fun i hi=>absurd hi (KQ _),fun i s hi=>absurd hi (KQ _),fun k=>⟨fun _=>false,?_⟩⟩⟩);show (0:Int)=0-k*0;omega
 | cons s fl=>have h0:=jki (fl:=s::fl) Ye (hfl s Ye);obtain ⟨d,hd,ed⟩:=jei (s::fl).length (by simp at hlen ⊢;omega) 17 _ _ _ _ (jms hfl hlen) (by omega) h0 (by omega);refine jK [.sh (.lst ((s::fl).map jm))] (JS ec) ?_;exact Zs (Zv (jA (js (qu (jA rfl e3)) (js (qu (jA rfl e1)) (js (qu (jA rfl e2)) rfl))) ed)) (fin _ hd)
def jb0 (P:List (List Int)) (n:Nat):List Int:=(List.range n).map (jS P)
theorem jjC {S:List (Int×Int)} (hS:S.length<1000) {P:List (List Int)} (hr:∀r∈P,r.length=S.length) (hPl:P.length<=8):JV (Qz (jc (ji qS (jc (ja 0) jj)) jj)) (jz 0) ‹"l"› ‹"a7"› 1 [1] [.sh ‹"aR"›,.sh ‹"r"›]=some ((jb0 P S.length).map D.int):=by
 have hz:Qz (jc (ji qS (jc (ja 0) jj)) jj) [.sh ‹"aR"›,.sh ‹"r"›]=some ((List.range S.length).map fun j:Nat=>D.int (j:Int)):=by rw [Qu (j:=(S.length:Int)) (by simp (disch:=omega) only [jc,ji,ja,Yk,jj,Yl,Yf,jaz];simp only [Yd]) (by omega) (by omega),Yt,je3]
 have hc:∀j,j<S.length->‹"a7"› [.sh (.int (j:Int)),.sh ‹"r"›]=some (.int (jS P j)):=fun j hj'=>by
  have lc:=qv (fi:=jY (ja 1)) (ρ:=[.sh (.int j),.sh ‹"r"›]) (m:=jz 0) (ft:=fun _=>some true) (fe:=jk jO (ja 0) (ja 1)) (n:=1) (ix:=[0]) (qk rfl) (by rw [Yd];omega)
   (Jn jh (fun r=>.int (r.getD j 0)) P fun r h=>⟨[.sh (jh r),.sh (.int j)],rfl,rfl,by have:=JR (l:=r) (i:=j) (by rw [hr r h];exact hj');unfold jh;simp (disch:=omega) only [jk,ja,Yk,Yp,Yf];exact this⟩)
  have s1:=jcc (P.map fun r=>r.getD j 0);rw [YG] at s1;clear hz hr;simp (disch:=omega) only [ji,jc,jM,jj,Yl];simp only [lc];simp (disch:=omega) only [Yl,Yf];exact s1
 unfold jb0;rw [YG];exact qv hz (by rw [Yd,List.length_range];omega) (Jn (fun j:Nat=>D.int (j:Int)) (fun j=>.int (jS P j)) _ fun j hj=>⟨[.sh (.int j),.sh ‹"r"›],rfl,rfl,hc j (KA.mp hj)⟩)
theorem jf1 {S:List (Int×Int)} (hS:S.length<1000) {P:List (List Int)} (hr:∀r∈P,r.length=S.length) (hPl:P.length<=8):QD [.lst (S.map jD),.lst (P.map jh)]=some ((jb0 P S.length).map D.int):=jnL (m:=QE) (ρ:=[.sh ‹"aR"›,.sh ‹"r"›]) rfl rfl (QV (jjC hS hr hPl))
theorem jrm {P:List (List Int)} {n j:Nat} (h:j<n):jO (.lst ((jb0 P n).map D.int)) (.int j)=some (.int (jS P j)):=by refine jan (by omega) ?_;unfold jb0;rw [Yt,List.getElem?_map,List.getElem?_map,yy h];rfl
def JP (fl:List Ship) (P:List (List Int)) (k:Int):Int:=jr (fun j=>jN (jS P j-k*qB fl j)) (jt fl).length
theorem jcX {fl:List Ship} {P:List (List Int)} (h:PlanOk fl P):Shape fl.length (jt fl).length P/\(∀i,i<fl.length->jr (j5 P i) (jt fl).length=(jcx fl).getD i 0)/\∀i s,i<fl.length->s<(jt fl).length->0<=j5 P i s/\j5 P i s<=j5 (QT fl) i s:=by
 have sh:Shape fl.length (jt fl).length P:=⟨h.len,h.rows⟩;refine ⟨sh,fun i hi=>?_,fun i s hi hs=>?_⟩
 . rw [<-Je sh hi,jaN hi];exact (h.row i _ _ (sh.row hi).1 (jao hi)).sum
 . rw [jcd hi hs];refine (h.row i _ _ (sh.row hi).1 (jao hi)).bd s _ _ ?_ (jas hs);unfold j5;rw [Yc (l:=P.getD i []),Ya (by rw [(sh.row hi).2];exact hs)];rfl
theorem jmz {n m:Nat} {need:Nat->Int} {room:Nat->Nat->Int} {len:Nat->Int} {Q:Nat->Nat->Int} (row:∀i,i<n->jr (Q i) m=need i) (cell:∀i s,i<n->s<m->0<=Q i s/\Q i s<=room i s) (mk:Nat->Bool) (k:Int):qE n m need room mk-k*zN m len mk<=zg n m len Q k:=by
 have h1:qE n m need room mk<=jr (fun s=>if mk s=true then Jk n Q s else 0) m:=by
  have e:jr (fun s=>if mk s=true then Jk n Q s else 0) m=jr (fun i=>jr (fun s=>if mk s=true then Q i s else 0) m) n:=by
   rw [Ju];refine jg fun s _=>?_;by_cases c:mk s=true
   . rw [if_pos c];exact jg fun i _=>by rw [if_pos c]
   . rw [if_neg c,jQ];intro i _;rw [if_neg c]
  rw [e];refine qt fun i hi=>?_;have r:=row i hi;have sp:jr (Q i) m=jr (fun s=>if mk s=true then Q i s else 0) m+jr (fun s=>if mk s=true then 0 else Q i s) m:=by rw [<-qR];exact jg fun s _=>by split <;> omega
  have le:jr (fun s=>if mk s=true then 0 else Q i s) m<=qY room m mk i:=qt fun s hs=>by have:=(cell i s hi hs).2;split <;> omega
  have nn:0<=jr (fun s=>if mk s=true then Q i s else 0) m:=J5 fun s hs=>by have:=(cell i s hi hs).1;split <;> omega
  show jN (need i-qY room m mk i)<=_;unfold jN;split <;> omega
 have h2:jr (fun s=>if mk s=true then Jk n Q s else 0) m-k*zN m len mk<=zg n m len Q k:=by
  unfold zN zg;rw [<-zm,<- JI];refine qt fun s _=>?_;have:=Jx (Jk n Q s-k*len s);by_cases c:mk s=true
  . rw [if_pos c,if_pos c];omega
  . rw [if_neg c,if_neg c,Int.mul_zero];omega
 omega
theorem ji2 {fl:List Ship} {P:List (List Int)} (h:Shape fl.length (jt fl).length P) (k:Int):JP fl P k=zg fl.length (jt fl).length (fun s=>(jcF fl).getD s 0) (j5 P) k:=by unfold JP zg;refine jg fun s hs=>?_;rw [Jy h,<- jfk hs];rfl
theorem jm5 {fl:List Ship} {E P:List (List Int)} (sE:Shape fl.length (jt fl).length E) (hE:jeg fl.length (jt fl).length (jcx fl) (QT fl) (jcF fl) E) (hP:PlanOk fl P) (k:Int):JP fl E k<=JP fl P k:=by obtain ⟨sP,r,c⟩:=jcX hP;rw [ji2 sE,ji2 sP];obtain ⟨mk,e⟩:=hE.even k;rw [e];exact jmz r c mk k
def Qd (T l:Int):List (Int×Int):=(T/l,l-T%l)::if T%l>0 then [(T/l+1,T%l)] else []
theorem jrH {i j:Int}:dGt (.int i) (.int j)=some (.bl (decide (i>j))):=jfm
theorem jhp {T l:Int} (hl:0<l) (hl2:l<2000000000000000):Zl [.int T,.int l]=some ((Qd T l).map jD):=by
 unfold Zl;refine jca (ρ:=[.sh (.int T),.sh (.int l),.un,.un,.un]) rfl rfl fun C fin=>?_;unfold jaA;refine jK [.sh (.int T),.sh (.int l),.sh (.int (T/l)),.un,.un] (j4 (jw rfl rfl (zc hl (by omega)))) ?_;refine jK [.sh (.int T),.sh (.int l),.sh (.int (T/l)),.sh (.int (T%l)),.un] (j4 (jw rfl rfl (jZ hl))) ?_;refine jK ‹"W"› rfl ?_;have tc:qV (jk dGt (ja 3) (eC (.int 0))) ‹"W"›=some (decide (T%l>0)):=qh (jw rfl rfl jrH);by_cases c:T%l>0
 . rw [YO c] at tc;refine jK [.sh (.int T),.sh (.int l),.sh (.int (T/l)),.sh (.int (T%l)),.ow [jD (T/l,l-T%l),jD (T/l+1,T%l)]] ((jag tc).trans ((jl6 (ds:=[jD (T/l,l-T%l)]) rfl rfl (by show 1<16777216;decide)).trans rfl)) ?_;unfold Qd at fin;rw [if_pos c] at fin;exact fin
 . rw [YV c] at tc;refine jK ‹"W"› (JS tc) ?_;unfold Qd at fin;rw [if_neg c] at fin;exact fin
def Qx:List (Int×Int)->Int->Int->List (Int×Int)
 | [],k,h=>[(k,h)]
 | p::R,k,h=>if p.1=k then (p.1,p.2+h)::R else p::Qx R k h
def jU (R:List (Int×Int)):List Int:=R.map (·.1)
def zb (R:List (Int×Int)):List D:=R.map fun p=>.int p.2
def Qk (f:Int->Int) (R:List (Int×Int)):Int:=(R.map fun p=>f p.1*p.2).sum
theorem qO (f:Int->Int) (p:Int×Int) (R:List (Int×Int)):Qk f (p::R)=f p.1*p.2+Qk f R:=by unfold Qk;rw [List.map_cons,List.sum_cons]
theorem jgh (f:Int->Int) (k h:Int):∀R,Qk f (Qx R k h)=Qk f R+f k*h
 | []=>by unfold Qx;rw [qO];show f k*h+0=0+f k*h;omega
 | p::R=>by
   unfold Qx;by_cases c:p.1=k
   . rw [if_pos c,qO,qO,c,Int.mul_add];show f k*p.2+f k*h+Qk f R=_;omega
   . rw [if_neg c,qO,qO,jgh f k h R];omega
theorem jdl {k h:Int} {q:Int×Int}:∀{R:List (Int×Int)},q∈Qx R k h->q∈R\/(q=(k,h)/\k∉jU R)\/∃p∈R,p.1=k/\q=(p.1,p.2+h)
 | [],hq=>by have:=Yu.mp hq;exact .inr (.inl ⟨this,YD⟩)
 | p::R,hq=>by
   unfold Qx at hq;by_cases c:p.1=k
   . rw [if_pos c] at hq;rcases Yn.mp hq with e | e
     . exact .inr (.inr ⟨p,Ye,c,e⟩)
     . exact .inl (Yg _ e)
   . rw [if_neg c] at hq;rcases Yn.mp hq with e | e
     . exact .inl (by rw [e];exact Ye)
     . rcases jdl e with z | ⟨z,w⟩ | ⟨r,hr,z⟩
       . exact .inl (Yg _ z)
       . refine .inr (.inl ⟨z,fun y=>?_⟩);rcases Yn.mp y with y | y
         . exact c y.symm
         . exact w y
       . exact .inr (.inr ⟨r,Yg _ hr,z⟩)
theorem Z5 (k h:Int):∀R,jU (Qx R k h)=Qi (jU R) k
 | []=>by unfold Qx Qi;rw [if_neg (show k∉jU [] from YD)];rfl
 | p::R=>by
   have ih:=Z5 k h R;unfold Qx Qi;by_cases c:p.1=k
   . rw [if_pos c,if_pos (by rw [<-c];exact Ye)];rfl
   . rw [if_neg c];show p.1::jU (Qx R k h)=_;rw [ih];unfold Qi;by_cases m:k∈jU R
     . rw [if_pos m,if_pos (show k∈jU (p::R) from Yg _ m)];rfl
     . rw [if_neg m,if_neg (show k∉jU (p::R) from fun z=>by rcases Yn.mp z with z | z;exact c z.symm;exact m z)];rfl
theorem jjz {k:Int}:∀{R:List (Int×Int)},k∉jU R->qF (jU R) (zb R) k=none
 | [],_=>rfl
 | p::R,h=>by show (if p.1=k then _ else _)=_;rw [if_neg fun z=>h (by rw [<-z];exact Ye)];exact jjz fun z=>h (Yg _ z)
theorem jiY {k:Int} {e:D}:∀{R:List (Int×Int)},k∉jU R->jef (jU R) (zb R) k e=zb R
 | [],_=>rfl
 | p::R,h=>by show (if p.1=k then e else .int p.2)::jef (jU R) (zb R) k e=_;rw [if_neg fun z=>h (by rw [<-z];exact Ye),jiY fun z=>h (Yg _ z)];rfl
theorem jd6 (k h:Int):∀R,(jU R).Nodup->∃x,(qF (jU R) (zb R) k).getD (.int 0)=.int x/\jbP (jU R) (zb R) k (.int (x+h))=zb (Qx R k h)
 | [],_=>⟨0,rfl,by unfold jbP;rw [if_neg (show k∉jU [] from YD),K5];rfl⟩
 | p::R,nd=>by
   have nd':=yc.mp (show (p.1::jU R).Nodup from nd);by_cases c:p.1=k
   . refine ⟨p.2,?_,?_⟩
     . show (if p.1=k then some (D.int p.2) else _).getD _=_;rw [if_pos c];rfl
     . unfold jbP Qx;rw [if_pos (show k∈jU (p::R) by rw [<-c];exact Ye),if_pos c];show (if p.1=k then D.int (p.2+h) else .int p.2)::jef (jU R) (zb R) k _=D.int (p.2+h)::zb R;rw [if_pos c,jiY (by rw [<-c];exact nd'.1)]
   . obtain ⟨x,h1,h2⟩:=jd6 k h R nd'.2;refine ⟨x,?_,?_⟩
     . show (if p.1=k then some (D.int p.2) else qF (jU R) (zb R) k).getD _=_;rw [if_neg c];exact h1
     . unfold Qx;rw [if_neg c];show _=D.int p.2::zb (Qx R k h);rw [<-h2];unfold jbP;by_cases m:k∈jU R
       . rw [if_pos m,if_pos (show k∈jU (p::R) from Yg _ m)];show (if p.1=k then _ else D.int p.2)::_=_;rw [if_neg c];rfl
       . rw [if_neg m,if_neg (show k∉jU (p::R) from fun z=>by rcases Yn.mp z with z | z;exact c z.symm;exact m z)];rfl
theorem jkf {ks:List Int} (h:ks.Nodup) (k:Int):(Qi ks k).Nodup:=by
 unfold Qi;by_cases m:k∈ks
 . rw [if_pos m];exact h
 . rw [if_neg m];refine KZ.mpr ⟨h,by simp,fun a ha b hb z=>?_⟩;rw [Yu.mp hb] at z;exact m (by rw [<-z];exact ha)
theorem jm0 (ks:List Int) (k:Int):(Qi ks k).length<=ks.length+1:=by
 unfold Qi;split
 . omega
 . rw [YR];simp
structure Cnt (Pk:Int->Prop) (R:List (Int×Int)) (n:Nat):Prop where
 nd:(jU R).Nodup
 pos:∀p∈R,1<=p.2
 nn:∀p∈R,Pk p.1
 len:R.length<=n
theorem Cnt.add {Pk:Int->Prop} {R:List (Int×Int)} {n:Nat} (c:Cnt Pk R n) {k h:Int} (hh:1<=h) (hk:Pk k):Cnt Pk (Qx R k h) (n+1):=by
 refine ⟨by rw [Z5];exact jkf c.nd k,fun q hq=>?_,fun q hq=>?_,?_⟩
 . rcases jdl hq with z | ⟨z,_⟩ | ⟨p,hp,_,z⟩
   . exact c.pos q z
   . rw [z];exact hh
   . rw [z];have:=c.pos p hp;show 1<=p.2+h;omega
 . rcases jdl hq with z | ⟨z,_⟩ | ⟨p,hp,_,z⟩
   . exact c.nn q z
   . rw [z];exact hk
   . rw [z];exact c.nn p hp
 . have e:(Qx R k h).length=(Qi (jU R) k).length:=by rw [<-Z5 k h];unfold jU;rw [Yd]
   have:=jm0 (jU R) k;have:(jU R).length=R.length:=by unfold jU;rw [Yd]
   have:=c.len;omega
theorem jkh {Pk:Int->Prop} {z0 z1 z3 z4:Slot} {R:List (Int×Int)} {n:Nat} (c:Cnt Pk R n) (hn:n<1000) (k h:Int) :
 Zr 2 (jq 5) (jk qL (jbu (ja 2) (ja 5) (eC (.int 0))) (ja 6)) [z0,z1,.od (jU R) (zb R),z3,z4,.sh (.int k),.sh (.int h)]=.next [z0,z1,.od (jU (Qx R k h)) (zb (Qx R k h)),z3,z4,.sh (.int k),.sh (.int h)]:=by
 obtain ⟨x,h1,h2⟩:=jd6 k h R c.nd;have e:jk qL (jbu (ja 2) (ja 5) (eC (.int 0))) (ja 6) [z0,z1,.od (jU R) (zb R),z3,z4,.sh (.int k),.sh (.int h)]=some (.int (x+h)):=by refine jw (x:=.int x) ?_ rfl j1;show some ((qF (jU R) (zb R) k).getD (.int 0))=_;rw [h1]
 have hl:(jU R).length=R.length:=by unfold jU;rw [Yd]
 have hc:=c.len;unfold Zr;rw [e];show (if zI (jU R).length=true then Res.next _ else _)=_;rw [if_pos (jV (by omega)),<- Z5,h2];rfl
def jaj (f:Int->Int) (T l:Int):Int:=f (T/l)*(l-T%l)+f (T/l+1)*(T%l)
def jh3 (R:List (Int×Int)):List (Int×Int)->List (Int×Int)
 | []=>R
 | q::l=>jh3 (Qx R q.1 q.2) l
theorem jgf (f:Int->Int):∀(l R:List (Int×Int)),Qk f (jh3 R l)=Qk f R+Qk f l
 | [],R=>by show Qk f R=Qk f R+0;omega
 | q::l,R=>by show Qk f (jh3 (Qx R q.1 q.2) l)=_;rw [jgf f l,jgh,qO];omega
theorem jjZ (f:Int->Int) (T l:Int) (hl:0<l):Qk f (Qd T l)=jaj f T l:=by
 unfold Qd jaj;have:=yD T (show l≠0 by omega);by_cases c:T%l>0
 . rw [if_pos c,qO,qO];show _+(_+0)=_;rw [kJ]
 . have e:T%l=0:=by omega
   rw [if_neg c,qO,e];show _+0=_;rw [Int.mul_zero]
theorem jjf {m:D->L2.Env->Option L2.Env} {B:FS} {d:D} {ds:List D} {ρ ρ1 ρ2:L2.Env} (h1:m d ρ=some ρ1) (h2:B ρ1=.next ρ2):JG m B (d::ds) ρ=JG m B ds ρ2:=by simp only [JG,h1,h2]
theorem jl9 {l m:List Int} (h:l.Perm m):l.sum=m.sum:=by
 induction h with
 | nil=>rfl
 | cons x _ ih=>rw [List.sum_cons,List.sum_cons,ih]
 | swap x y l=>simp only [List.sum_cons];omega
 | trans _ _ a b=>rw [a,b]
theorem jjH {Pk:Int->Prop} {fl:List Ship} (hfl:∀s∈fl,s.Ok) (hlen:fl.length<=8) {P:List (List Int)} (hr:∀r∈P,r.length=(jt fl).length) (hPl:P.length<=8) (hn:∀j,j<(jt fl).length->Pk (jS P j/qB fl j)/\Pk (jS P j/qB fl j+1)) :
 ∃R:List (Int×Int),QO [.lst (fl.map jm),.lst (P.map jh)]=some (R.map jD)/\R.Pairwise (fun a b=>b.1<a.1)/\(∀p∈R,Pk p.1/\1<=p.2)/\R.length<64/\∀f:Int->Int,Qk f R=jr ‹"ad"› (jt fl).length:=by
 have hsl:(jt fl).length<=16:=by have:=ZV fl;have:=ja1 (Jr fl);unfold jt;omega
 have est:=Qf fl (by omega)
 suffices main:∀C:Res->Prop,(∀R:List (Int×Int),Cnt Pk R (2*(jt fl).length)->(∀f:Int->Int,Qk f R=jr ‹"ad"› (jt fl).length)->C (.retO ((jeU R).map jD)))->C (ja7 [.sh ‹"h"›,.sh ‹"r"›,.un,.un,.un,.un,.un]) by refine main (fun r=>∃R:List (Int×Int),jbn r=some (R.map jD)/\R.Pairwise (fun a b=>b.1<a.1)/\(∀p∈R,Pk p.1/\1<=p.2)/\R.length<64/\∀f:Int->Int,Qk f R=jr ‹"ad"› (jt fl).length) fun R c hf=>?_;have pm:=Z3 R;refine ⟨jeU R,rfl,jbH c.nd,fun p hp=>⟨c.nn p (pm.mem_iff.mp hp),c.pos p (pm.mem_iff.mp hp)⟩,by rw [pm.length_eq];have:=c.len;omega,fun f=>?_⟩;rw [<-hf f];exact jl9 (pm.map fun p=>f p.1*p.2)
 intro C fin;unfold ja7;refine jK [.sh ‹"h"›,.sh ‹"r"›,.od (jU []) (zb []),.un,.un,.un,.un] rfl ?_;refine jdn (fun j:Nat=>D.tup [.int (j:Int),jD (spn fl j)]) (jt fl).length (fun j ρ=>∃(R:List (Int×Int)) (z3 z4 z5 z6:Slot),Cnt Pk R (2*j)/\(∀f:Int->Int,Qk f R=jr ‹"ad"› j)/\ρ=[.sh ‹"h"›,.sh ‹"r"›,.od (jU R) (zb R),z3,z4,z5,z6])
  ?_ ⟨[],_,_,_,_,⟨List.nodup_nil,fun p hp=>absurd hp YD,fun p hp=>absurd hp YD,ye _⟩,fun f=>rfl,rfl⟩ ?_ ?_
 . unfold Qy;rw [js (qu (jA rfl est)) rfl];show some (ZQ ((jt fl).map jD))=_;rw [ZZ jD (0,0)];rfl
 . rintro j ρ hj ⟨R,z3,z4,z5,z6,c,hf,rfl⟩;have hL:=zt hfl hj;have et:=jaB (P:=P) (j:=j) (fun r h=>by rw [hr r h];exact hj) (by omega);have el:=ZL (spn fl j);have eo:=jhp (T:=jS P j) hL.1 hL.2;have m0:=yD (jS P j) (show qB fl j≠0 by omega);have m1:=yf (jS P j) hL.1;have d0:=hn j hj;refine ⟨[.sh ‹"h"›,.sh ‹"r"›,.od (jU R) (zb R),.sh (.int j),.sh (jD (spn fl j)),z5,z6],?_⟩;have hgo:∀(l R:List (Int×Int)) (n:Nat) (z5 z6:Slot),Cnt Pk R n->n+l.length<1000->(∀q∈l,Pk q.1/\1<=q.2)->∃y5 y6,JG (Qh 2 (j2 (jz 5) (j2 (jz 6) Qn))) (Zr 2 (jq 5) (jk qL (jbu (ja 2) (ja 5) (eC (.int 0))) (ja 6))) (l.map jD) [.sh ‹"h"›,.sh ‹"r"›,.od (jU R) (zb R),.sh (.int j),.sh (jD (spn fl j)),z5,z6]=.next [.sh ‹"h"›,.sh ‹"r"›,.od (jU (jh3 R l)) (zb (jh3 R l)),.sh (.int j),.sh (jD (spn fl j)),y5,y6]/\Cnt Pk (jh3 R l) (n+l.length):=by
    intro l;induction l with
    | nil=>intro R n z5 z6 c _ _;exact ⟨z5,z6,rfl,c⟩
    | cons q l ih=>intro R n z5 z6 c hn hq;have hq0:=hq q Ye;rw [YA] at hn;obtain ⟨y5,y6,e,c'⟩:=ih (Qx R q.1 q.2) (n+1) (.sh (.int q.1)) (.sh (.int q.2)) (c.add hq0.2 hq0.1) (by omega) fun x hx=>hq x (Yg _ hx);refine ⟨y5,y6,?_,by rw [YA];rw [show n+(l.length+1)=n+1+l.length by omega];exact c'⟩;exact (jjf (ρ1:=[.sh ‹"h"›,.sh ‹"r"›,.od (jU R) (zb R),.sh (.int j),.sh (jD (spn fl j)),.sh (.int q.1),.sh (.int q.2)]) rfl (jkh c (by omega) q.1 q.2)).trans e
   have hql:∀q∈Qd (jS P j) (qB fl j),Pk q.1/\1<=q.2:=fun q hq=>by
    unfold Qd at hq;rcases Yn.mp hq with rfl | hq
    . exact ⟨d0.1,by show 1<=qB fl j-_;omega⟩
    . split at hq
      . rw [Yu.mp hq];exact ⟨d0.2,by show 1<=jS P j%qB fl j;omega⟩
      . cases hq
   have hll:(Qd (jS P j) (qB fl j)).length<=2:=by
    unfold Qd;rw [YA];split
    . exact Yq 2
    . exact KG 1
   obtain ⟨y5,y6,e,c'⟩:=hgo (Qd (jS P j) (qB fl j)) R (2*j) z5 z6 c (by omega) hql;refine ⟨_,rfl,?_,jh3 R (Qd (jS P j) (qB fl j)),.sh (.int j),.sh (jD (spn fl j)),y5,y6,⟨c'.nd,c'.pos,c'.nn,by have:=c'.len;omega⟩,fun f=>?_,rfl⟩
   . unfold zW;rw [qk (qu (jA (js (jA rfl et) (js (jA rfl el) rfl)) eo))];exact e
   . rw [jgf,hf f,jjZ f _ _ hL.1];rfl
 . rintro ρ ⟨R,z3,z4,z5,z6,c,hf,rfl⟩;refine Zs (QV (l:=(jeU R).map jD) ?_) (fin R c hf);have hk:(jU R).length=R.length:=by unfold jU;rw [Yd]
   have hc:=c.len;have hz:(jU R).zip (R.map (·.2))=R:=by unfold jU;rw [List.zip_map'];exact List.map_id' R
   show (Ql (zb R)).bind _=_;rw [show zb R=(R.map (·.2)).map D.int by unfold zb;rw [YG];rfl,Js,Yf,if_pos ⟨by rw [hk,Yd],c.nd,by omega⟩,hz];rfl
theorem jlO {fl:List Ship} (hfl:∀s∈fl,s.Ok) (hlen:fl.length<=8) {P:List (List Int)} (hr:∀r∈P,r.length=(jt fl).length) (hPl:P.length<=8) (hn:∀j,j<(jt fl).length->0<=jS P j) :
 ∃R:List (Int×Int),QO [.lst (fl.map jm),.lst (P.map jh)]=some (R.map jD)/\R.Pairwise (fun a b=>b.1<a.1)/\(∀p∈R,0<=p.1/\1<=p.2)/\R.length<64/\∀f:Int->Int,Qk f R=jr ‹"ad"› (jt fl).length:=
 jjH (Pk:=fun k=>0<=k) hfl hlen hr hPl fun j hj=>by have:=Int.ediv_nonneg (hn j hj) (Y9 (zt hfl hj).1);exact ⟨this,by omega⟩
theorem jhh {T l k:Int} (hl:0<l):jaj (fun h=>jN (h-k)) T l=jN (T-k*l):=by
 have e:=Int.mul_ediv_add_emod T l;have m0:=yD T (show l≠0 by omega);have m1:=yf T hl;unfold jaj;dsimp only;generalize T/l=q at e;generalize T%l=r at e m0 m1;have e2:T-k*l=l*(q-k)+r:=by rw [<-e,Int.mul_sub,Int.mul_comm k l];omega
 rw [e2];by_cases c:k<=q
 . have p1:jN (q-k)=q-k:=by unfold jN;split <;> omega
   have p2:jN (q+1-k)=q-k+1:=by unfold jN;split <;> omega
   have nn:=yT (Y9 hl) (show 0<=q-k by omega);have p3:jN (l*(q-k)+r)=l*(q-k)+r:=by unfold jN;split <;> omega
   rw [p1,p2,p3,Int.mul_sub,Int.add_mul,Int.one_mul,Int.mul_comm (q-k) l];omega
 . have p1:jN (q-k)=0:=by unfold jN;split <;> omega
   have p2:jN (q+1-k)=0:=by unfold jN;split <;> omega
   have nn:=yP (show q-k <= -1 by omega) (Y9 hl);have p3:jN (l*(q-k)+r)=0:=by unfold jN;split <;> omega
   rw [p1,p2,p3,kF,kF];rfl
theorem jes {fl:List Ship} (hfl:∀s∈fl,s.Ok) {P:List (List Int)} {R:List (Int×Int)} (h:∀f:Int->Int,Qk f R=jr ‹"ad"› (jt fl).length) (k:Int):Qk (fun h=>jN (h-k)) R=JP fl P k:=by rw [h];exact jg fun j hj=>jhh (zt hfl hj).1
theorem Q4 (c:Int):∀n:Nat,jr (fun _=>c) n=n*c
 | 0=>by simp [jr]
 | n+1=>by show jr (fun _=>c) n+c=_;rw [Q4 c n,show ((n+1:Nat):Int)=(n:Int)+1 from by omega,Int.add_mul,Int.one_mul]
theorem jgJ {fl:List Ship} (hfl:∀s∈fl,s.Ok) (hlen:fl.length<=8):jr (qB fl) (jt fl).length<18446744073709551616:=by have hsl:(jt fl).length<40:=QM (by omega);refine Int.lt_of_le_of_lt (qt (g:=fun _=>2000000000000000) fun s hs=>Y9 (zt hfl hs).2) ?_;rw [Q4];omega
theorem je9 {fl:List Ship} {P:List (List Int)} (hP:PlanOk fl P) {j:Nat} (hj:j<(jt fl).length):0<=jS P j:=by
 unfold jS;have:∀r∈P,0<=r.getD j 0:=fun r hr=>by
  obtain ⟨i,hi,rfl⟩:=yx hr;have hrl:=hP.rows _ (Kr hi);have hif:i<fl.length:=by rw [<-hP.len];exact hi
  have ro:=hP.row i _ _ (Ya hi) (Ya hif);have:=ro.bd j (P[i].getD j 0) (spn fl j) (by rw [Yc,Ya (by rw [hrl];exact hj)];rfl) (jas hj);exact this.1
 generalize P=Q at this;induction Q with
 | nil=>exact yk _
 | cons r Q ih=>have:=ih fun x hx=>this x (Yg _ hx);have:=‹∀x∈r::Q,0<=x.getD j 0› r Ye;rw [List.map_cons,List.sum_cons];omega
theorem jg0 {fl:List Ship} (hfl:∀s∈fl,s.Ok) (hlen:fl.length<=8) {P:List (List Int)} (hP:PlanOk fl P) {j:Nat} (hj:j<(jt fl).length):jS P j<=8000000000000000*qB fl j:=by
 obtain ⟨sh,_,cell⟩:=jcX hP;have hL:=zt hfl hj;rw [Jy sh];refine Km (qt (g:=fun _=>1000000000000000*qB fl j) fun i hi=>?_) ?_
 . refine Km (cell i j hi hj).2 ?_;rw [jcd hi hj];have ok:=hfl _ (Qo hi);have m1:=YX ok.m1 (Y9 hL.1);unfold qQ;split
   . exact m1
   . have:=yT (show (0:Int)<=1000000000000000 by decide) (Y9 hL.1);omega
 . rw [Q4];have:(fl.length:Int)*(1000000000000000*qB fl j)<=8*(1000000000000000*qB fl j):=YX (by omega) (yT (by decide) (Y9 hL.1));omega
theorem jh4 {fl:List Ship} {P:List (List Int)} (hP:PlanOk fl P):JP fl P 0=(fl.map (·.n)).sum:=by
 obtain ⟨sh,row,_⟩:=jcX hP;unfold JP;have e1:jr (fun j=>jN (jS P j-0*qB fl j)) (jt fl).length=jr (fun s=>jr (fun i=>j5 P i s) fl.length) (jt fl).length:=jg fun j hj=>by have:=je9 hP hj;rw [<-Jy sh,kF,kG];unfold jN;split <;> omega
 rw [e1,<- Ju];have e2:=jaI (fun s:Ship=>s.n) ⟨0,0,0,0⟩ fl;rw [e2];exact jg fun i hi=>by rw [row i hi,jaN hi];rfl
theorem jhW {fl:List Ship} (hfl:∀s∈fl,s.Ok) (hlen:fl.length<=8):0<=(fl.map (·.n)).sum/\(fl.map (·.n)).sum<=8000000000000000000000000000000:=by
 have e:=jaI (fun s:Ship=>s.n) ⟨0,0,0,0⟩ fl;rw [e];refine ⟨J5 fun i hi=>(hfl _ (Qo hi)).n0,Km (qt (g:=fun _=>1000000000000000000000000000000) fun i hi=>?_) ?_⟩
 . have ok:=hfl _ (Qo hi);have a:=yP ok.long ok.m0;have b:=ok.m1;have c:=ok.n1;show (shp fl i).n<=_;omega
 . rw [Q4];omega
theorem big {x:Int} (h1:-100000000000000000000000000000000<=x) (h2:x<=100000000000000000000000000000000):x.natAbs<2 ^ 400:=by
 have:(100000000000000000000000000000000:Nat)<2 ^ 400:=by decide
 omega
theorem jmP {fl:List Ship} (hl:fl.length<=8) {ρ:L2.Env} (h:ja 1 ρ=some ‹"h"›):ji JB (jc (jM (JV (jY (ja 1)) (jz 0) ‹"l"› (jk jO (ja 0) (eC (.int 2))) 1 [])) jj) ρ=some (.int (fl.map (·.n)).sum):=by refine jA (js (qu (l:=(fl.map (·.n)).map D.int) (qv (qk h) (by rw [Yd];omega) ?_)) rfl) sum_ints;rw [YG];exact Jn jm _ fl fun s _=>⟨[.sh (jm s)],rfl,rfl,jw rfl rfl jbz⟩
theorem jji {fl:List Ship} {E:List (List Int)} (sE:Shape fl.length (jt fl).length E) (hE:jeg fl.length (jt fl).length (jcx fl) (QT fl) (jcF fl) E):PlanOk fl E:=by
 refine ⟨sE.1,fun i r s hr hs=>?_⟩;have hi:i<fl.length:=by
  rcases Y2 i fl.length with z | z
  . exact z
  . rw [Yz z] at hs;cases hs
 have er:E.getD i []=r:=by rw [Yc,hr];rfl
 have es:shp fl i=s:=by have:=jao hi;rw [hs] at this;exact (Option.some.inj this).symm
 refine ⟨sE.2 r (YB hr),fun j x p hx hp=>?_,?_⟩
 . have hj:j<(jt fl).length:=by
    rcases Y2 j (jt fl).length with z | z
    . exact z
    . rw [Yz z] at hp;cases hp
   have c:=hE.cell i j hi hj;have ex:j5 E i j=x:=by unfold j5;rw [er,Yc,hx];rfl
   have ep:spn fl j=p:=by have:=jas hj;rw [hp] at this;exact (Option.some.inj this).symm
   rw [jcd hi hj,es,ex,ep] at c;exact c
 . have q:=hE.row i hi;rw [jaN hi,es] at q;rw [<-q,<- er];exact Je sE hi
theorem jkM {f:Int->Int} {R:List (Int×Int)} (h:∀p∈R,0<=f p.1/\1<=p.2):0<=Qk f R/\∀p∈R,f p.1<=Qk f R:=by
 induction R with
 | nil=>exact ⟨yk _,fun p hp=>absurd hp YD⟩
 | cons q R ih=>
   obtain ⟨a,b⟩:=ih fun x hx=>h x (Yg _ hx);have hq:=h q Ye;have m1:=yP hq.2 hq.1;rw [Int.mul_one] at m1;rw [qO];refine ⟨by omega,fun p hp=>?_⟩;rcases Yn.mp hp with rfl | hp
   . omega
   . have:=b p hp;omega
theorem jjo {f:Int->Int} {R:List (Int×Int)} (h:∀p∈R,f p.1=0):Qk f R=0:=by
 induction R with
 | nil=>rfl
 | cons q R ih=>rw [qO,h q Ye,ih fun x hx=>h x (Yg _ hx),kF];rfl
theorem jlP {R:List (Int×Int)} (nn:∀p∈R,0<=p.1):∃h:Int,(match jdt (R.map (·.1)) with | some m=>D.int m | none=>D.int 0)=.int h/\0<=h/\(∀p∈R,p.1<=h)/\(h=0\/∃p∈R,p.1=h):=by
 cases em:jdt (R.map (·.1)) with
 | none=>refine ⟨0,rfl,yk _,fun p hp=>?_,.inl rfl⟩;rw [List.map_eq_nil_iff.mp (jcw em)] at hp;cases hp
 | some m=>obtain ⟨m1,m2⟩:=jft em;obtain ⟨p,hp,e⟩:=Y3.mp m1;exact ⟨m,rfl,by rw [<-e];exact nn p hp,fun q hq=>m2 _ (Y3.mpr ⟨q,hq,rfl⟩),.inr ⟨p,hp,e⟩⟩
theorem jhk {fl:List Ship} {E:List (List Int)} {R:List (Int×Int)} {h:Int} (ee:jdg [.lst (fl.map jm)]=some (.lst (E.map jh))) (eR:QO [.lst (fl.map jm),.lst (E.map jh)]=some (R.map jD)) (hRl:R.length<64) (eh:(match jdt (R.map (·.1)) with | some m=>D.int m | none=>D.int 0)=.int h):jcC [.lst (fl.map jm)]=some (.int h):=by
 unfold jcC;refine jaM (ρ:=[.sh ‹"h"›,.un]) rfl rfl fun C fin=>?_;unfold jgZ;refine jK [.sh ‹"h"›,.sh (.lst (E.map jh))] (j4 (jA rfl ee)) ?_;refine Zs (Zv ?_) fin;have lc:jM (JV (jY (jM (ji QO (jc (jq 0) (jc (jq 1) jj))))) ‹"aA"› ‹"l"› (jq 0) 2 []) [.sh ‹"h"›,.sh (.lst (E.map jh))]=some (.lst ((R.map (·.1)).map D.int)):=qu (qv (qk (qu (jA rfl eR))) (by rw [Yd];omega) (by rw [YG];exact Jn jD _ R fun p _=>⟨[.sh (.int p.1),.sh (.int p.2)],rfl,rfl,rfl⟩))
 unfold jh9;rw [lc];show ((Ql ((R.map (·.1)).map D.int)).map fun ns=>match jdt ns with | some m=>D.int m | none=>D.int 0)=_;rw [Js];exact congrArg some eh
theorem jj0 {fl:List Ship} (hfl:∀s∈fl,s.Ok) (hlen:fl.length<=8) :
 ∃h:Int,jcC [.lst (fl.map jm)]=some (.int h)/\0<=h/\(∀P,PlanOk fl P->∀k,0<=k->JP fl P k=0->h<=k)/\∃E,PlanOk fl E/\JP fl E h=0:=by
 obtain ⟨d,⟨E,rfl,sE,hE⟩,ee⟩:=jj8 hfl hlen;have pE:=jji sE hE;obtain ⟨R,eR,_,pos,hRl,hf⟩:=jlO hfl hlen sE.2 (by rw [sE.1];omega) fun j hj=>je9 pE hj;obtain ⟨h,eh,h0,h1,h2⟩:=jlP fun p hp=>(pos p hp).1;refine ⟨h,?_,h0,fun P hP k hk z=>?_,E,pE,?_⟩
 . exact jhk ee eR hRl eh
 . rcases h2 with rfl | ⟨p,hp,e⟩
   . exact hk
   . have le:=jm5 sE hE hP k;rw [z,<- jes hfl hf k] at le;have s:=(jkM (f:=fun h=>jN (h-k)) (R:=R) fun p hp=>⟨(Jx _).1,(pos p hp).2⟩).2 p hp;have:=(Jx (p.1-k)).2;omega
 . rw [<-jes hfl hf h];refine jjo fun p hp=>?_;have:=h1 p hp;show jN (p.1-h)=0;unfold jN;split <;> omega
theorem jgW {fl:List Ship} {P:List (List Int)} {k:Int} (h:JP fl P k=0) {j:Nat} (hj:j<(jt fl).length):jS P j<=k*qB fl j:=by
 have:=QZ (f:=fun j=>jN (jS P j-k*qB fl j)) (g:=fun _=>0) (n:=(jt fl).length) (fun j _=>(Jx _).1) (by show JP fl P k<=_;rw [h,jQ fun _ _=>rfl];exact yk 0) j hj
 have q:=(Jx (jS P j-k*qB fl j)).2;omega
theorem jhd {fl:List Ship} {P:List (List Int)} {k:Int} (h:∀j,j<(jt fl).length->jS P j<=k*qB fl j):JP fl P k=0:=jQ fun j hj=>by have:=h j hj;show jN (jS P j-k*qB fl j)=0;unfold jN;split <;> omega
theorem jmK {T l:Int} (hl:0<l):T<=(T+l-1)/l*l:=by have a:=Int.mul_ediv_add_emod (T+l-1) l;have b:=yf (T+l-1) hl;rw [Int.mul_comm] at a;generalize (T+l-1)/l*l=x at a;generalize (T+l-1)%l=y at a b;omega
theorem jhc {T l:Int} (hl:0<l) (h0:0<=T) (h:T<=8000000000000000*l):0<=(T+l-1)/l/\(T+l-1)/l<=8000000000000001:=by
 refine ⟨Int.ediv_nonneg (by omega) (by omega),?_⟩;have:=Int.ediv_le_ediv hl (show T+l-1<=8000000000000001*l by omega)
 rwa [Int.mul_ediv_cancel _ (by omega)] at this
theorem jq0 {i j:Int} (h:j<=i):dGe (.int i) (.int j)=some (.bl true):=by rw [jlz,YO h]
theorem jlU (ns:List Int) (hns:ns.length<=63):joo [.scr ns]=some (.bl true):=by
 obtain ⟨fl,hfl,hlen,efl⟩:=jnD ns 3 (by decide);obtain ⟨cs,ecs,hcs⟩:=jmh ns (some 12) (some 63);obtain ⟨P,hP,epl⟩:=jjW fl hfl (by omega) (cs++[0]) (by simp) (by rw [YR];simp;omega);have epa:=jcD fl (by omega);have hPl:=hP.len;have hr:=hP.rows;have ecat:=jto (cs:=cs) (by omega);have hSl:=QM (fl:=fl) (by omega);have tP:=jf1 (S:=jt fl) (by omega) hr (by omega);obtain ⟨h,eh,h0,hmin,E,pE,zE⟩:=jj0 hfl (by omega);have hN:=jhW hfl (by omega);refine jaM (m:=jiX) (ρ:=[.sh (.scr ns),.un,.un,.un,.un,.un,.un,.un,.un,.un]) rfl rfl ?_;intro C fin;unfold jiX;refine jK [.sh (.scr ns),.sh ‹"h"›,.un,.un,.un,.un,.un,.un,.un,.un] (Qq (jA rfl efl)) ?_;refine jK [.sh (.scr ns),.sh ‹"h"›,.sh ‹"U"›,.un,.un,.un,.un,.un,.un,.un] (Qq (jA rfl epa)) ?_;refine jK [.sh (.scr ns),.sh ‹"h"›,.sh ‹"U"›,.sh ‹"r"›,.un,.un,.un,.un,.un,.un] (Qq (jA (js rfl (js (qu (jw (qu (by simp (disch:=omega) only [eSl,ja,Yk,pSo,eC];rw [ecs])) rfl ecat)) rfl)) epl)) ?_;refine jK [.sh (.scr ns),.sh ‹"h"›,.sh ‹"U"›,.sh ‹"r"›,.sh ‹"F"›,.un,.un,.un,.un,.un] (Qq (jA rfl tP)) ?_;refine jK [.sh (.scr ns),.sh ‹"h"›,.sh ‹"U"›,.sh ‹"r"›,.sh ‹"F"›,.sh (.int h),.un,.un,.un,.un] (j4 (jA (js (qu (jA rfl rfl)) rfl) eh)) ?_;refine jK [.sh (.scr ns),.sh ‹"h"›,.sh ‹"U"›,.sh ‹"r"›,.sh ‹"F"›,.sh (.int h),.sh (.int 0),.un,.un,.un] rfl ?_;refine jK [.sh (.scr ns),.sh ‹"h"›,.sh ‹"U"›,.sh ‹"r"›,.sh ‹"F"›,.sh (.int h),.sh (.int 0),.sh (.int 0),.un,.un] rfl ?_;refine jdn (fun j:Nat=>D.int (j:Int)) (jt fl).length (fun j ρ=>∃(M:Int) (z8 z9:Slot),0<=M/\M<=8000000000000001/\(∀s,s<j->jS P s<=M*qB fl s)/\ρ=[.sh (.scr ns),.sh ‹"h"›,.sh ‹"U"›,.sh ‹"r"›,.sh ‹"F"›,.sh (.int h),.sh (.int M),.sh (.int (jr (qB fl) j)),z8,z9])
  (by rw [Qu (j:=((jt fl).length:Int)) (js (jA rfl (show qS [.lst ((jt fl).map jD)]=some (.int ((jt fl).length:Int)) from by show some (D.int (((jt fl).map jD).length:Int))=_;rw [Yd])) rfl) (by omega) (by omega),Yt,je3])
  ⟨0,_,_,yk _,by decide,fun s hs=>absurd hs (KQ _),rfl⟩ ?_ ?_
 . rintro j ρ hj ⟨M,z8,z9,M0,M1,hM,rfl⟩;have hL:=zt hfl hj;have dp:=jrZ hj;have dt:=jrm (P:=P) hj;have cs:=jhc hL.1 (je9 hP hj) (jg0 hfl (by omega) hP hj);have co:=jmK (T:=jS P j) hL.1;refine ⟨[.sh (.scr ns),.sh ‹"h"›,.sh ‹"U"›,.sh ‹"r"›,.sh ‹"F"›,.sh (.int h),.sh (.int M),.sh (.int (jr (qB fl) j)),.sh (.int j),z9],[.sh (.scr ns),.sh ‹"h"›,.sh ‹"U"›,.sh ‹"r"›,.sh ‹"F"›,.sh (.int h),.sh (.int (if (jS P j+qB fl j-1)/qB fl j>M then (jS P j+qB fl j-1)/qB fl j else M)),.sh (.int (jr (qB fl) j+qB fl j)),.sh (.int j),.sh (.int (qB fl j))],rfl,?_,_,_,_,?_,?_,fun s hs=>?_,rfl⟩
   . exact (qJ (j4 (d:=.int (qB fl j)) (jw (jw (jw rfl rfl dp) rfl Qg) (jw (jw rfl rfl dp) rfl QF) qN))).trans ((qJ (j4 (jA (js rfl (js (jw (jw (jw (jw rfl rfl dt) rfl j1) rfl qN) rfl (zc hL.1 (by omega))) rfl)) rfl))).trans (j4 (jw rfl rfl j1)))
   . split <;> omega
   . split <;> omega
   . generalize (jS P j+qB fl j-1)/qB fl j=c at cs co;have up:∀t,0<=t->M*t<=(if c>M then c else M)*t:=fun t ht=>YX (by split <;> omega) ht;have uc:∀t,0<=t->c*t<=(if c>M then c else M)*t:=fun t ht=>YX (by split <;> omega) ht;rcases Y2 s j with z | z
     . exact Km (hM s z) (up _ (Y9 (zt hfl (by omega)).1))
     . rw [show s=j by omega];exact Km co (uc _ (Y9 hL.1))
 . rintro ρ ⟨M,z8,z9,M0,M1,hM,rfl⟩;have le:=hmin P hP M M0 (jhd hM);have hh:=jgJ hfl (by omega);have h0':0<=jr (qB fl) (jt fl).length:=J5 fun j hj=>Y9 (zt hfl hj).1;have ne:(fl.map (·.n)).sum<=h*jr (qB fl) (jt fl).length:=by rw [<-jh4 pE,<- zm];refine qt fun j hj=>?_;have a:=jgW zE hj;have b:=yT h0 (Y9 (zt hfl hj).1);rw [kF,kG];unfold jN;split <;> omega
   exact Zs (Zv (jeZ (jw rfl rfl (jq0 le)) (jw (jw rfl rfl (jqG (big (by omega) (by omega)) (big (by omega) (by omega)))) (jmP (by omega) rfl) (jq0 ne)))) fin
end Q
section
namespace Q
open PySem PySem.Spec PyProof.Rows L2
def top (i:Nat):Stmt:=PySem.Challenge.pw_evenquay_k62_whole_no_plan_stays_below.main.body.getD i (.Pass ⟨0,0,0,0⟩)
abbrev qP:Stmt:=top 50
abbrev zX:Stmt:=top 51
abbrev zx:Stmt:=top 52
abbrev j3:Stmt:=top 53
abbrev zA:Stmt:=top 54
abbrev Jc:Stmt:=top 55
abbrev qg:Stmt:=top 56
abbrev Jv:Stmt:=top 10
abbrev Jd:Stmt:=top 11
abbrev zu:Stmt:=top 12
abbrev qG:Stmt:=top 13
abbrev zo:Stmt:=top 40
abbrev ZF:Stmt:=top 42
abbrev Q2:Stmt:=top 43
abbrev Z6:Stmt:=top 32
abbrev Z7:Stmt:=top 33
abbrev QJ:Stmt:=top 34
abbrev JF:Stmt:=top 37
abbrev QQ:Stmt:=top 35
abbrev Qw:Stmt:=top 22
abbrev zC:Stmt:=top 36
abbrev qW:Stmt:=top 38
abbrev qU:Stmt:=top 31
abbrev jL:Stmt:=top 44
abbrev zK:Stmt:=top 45
abbrev zq:Stmt:=top 20
abbrev zJ:Stmt:=top 14
abbrev zZ:Stmt:=top 15
abbrev QW:Stmt:=top 16
abbrev jbm:Stmt:=top 17
abbrev qM:Stmt:=top 18
abbrev qH:Stmt:=top 19
abbrev jbD:Stmt:=top 46
abbrev Jt:Stmt:=top 23
abbrev QY:Stmt:=top 24
abbrev ZX:Stmt:=top 48
abbrev jbI:Stmt:=top 57
theorem ar1 {α:Type} {P:List α->Prop} (h:∀v0:α,P [v0]):∀us:List α,us.length=1->P us
 | [v0],_=>h v0
theorem ar2 {α:Type} {P:List α->Prop} (h:∀v0 v1:α,P [v0,v1]):∀us:List α,us.length=2->P us
 | [v0,v1],_=>h v0 v1
theorem ar3 {α:Type} {P:List α->Prop} (h:∀v0 v1 v2:α,P [v0,v1,v2]):∀us:List α,us.length=3->P us
 | [v0,v1,v2],_=>h v0 v1 v2
theorem ar4 {α:Type} {P:List α->Prop} (h:∀v0 v1 v2 v3:α,P [v0,v1,v2,v3]):∀us:List α,us.length=4->P us
 | [v0,v1,v2,v3],_=>h v0 v1 v2 v3
set_option genSizeOf false
set_option genInjectivity false
structure Adr where
 a__law_cell_at:Addr
 d__law_cell_at:FuncData
 a__law_ship:Addr
 d__law_ship:FuncData
 a__law_fleet:Addr
 d__law_fleet:FuncData
 a__law_parts:Addr
 d__law_parts:FuncData
 a__law_rooms:Addr
 d__law_rooms:FuncData
 a__law_plan:Addr
 d__law_plan:FuncData
 a__law_totals:Addr
 d__law_totals:FuncData
 a_is_whole:Addr
 d_is_whole:FuncData
 a_is_ship:Addr
 d_is_ship:FuncData
 a_is_fleet:Addr
 d_is_fleet:FuncData
 a_must_be_fleet:Addr
 d_must_be_fleet:FuncData
 a_bound_in:Addr
 d_bound_in:FuncData
 a_kept:Addr
 d_kept:FuncData
 a_joined:Addr
 d_joined:FuncData
 a_mover:Addr
 d_mover:FuncData
 a_reach:Addr
 d_reach:FuncData
 a_way_to:Addr
 d_way_to:FuncData
 a_behind:Addr
 d_behind:FuncData
 a_put_in:Addr
 d_put_in:FuncData
 a_total:Addr
 d_total:FuncData
 a_most_along:Addr
 d_most_along:FuncData
 a_filled:Addr
 d_filled:FuncData
 a_no_cranes:Addr
 d_no_cranes:FuncData
 a_evened_apart:Addr
 d_evened_apart:FuncData
 a_evened:Addr
 d_evened:FuncData
 a_needs_of:Addr
 d_needs_of:FuncData
 a_bounds:Addr
 d_bounds:FuncData
 a_stretches:Addr
 d_stretches:FuncData
 a_length:Addr
 d_length:FuncData
 a_room:Addr
 d_room:FuncData
 a_rooms_of:Addr
 d_rooms_of:FuncData
 a_lengths_of:Addr
 d_lengths_of:FuncData
 a_even:Addr
 d_even:FuncData
 a_loads_in:Addr
 d_loads_in:FuncData
 a_row_of:Addr
 d_row_of:FuncData
 a_peak:Addr
 d_peak:FuncData
 a_law:Addr
 d_law:FuncData
 t_NEED:Tok
 t_MOST:Tok
 t_END:Tok
 t_BEGIN:Tok
 t_OFF:Tok
 t_SHIP:Tok
 t_PART:Tok
 t_MANY:Tok
 t_MARKS:Tok
 t_TO:Tok
 t_FROM:Tok
structure Txt (K:PySem.W.Frag) (mg:Str->Option Value) (A:Adr):Prop where
 F__law_cell_at:Fun K "_law_cell_at" "_law_cell_at" qP A.a__law_cell_at A.d__law_cell_at
 B__law_cell_at:Binds K A.d__law_cell_at ["script","k"] []
 M__law_cell_at:mg "_law_cell_at"=some (.ref A.a__law_cell_at)
 F__law_ship:Fun K "_law_ship" "_law_ship" zX A.a__law_ship A.d__law_ship
 B__law_ship:Binds K A.d__law_ship ["one","two","kind"] []
 M__law_ship:mg "_law_ship"=some (.ref A.a__law_ship)
 F__law_fleet:Fun K "_law_fleet" "_law_fleet" zx A.a__law_fleet A.d__law_fleet
 B__law_fleet:Binds K A.d__law_fleet ["script","start"] []
 M__law_fleet:mg "_law_fleet"=some (.ref A.a__law_fleet)
 F__law_parts:Fun K "_law_parts" "_law_parts" j3 A.a__law_parts A.d__law_parts
 B__law_parts:Binds K A.d__law_parts ["fleet"] []
 M__law_parts:mg "_law_parts"=some (.ref A.a__law_parts)
 F__law_rooms:Fun K "_law_rooms" "_law_rooms" zA A.a__law_rooms A.d__law_rooms
 B__law_rooms:Binds K A.d__law_rooms ["ship","parts"] []
 M__law_rooms:mg "_law_rooms"=some (.ref A.a__law_rooms)
 F__law_plan:Fun K "_law_plan" "_law_plan" Jc A.a__law_plan A.d__law_plan
 B__law_plan:Binds K A.d__law_plan ["fleet","cells"] []
 M__law_plan:mg "_law_plan"=some (.ref A.a__law_plan)
 F__law_totals:Fun K "_law_totals" "_law_totals" qg A.a__law_totals A.d__law_totals
 B__law_totals:Binds K A.d__law_totals ["parts","plan"] []
 M__law_totals:mg "_law_totals"=some (.ref A.a__law_totals)
 F_is_whole:Fun K "is_whole" "is_whole" Jv A.a_is_whole A.d_is_whole
 B_is_whole:Binds K A.d_is_whole ["thing"] []
 M_is_whole:mg "is_whole"=some (.ref A.a_is_whole)
 F_is_ship:Fun K "is_ship" "is_ship" Jd A.a_is_ship A.d_is_ship
 B_is_ship:Binds K A.d_is_ship ["thing"] []
 M_is_ship:mg "is_ship"=some (.ref A.a_is_ship)
 F_is_fleet:Fun K "is_fleet" "is_fleet" zu A.a_is_fleet A.d_is_fleet
 B_is_fleet:Binds K A.d_is_fleet ["thing"] []
 M_is_fleet:mg "is_fleet"=some (.ref A.a_is_fleet)
 F_must_be_fleet:Fun K "must_be_fleet" "must_be_fleet" qG A.a_must_be_fleet A.d_must_be_fleet
 B_must_be_fleet:Binds K A.d_must_be_fleet ["thing"] []
 M_must_be_fleet:mg "must_be_fleet"=some (.ref A.a_must_be_fleet)
 F_bound_in:Fun K "bound_in" "bound_in" zo A.a_bound_in A.d_bound_in
 B_bound_in:Binds K A.d_bound_in ["need","rooms","marks"] []
 M_bound_in:mg "bound_in"=some (.ref A.a_bound_in)
 F_kept:Fun K "kept" "kept" ZF A.a_kept A.d_kept
 B_kept:Binds K A.d_kept ["numbers","marks","mark"] []
 M_kept:mg "kept"=some (.ref A.a_kept)
 F_joined:Fun K "joined" "joined" Q2 A.a_joined A.d_joined
 B_joined:Binds K A.d_joined ["marked","others","marks"] []
 M_joined:mg "joined"=some (.ref A.a_joined)
 F_mover:Fun K "mover" "mover" Z6 A.a_mover A.d_mover
 B_mover:Binds K A.d_mover ["rooms","part","off","on"] []
 M_mover:mg "mover"=some (.ref A.a_mover)
 F_reach:Fun K "reach" "reach" Z7 A.a_reach A.d_reach
 B_reach:Binds K A.d_reach ["rooms","part","begun"] []
 M_reach:mg "reach"=some (.ref A.a_reach)
 F_way_to:Fun K "way_to" "way_to" QJ A.a_way_to A.d_way_to
 B_way_to:Binds K A.d_way_to ["moves","end"] []
 M_way_to:mg "way_to"=some (.ref A.a_way_to)
 F_behind:Fun K "behind" "behind" JF A.a_behind A.d_behind
 B_behind:Binds K A.d_behind ["part","way","many"] []
 M_behind:mg "behind"=some (.ref A.a_behind)
 F_put_in:Fun K "put_in" "put_in" QQ A.a_put_in A.d_put_in
 B_put_in:Binds K A.d_put_in ["needs","rooms","part"] []
 M_put_in:mg "put_in"=some (.ref A.a_put_in)
 F_total:Fun K "total" "total" Qw A.a_total A.d_total
 B_total:Binds K A.d_total ["plan","place"] []
 M_total:mg "total"=some (.ref A.a_total)
 F_most_along:Fun K "most_along" "most_along" zC A.a_most_along A.d_most_along
 B_most_along:Binds K A.d_most_along ["needs","rooms","part","way"] []
 M_most_along:mg "most_along"=some (.ref A.a_most_along)
 F_filled:Fun K "filled" "filled" qW A.a_filled A.d_filled
 B_filled:Binds K A.d_filled ["needs","rooms","tops","part"] []
 M_filled:mg "filled"=some (.ref A.a_filled)
 F_no_cranes:Fun K "no_cranes" "no_cranes" qU A.a_no_cranes A.d_no_cranes
 B_no_cranes:Binds K A.d_no_cranes ["rooms"] []
 M_no_cranes:mg "no_cranes"=some (.ref A.a_no_cranes)
 F_evened_apart:Fun K "evened_apart" "evened_apart" jL A.a_evened_apart A.d_evened_apart
 B_evened_apart:Binds K A.d_evened_apart ["needs","rooms","hours","marks"] []
 M_evened_apart:mg "evened_apart"=some (.ref A.a_evened_apart)
 F_evened:Fun K "evened" "evened" zK A.a_evened A.d_evened
 B_evened:Binds K A.d_evened ["needs","rooms","hours"] []
 M_evened:mg "evened"=some (.ref A.a_evened)
 F_needs_of:Fun K "needs_of" "needs_of" zq A.a_needs_of A.d_needs_of
 B_needs_of:Binds K A.d_needs_of ["fleet"] []
 M_needs_of:mg "needs_of"=some (.ref A.a_needs_of)
 F_bounds:Fun K "bounds" "bounds" zJ A.a_bounds A.d_bounds
 B_bounds:Binds K A.d_bounds ["fleet"] []
 M_bounds:mg "bounds"=some (.ref A.a_bounds)
 F_stretches:Fun K "stretches" "stretches" zZ A.a_stretches A.d_stretches
 B_stretches:Binds K A.d_stretches ["fleet"] []
 M_stretches:mg "stretches"=some (.ref A.a_stretches)
 F_length:Fun K "length" "length" QW A.a_length A.d_length
 B_length:Binds K A.d_length ["stretch"] []
 M_length:mg "length"=some (.ref A.a_length)
 F_room:Fun K "room" "room" jbm A.a_room A.d_room
 B_room:Binds K A.d_room ["ship","stretch"] []
 M_room:mg "room"=some (.ref A.a_room)
 F_rooms_of:Fun K "rooms_of" "rooms_of" qM A.a_rooms_of A.d_rooms_of
 B_rooms_of:Binds K A.d_rooms_of ["fleet"] []
 M_rooms_of:mg "rooms_of"=some (.ref A.a_rooms_of)
 F_lengths_of:Fun K "lengths_of" "lengths_of" qH A.a_lengths_of A.d_lengths_of
 B_lengths_of:Binds K A.d_lengths_of ["fleet"] []
 M_lengths_of:mg "lengths_of"=some (.ref A.a_lengths_of)
 F_even:Fun K "even" "even" jbD A.a_even A.d_even
 B_even:Binds K A.d_even ["fleet"] []
 M_even:mg "even"=some (.ref A.a_even)
 F_loads_in:Fun K "loads_in" "loads_in" Jt A.a_loads_in A.d_loads_in
 B_loads_in:Binds K A.d_loads_in ["many","hours"] []
 M_loads_in:mg "loads_in"=some (.ref A.a_loads_in)
 F_row_of:Fun K "row_of" "row_of" QY A.a_row_of A.d_row_of
 B_row_of:Binds K A.d_row_of ["fleet","plan"] []
 M_row_of:mg "row_of"=some (.ref A.a_row_of)
 F_peak:Fun K "peak" "peak" ZX A.a_peak A.d_peak
 B_peak:Binds K A.d_peak ["fleet"] []
 M_peak:mg "peak"=some (.ref A.a_peak)
 F_law:Fun K "law" "law" jbI A.a_law A.d_law
 B_law:Binds K A.d_law ["script"] []
 M_law:mg "law"=some (.ref A.a_law)
 g_NEED:mg "NEED"=some (.int 2 A.t_NEED)
 g_MOST:mg "MOST"=some (.int 3 A.t_MOST)
 g_END:mg "END"=some (.int 1 A.t_END)
 g_BEGIN:mg "BEGIN"=some (.int 0 A.t_BEGIN)
 g_OFF:mg "OFF"=some (.int 1 A.t_OFF)
 g_SHIP:mg "SHIP"=some (.int 0 A.t_SHIP)
 g_PART:mg "PART"=some (.int 1 A.t_PART)
 g_MANY:mg "MANY"=some (.int 0 A.t_MANY)
 g_MARKS:mg "MARKS"=some (.int 2 A.t_MARKS)
 g_TO:mg "TO"=some (.int 1 A.t_TO)
 g_FROM:mg "FROM"=some (.int 0 A.t_FROM)
 b_len:mg "len"=none
 b_min:mg "min"=none
 b_range:mg "range"=none
 b_sorted:mg "sorted"=none
 b_sum:mg "sum"=none
 b_isinstance:mg "isinstance"=none
 b_bool:mg "bool"=none
 b_int:mg "int"=none
 b_all:mg "all"=none
 b_tuple:mg "tuple"=none
 b_list:mg "list"=none
 b_max:mg "max"=none
 b_zip:mg "zip"=none
 b_enumerate:mg "enumerate"=none
 b_dict:mg "dict"=none
 b_reversed:mg "reversed"=none
 b_set:mg "set"=none
theorem jb2:FnScope ["script","k"] ["script","k"] (jd qP):=⟨rfl,rfl,rfl,by decide +kernel,rfl,by decide +kernel,by decide +kernel⟩
theorem sc__law_ship:FnScope ["one","two","kind","begin","end","most","mixed","full","need"] ["one","two","kind"] (jd zX):=⟨rfl,rfl,rfl,by decide +kernel,rfl,by decide +kernel,by decide +kernel⟩
theorem sc__law_fleet:FnScope ["script","start","cell","fleet","k","one"] ["script","start"] (jd zx):=⟨rfl,rfl,rfl,by decide +kernel,rfl,by decide +kernel,by decide +kernel⟩
theorem sc__law_parts:FnScope ["fleet","hours"] ["fleet"] (jd j3):=⟨rfl,rfl,rfl,by decide +kernel,rfl,by decide +kernel,by decide +kernel⟩
theorem sc__law_rooms:FnScope ["ship","parts","found","begin","end"] ["ship","parts"] (jd zA):=⟨rfl,rfl,rfl,by decide +kernel,rfl,by decide +kernel,by decide +kernel⟩
theorem sc__law_plan:FnScope ["fleet","cells","parts","plan","i","most","left","row","s","cell","some","at","more"] ["fleet","cells"] (jd Jc):=⟨rfl,rfl,rfl,by decide +kernel,rfl,by decide +kernel,by decide +kernel⟩
theorem jdk:FnScope ["parts","plan"] ["parts","plan"] (jd qg):=⟨rfl,rfl,rfl,by decide +kernel,rfl,by decide +kernel,by decide +kernel⟩
theorem jfz:FnScope ["thing"] ["thing"] (jd Jv):=⟨rfl,rfl,rfl,by decide +kernel,rfl,by decide +kernel,by decide +kernel⟩
theorem sc_is_ship:FnScope ["thing","hours"] ["thing"] (jd Jd):=⟨rfl,rfl,rfl,by decide +kernel,rfl,by decide +kernel,by decide +kernel⟩
theorem jfx:FnScope ["thing"] ["thing"] (jd zu):=⟨rfl,rfl,rfl,by decide +kernel,rfl,by decide +kernel,by decide +kernel⟩
theorem jbq:FnScope ["thing"] ["thing"] (jd qG):=⟨rfl,rfl,rfl,by decide +kernel,rfl,by decide +kernel,by decide +kernel⟩
theorem sc_bound_in:FnScope ["need","rooms","marks","elsewhere"] ["need","rooms","marks"] (jd zo):=⟨rfl,rfl,rfl,by decide +kernel,rfl,by decide +kernel,by decide +kernel⟩
theorem jnF:FnScope ["numbers","marks","mark"] ["numbers","marks","mark"] (jd ZF):=⟨rfl,rfl,rfl,by decide +kernel,rfl,by decide +kernel,by decide +kernel⟩
theorem sc_joined:FnScope ["marked","others","marks","share","place","mark","ahead"] ["marked","others","marks"] (jd Q2):=⟨rfl,rfl,rfl,by decide +kernel,rfl,by decide +kernel,by decide +kernel⟩
theorem sc_mover:FnScope ["rooms","part","off","on","ship","share"] ["rooms","part","off","on"] (jd Z6):=⟨rfl,rfl,rfl,by decide +kernel,rfl,by decide +kernel,by decide +kernel⟩
theorem sc_reach:FnScope ["rooms","part","begun","moves","waiting","turn","off","on","ship"] ["rooms","part","begun"] (jd Z7):=⟨rfl,rfl,rfl,by decide +kernel,rfl,by decide +kernel,by decide +kernel⟩
theorem sc_way_to:FnScope ["moves","end","way","move"] ["moves","end"] (jd QJ):=⟨rfl,rfl,rfl,by decide +kernel,rfl,by decide +kernel,by decide +kernel⟩
theorem sc_behind:FnScope ["part","way","many","told","ship","off","on"] ["part","way","many"] (jd JF):=⟨rfl,rfl,rfl,by decide +kernel,rfl,by decide +kernel,by decide +kernel⟩
theorem sc_put_in:FnScope ["needs","rooms","part","moves","ship","share","short","on","many"] ["needs","rooms","part"] (jd QQ):=⟨rfl,rfl,rfl,by decide +kernel,rfl,by decide +kernel,by decide +kernel⟩
theorem jlZ:FnScope ["plan","place"] ["plan","place"] (jd Qw):=⟨rfl,rfl,rfl,by decide +kernel,rfl,by decide +kernel,by decide +kernel⟩
theorem sc_most_along:FnScope ["needs","rooms","part","way","first","limits","ship","off","on"] ["needs","rooms","part","way"] (jd zC):=⟨rfl,rfl,rfl,by decide +kernel,rfl,by decide +kernel,by decide +kernel⟩
theorem sc_filled:FnScope ["needs","rooms","tops","part","moves","free","many","way","spare"] ["needs","rooms","tops","part"] (jd qW):=⟨rfl,rfl,rfl,by decide +kernel,rfl,by decide +kernel,by decide +kernel⟩
theorem jfp:FnScope ["rooms"] ["rooms"] (jd qU):=⟨rfl,rfl,rfl,by decide +kernel,rfl,by decide +kernel,by decide +kernel⟩
theorem sc_evened_apart:FnScope ["needs","rooms","hours","marks","inside","outside","high","low"] ["needs","rooms","hours","marks"] (jd jL):=⟨rfl,rfl,rfl,by decide +kernel,rfl,by decide +kernel,by decide +kernel⟩
theorem sc_evened:FnScope ["needs","rooms","hours","level","floor","full"] ["needs","rooms","hours"] (jd zK):=⟨rfl,rfl,rfl,by decide +kernel,rfl,by decide +kernel,by decide +kernel⟩
theorem jfS:FnScope ["fleet"] ["fleet"] (jd zq):=⟨rfl,rfl,rfl,by decide +kernel,rfl,by decide +kernel,by decide +kernel⟩
theorem sc_bounds:FnScope ["fleet","begins","ends"] ["fleet"] (jd zJ):=⟨rfl,rfl,rfl,by decide +kernel,rfl,by decide +kernel,by decide +kernel⟩
theorem sc_stretches:FnScope ["fleet","rising"] ["fleet"] (jd zZ):=⟨rfl,rfl,rfl,by decide +kernel,rfl,by decide +kernel,by decide +kernel⟩
theorem jjT:FnScope ["stretch"] ["stretch"] (jd QW):=⟨rfl,rfl,rfl,by decide +kernel,rfl,by decide +kernel,by decide +kernel⟩
theorem jmH:FnScope ["ship","stretch"] ["ship","stretch"] (jd jbm):=⟨rfl,rfl,rfl,by decide +kernel,rfl,by decide +kernel,by decide +kernel⟩
theorem sc_rooms_of:FnScope ["fleet","spans"] ["fleet"] (jd qM):=⟨rfl,rfl,rfl,by decide +kernel,rfl,by decide +kernel,by decide +kernel⟩
theorem jdT:FnScope ["fleet"] ["fleet"] (jd qH):=⟨rfl,rfl,rfl,by decide +kernel,rfl,by decide +kernel,by decide +kernel⟩
theorem jnm:FnScope ["fleet"] ["fleet"] (jd jbD):=⟨rfl,rfl,rfl,by decide +kernel,rfl,by decide +kernel,by decide +kernel⟩
theorem sc_loads_in:FnScope ["many","hours","least","fuller","counted"] ["many","hours"] (jd Jt):=⟨rfl,rfl,rfl,by decide +kernel,rfl,by decide +kernel,by decide +kernel⟩
theorem sc_row_of:FnScope ["fleet","plan","hours_by_load","place","span","load","hours"] ["fleet","plan"] (jd QY):=⟨rfl,rfl,rfl,by decide +kernel,rfl,by decide +kernel,by decide +kernel⟩
theorem sc_peak:FnScope ["fleet","plan"] ["fleet"] (jd ZX):=⟨rfl,rfl,rfl,by decide +kernel,rfl,by decide +kernel,by decide +kernel⟩
theorem sc_law:FnScope ["script","fleet","parts","plan","told","found","most","hours","s","long"] ["script"] (jd jbI):=⟨rfl,rfl,rfl,by decide +kernel,rfl,by decide +kernel,by decide +kernel⟩
section
variable {P:Program} {w:World} {K:PySem.W.Frag} {mg:Str->Option Value} {base:Heap} {A:Adr}
theorem JL (T:Txt K mg A):FnOk P w K mg base JJ 1 A.a__law_cell_at A.d__law_cell_at ["script","k"] (@spS ⟨K⟩ qT):=
 zY (m:=Qa) T.F__law_cell_at jb2 rfl rfl fun cdv Ar outer s H E hr=>
  (jf (Jg (za jfn (jb 1) ‹"v"›)
   (jl (qq (jP (jb 0) (jb 1)))) qA)
   (jl (qq ju)))
theorem jeO (T:Txt K mg A):FnOk P w K mg base JJ 1 A.a__law_ship A.d__law_ship ["one","two","kind"] (@spS ⟨K⟩ Ja):=
 zY (m:=ZM) T.F__law_ship sc__law_ship rfl rfl fun cdv Ar outer s H E hr=>
  (jf ‹"bj"›
   (jf (jF (i:=4) (zj (WE.toT (zj (jb 3) (WE.toT ju))) (WE.toT (zr (WE.toT (Q1 (jb 0) (WE.toT ju))) (WE.toT ju)))) ‹"an"› rfl ‹"a"› ‹"a"›)
   (jf (Jg (za (jjn fun _=>hr.units) (jb 2) (WE.toT ju))
   (jf ‹"bj"›
   (jl (jF (i:=4) (zj (WE.toT (zj (jb 3) (WE.toT ju))) (WE.toT (zr (WE.toT (Q1 (jb 0) (WE.toT ju))) (WE.toT ju)))) (fun _=>sc__law_ship.nd) rfl (fun _=>Or.inl rfl) (fun _=>Or.inl rfl)))) qA)
   (jf (Jg (za (jjn fun _=>hr.units) (jb 2) (WE.toT ju))
   (jf (jF (i:=3) (Jl (WE.toT (Jh (WE.toT (zr (WE.toT (Jl (jb 0) (WE.toT ju))) (WE.toT ju))) (WE.toT (jig (WE.toT ju) (WE.toT ju))))) (WE.toT (jig (WE.toT ju) (WE.toT ju)))) ‹"an"› rfl ‹"a"› ‹"a"›)
   (jl (jF (i:=4) (zj (WE.toT (zj (jb 3) (WE.toT ju))) (WE.toT (Jl (WE.toT (zr (WE.toT (Jl (jb 0) (WE.toT ju))) (WE.toT ju))) (WE.toT (jig (WE.toT ju) (WE.toT ju)))))) (fun _=>sc__law_ship.nd) rfl (fun _=>Or.inl rfl) (fun _=>Or.inl rfl)))) qA)
   (jf (jF (i:=5) (jP (WE.toT (WO.toE (JH (je ju (je ju (je ju (je ju (je (jig (WE.toT ju) (WE.toT ju)) (je (zj (WE.toT ju) (WE.toT (zr (WE.toT (Q1 (jb 1) (WE.toT ju))) (WE.toT ju)))) (je ju (je ju jx))))))))))) (WE.toT (zr (jb 1) (WE.toT ju)))) ‹"an"› rfl ‹"a"› ‹"a"›)
   (jf (jF (i:=6) (zr (WE.toT (Jl (jb 1) (WE.toT ju))) (WE.toT ju)) ‹"an"› rfl ‹"a"› ‹"a"›)
   (jf (jF (i:=7) (Jl (jb 5) (WE.toT (Jh (jb 4) (jb 3)))) ‹"an"› rfl ‹"a"› ‹"a"›)
   (jf (jF (i:=8) (jP (WE.toT (WO.toE (JH (je (Q1 (WE.toT (Jl (jb 7) (WE.toT (zr (jb 6) (WE.toT ju))))) (WE.toT ju)) (je (zr (jb 6) (WE.toT (zj (jb 7) (WE.toT ju)))) (je (qX jhu (fun _=>rfl) (fun _=>T.b_min) boot_min (jn (jb 7) (jn (WE.toT (zr (jb 6) (WE.toT ju))) jE))) (je (jo 7) jx))))))) (WE.toT (zr (WE.toT (Q1 (jb 6) (WE.toT ju))) (WE.toT ju)))) ‹"an"› rfl ‹"a"› ‹"a"›)
   (jl (qq (jcv (je (jo 3) (je (jo 4) (je (jo 8) (je (jo 5) jx)))))))))))))))
theorem jdB (T:Txt K mg A):FnOk P w K mg base JJ 2 A.a__law_fleet A.d__law_fleet ["script","start"] (@spO ⟨K⟩ J6):=
 Jz (m:=JW) T.F__law_fleet sc__law_fleet rfl rfl fun cdv Ar outer s H E hr=>
  (jf (jF (i:=2) (qi (fun _=>JL T) ‹"g"› (fun _=>rfl) (fun _=>T.M__law_cell_at) (fun _=>T.F__law_cell_at.kp) (fun _=>T.B__law_cell_at) (je (jo 0) (je (jo 1) jx))) (fun _=>sc__law_fleet.nd) rfl ‹"a"› ‹"a"›)
   (jf (J4 (i:=3) (JH jx) (fun _=>sc__law_fleet.nd) rfl ‹"a"› ‹"a"›)
   (jf (zT (JU (fun _=>rfl) (fun _=>T.b_range) (jn (WE.toT (jP (WE.toT (WO.toE (JH (je ju (je ju (je ju (je ju (je ju (je ju (je ju (je ju jx))))))))))) (WE.toT (zr (jb 2) (WE.toT ju))))) jE)) (jW (i:=4) (fun _=>sc__law_fleet.nd) rfl ‹"a"› ‹"a"›)
   (jf (jF (i:=5) (qi (fun _=>JL T) ‹"g"› (fun _=>rfl) (fun _=>T.M__law_cell_at) (fun _=>T.F__law_cell_at.kp) (fun _=>T.B__law_cell_at) (je (jo 0) (je (zj (WE.toT (zj (jb 1) (WE.toT ju))) (WE.toT (Jl (WE.toT ju) (jb 4)))) jx))) (fun _=>sc__law_fleet.nd) rfl ‹"a"› ‹"a"›)
   (jl (Qc (i:=3) rfl (fun _=>Or.inl rfl) (qi (fun _=>jeO T) (fun _=>hr.mono (by decide)) (fun _=>rfl) (fun _=>T.M__law_ship) (fun _=>T.F__law_ship.kp) (fun _=>T.B__law_ship) (je (jo 5) (je (qi (fun _=>JL T) (fun _=>hr.mono (by decide)) (fun _=>rfl) (fun _=>T.M__law_cell_at) (fun _=>T.F__law_cell_at.kp) (fun _=>T.B__law_cell_at) (je (jo 0) (je (zj (WE.toT (zj (jb 1) (WE.toT ju))) (WE.toT (Jl (WE.toT ju) (jb 4)))) jx))) (je (zr (WE.toT (Q1 (jb 2) (WE.toT ju))) (WE.toT ju)) jx))))))))
   (jf (Jg (WW.toC (jem (za jn3 (WE.toT (qX b_len (fun _=>rfl) (fun _=>T.b_len) Y7 (jn (jb 3) jE))) (WE.toT ju)) (jcB (za (jjn fun _=>hr.units) (WE.toT (zr (WE.toT (Q1 (jb 2) (WE.toT ju))) (WE.toT ju))) (WE.toT ju)))))
   (jl (jmc (i:=3) rfl (fun _=>Or.inl rfl) (jsF (WE.toT ju)) (jP (jb 3) (WE.toT ju)))) qA)
   (jl (jaK 3))))))
theorem jae (T:Txt K mg A):FnOk P w K mg base JJ 1 A.a__law_parts A.d__law_parts ["fleet"] (@spO ⟨K⟩ JZ):=
 Jz (m:=J1) T.F__law_parts sc__law_parts rfl rfl fun cdv Ar outer s H E hr=>
  (jf (jF (i:=1) (WO.toE (jrq jp3 (fun _=>rfl) (fun _=>T.b_sorted) boot_sorted (jn (WE.toT (WO.toE (jlX ‹"bm"› ‹"bm"›))) jE))) (fun _=>sc__law_parts.nd) rfl ‹"p"› ‹"a"›)
   (jl (zQ (Qe (sc:=jd j3) (Lc:=["k"]) (Fn:=["hours"]) (ix:=[1]) (fun _=>rfl) (show LcOk (jd j3) ["fleet","hours"] _ ["hours"] [1] from by decide +kernel) (WI.toT (JU (fun _=>rfl) (fun _=>T.b_range) (jn (WE.toT (Jh (WE.toT (qX b_len (fun _=>rfl) (fun _=>T.b_len) Y7 (jn (jb 1) jE))) (WE.toT ju))) jE))) (j8 (i:=0) (fun _=>show List.Nodup (["k","hours"]:List Str) from by decide +kernel) rfl (by decide) (fun _=>Or.inl rfl) (fun _=>Or.inr rfl)) (jci (za jfn (WE.toT (jP (jb 1) (jb 0))) (WE.toT (jP (jb 1) (WE.toT (zj (jb 0) (WE.toT ju))))))) (jcv (je (jP (jb 1) (jb 0)) (je (jP (jb 1) (WE.toT (zj (jb 0) (WE.toT ju)))) jx)))))))
theorem jdN (T:Txt K mg A):FnOk P w K mg base JJ 1 A.a__law_rooms A.d__law_rooms ["ship","parts"] (@spO ⟨K⟩ J3):=
 Jz (m:=JX) T.F__law_rooms sc__law_rooms rfl rfl fun cdv Ar outer s H E hr=>
  (jf (J4 (i:=2) (JH jx) (fun _=>sc__law_rooms.nd) rfl ‹"a"› ‹"a"›)
   (jf (zT (jch (jo 1)) (Q5 (qp (jW (i:=3) (fun _=>sc__law_rooms.nd) rfl ‹"a"› ‹"a"›) (qp (jW (i:=4) (fun _=>sc__law_rooms.nd) rfl ‹"a"› ‹"a"›) Q3)))
   (jl (Jg (WW.toC (jem (za jjL (WE.toT (jP (jb 0) (WE.toT ju))) (jb 3)) (jcB (za jjL (jb 4) (WE.toT (jP (jb 0) (WE.toT ju)))))))
   (jl (Qc (i:=2) rfl (fun _=>Or.inl rfl) (Jl (WE.toT (jP (jb 0) (WE.toT ju))) (WE.toT (Jh (jb 4) (jb 3)))))) (jl (Qc (i:=2) rfl (fun _=>Or.inl rfl) ju)))))
   (jl (jaK 2))))
theorem jeR (T:Txt K mg A):FnOk P w K mg base JJ 2 A.a__law_plan A.d__law_plan ["fleet","cells"] (@spO ⟨K⟩ ZU):=
 Jz (m:=Qt) T.F__law_plan sc__law_plan rfl rfl fun cdv Ar outer s H E hr=>
  (jf (jF (i:=2) (WO.toE (j9 (fun _=>jae T) ‹"g"› (fun _=>rfl) (fun _=>T.M__law_parts) (fun _=>T.F__law_parts.kp) (fun _=>T.B__law_parts) (je (jo 0) jx))) ‹"P"› rfl ‹"a"› ‹"a"›)
   (jf (J4 (i:=3) (JH jx) ‹"P"› rfl ‹"a"› ‹"a"›)
   (jf (zT (JU (fun _=>rfl) (fun _=>T.b_range) (jn ‹"v"› jE)) (jW (i:=4) ‹"P"› rfl ‹"a"› ‹"a"›)
   (jf (jF (i:=5) (WO.toE (j9 (fun _=>jdN T) ‹"g"› (fun _=>rfl) (fun _=>T.M__law_rooms) (fun _=>T.F__law_rooms.kp) (fun _=>T.B__law_rooms) (je (jP (jb 0) (jb 4)) (je (jo 2) jx)))) ‹"P"› rfl ‹"a"› ‹"a"›)
   (jf (jF (i:=6) (jP (WE.toT (jP (jb 0) (jb 4))) (WE.toT ju)) ‹"P"› rfl ‹"a"› ‹"a"›)
   (jf (J4 (i:=7) (JH jx) ‹"P"› rfl ‹"a"› ‹"a"›)
   (jf (zT ‹"bi"› (jW (i:=8) ‹"P"› rfl ‹"a"› ‹"a"›)
   (jf (jF (i:=9) (jP (jb 1) (WE.toT (zr (WE.toT (zj (WE.toT (Jl (jb 4) ‹"u"›)) (jb 8))) (WE.toT (qX b_len (fun _=>rfl) (fun _=>T.b_len) Y7 (jn (jb 1) jE)))))) ‹"P"› rfl ‹"a"› ‹"a"›)
   (jf (jF (i:=10) (jP (WE.toT (WO.toE (JH (je ju (je (jP (jb 5) (jb 8)) (je (Q1 (WE.toT (Jl (WE.toT (jP (jb 5) (jb 8))) (WE.toT (zr (WE.toT (Q1 (jb 9) (WE.toT ju))) (WE.toT ju))))) (WE.toT ju)) (je (zr (WE.toT (Q1 (jb 9) (WE.toT ju))) (WE.toT (zj (WE.toT (jP (jb 5) (jb 8))) (WE.toT ju)))) jx))))))) (WE.toT (zr (jb 9) (WE.toT ju)))) ‹"P"› rfl ‹"a"› ‹"a"›)
   (jf (Qc (i:=7) rfl ‹"a"› (qX jqA (fun _=>rfl) (fun _=>T.b_min) boot_min (jn (jb 6) (jn (WE.toT (jP (jb 5) (jb 8))) (jn (jb 10) jE)))))
   (jl (jF (i:=6) (Jh (jb 6) (WE.toT (jP (jb 7) (jb 8)))) (fun _=>sc__law_plan.nd) rfl (fun _=>Or.inl rfl) (fun _=>Or.inl rfl)))))))
   (jf (zT ‹"bi"› (jW (i:=8) ‹"P"› rfl ‹"a"› ‹"a"›)
   (jf (jF (i:=11) (zr (WE.toT (zj (jb 8) (WE.toT (jP (jb 1) (WE.toT (zr (jb 4) (WE.toT (qX b_len (fun _=>rfl) (fun _=>T.b_len) Y7 (jn (jb 1) jE))))))))) ‹"u"›) ‹"P"› rfl ‹"a"› ‹"a"›)
   (jf (jF (i:=12) (qX jhu (fun _=>rfl) (fun _=>T.b_min) boot_min (jn (jb 6) (jn (WE.toT (Jh (WE.toT (jP (jb 5) (jb 11))) (WE.toT (jP (jb 7) (jb 11))))) jE))) ‹"P"› rfl ‹"a"› ‹"a"›)
   (jf (jmc (i:=7) rfl ‹"a"› (jo 11) (zj (WE.toT (jP (jb 7) (jb 11))) (jb 12)))
   (jl (jF (i:=6) (Jh (jb 6) (jb 12)) (fun _=>sc__law_plan.nd) rfl (fun _=>Or.inl rfl) (fun _=>Or.inl rfl)))))))
   (jl (jlp 7 (Qc (i:=3) rfl (fun _=>Or.inl rfl) (jo 7))))))))))
   (jl (jaK 3)))))
theorem jc8 (T:Txt K mg A):FnOk P w K mg base JJ 1 A.a__law_totals A.d__law_totals ["parts","plan"] (@spO ⟨K⟩ QD):=
 Jz (m:=QE) T.F__law_totals jdk rfl rfl fun cdv Ar outer s H E hr=>(jl (zQ (Qe (sc:=jd qg) (Lc:=["s"]) (Fn:=["plan"]) (ix:=[1]) (fun _=>rfl) (show LcOk (jd qg) ["parts","plan"] _ ["plan"] [1] from by decide +kernel) (WI.toT (JU (fun _=>rfl) (fun _=>T.b_range) (jn ‹"v"› jE))) (j8 (i:=0) (fun _=>show List.Nodup (["s","plan"]:List Str) from by decide +kernel) rfl (by decide) ‹"p"› ‹"a"›) jX (qX b_sum (fun _=>rfl) (fun _=>T.b_sum) KN (jn (WE.toT (WO.toE (jn7 (sc:=jd qg) (Lc:=["row"]) (Fn:=["s"]) (ix:=[0]) (fun _=>rfl) (show LcOk (jiL (jd qg) _) ["s","plan"] _ ["s"] [0] from by decide +kernel) (j7 (jb 1)) (j8 (i:=0) (fun _=>show List.Nodup (["row","s"]:List Str) from by decide +kernel) rfl (by decide) ‹"a"› ‹"p"›) jX (jP (jb 0) (jb 1))))) jE)))))
theorem jgB (T:Txt K mg A):FnOk P w K mg base JJ 1 A.a_is_whole A.d_is_whole ["thing"] (@spS ⟨K⟩ jau):=
 zY (m:=jcT) T.F_is_whole jfz rfl rfl fun cdv Ar outer s H E hr=>(jl (qq (jf6 (WE.toT (jin (fun _=>rfl) (fun _=>T.b_isinstance) (fun _=>rfl) (fun _=>T.b_int) boot_int (by decide) (jb 0))) (jie (w_not (WE.toT (jin (fun _=>rfl) (fun _=>T.b_isinstance) (fun _=>rfl) (fun _=>T.b_bool) boot_bool (by decide) (jb 0))))))))
theorem jg2 (T:Txt K mg A):FnOk P w K mg base JJ 2 A.a_is_ship A.d_is_ship ["thing"] (@spS ⟨K⟩ QG):=
 zY (m:=jbF) T.F_is_ship sc_is_ship rfl rfl fun cdv Ar outer s H E hr=>
  (jf (Jg (WW.toC (jta (jiB (jdw (WE.toT (jin (fun _=>rfl) (fun _=>T.b_isinstance) (fun _=>rfl) (fun _=>T.b_tuple) boot_tuple (by decide) (jb 0))))) (jr9 (za (js2 fun _=>hr.units) ‹"v"› (WE.toT ju)))))
   (jl (qq jhU)) qA)
   (jf (Jg (jiB (jdw (WE.toT (qX b_all (fun _=>rfl) (fun _=>T.b_all) boot_all (jn (WE.toT (WO.toE (Qe (sc:=jd Jd) (Lc:=["part"]) (Fn:=[]) (ix:=[]) (fun _=>rfl) (show LcOk (jd Jd) ["thing","hours"] _ [] [] from by decide +kernel) (WI.toT (jpx (jo 0))) (j8 (i:=0) (fun _=>show List.Nodup (["part"]:List Str) from by decide +kernel) rfl (by decide) ‹"a"› ‹"p"›) jX (qi (fun _=>jgB T) ‹"g"› (fun _=>rfl) (fun _=>T.M_is_whole) (fun _=>T.F_is_whole.kp) (fun _=>T.B_is_whole) (je (jo 0) jx))))) jE)))))
   (jl (qq jhU)) qA)
   (jf (jF (i:=1) (Jh (WE.toT ‹"aE"›) (WE.toT ‹"ax"›)) (fun _=>sc_is_ship.nd) rfl ‹"a"› ‹"a"›)
   (jl (qq (jf6 (WE.toT (jd4 jn3 (jb 1) (WE.toT ju))) (jf6 (WE.toT (jd4 jqE (WE.toT (jP (jb 0) (WE.toT (qy (fun _=>rfl) (fun _=>T.g_MOST))))) (WE.toT ju))) (jie (jm3 jjL jjL (WE.toT ju) (WE.toT (jP (jb 0) (WE.toT (qy (fun _=>rfl) (fun _=>T.g_NEED))))) (WE.toT (Jl (WE.toT (jP (jb 0) (WE.toT (qy (fun _=>rfl) (fun _=>T.g_MOST))))) (jb 1))))))))))))
theorem jfT (T:Txt K mg A):FnOk P w K mg base JJ 3 A.a_is_fleet A.d_is_fleet ["thing"] (@spS ⟨K⟩ Zm):=
 zY (m:=jaw) T.F_is_fleet jfx rfl rfl fun cdv Ar outer s H E hr=>(jl (qq (jf6 (WE.toT (jin (fun _=>rfl) (fun _=>T.b_isinstance) (fun _=>rfl) (fun _=>T.b_list) boot_list (by decide) (jb 0))) (jie (qX b_all (fun _=>rfl) (fun _=>T.b_all) boot_all (jn (WE.toT (WO.toE (Qe (sc:=jd zu) (Lc:=["ship"]) (Fn:=[]) (ix:=[]) (fun _=>rfl) (show LcOk (jd zu) ["thing"] _ [] [] from by decide +kernel) (j7 (jb 0)) ‹"a5"› jX (qi (fun _=>jg2 T) ‹"g"› (fun _=>rfl) (fun _=>T.M_is_ship) (fun _=>T.F_is_ship.kp) (fun _=>T.B_is_ship) (je (jo 0) jx))))) jE))))))
theorem jbo (T:Txt K mg A):FnOk P w K mg base JJ 4 A.a_must_be_fleet A.d_must_be_fleet ["thing"] (@spS ⟨K⟩ zR):=
 zY (m:=JO) T.F_must_be_fleet jbq rfl rfl fun cdv Ar outer s H E hr=>
  (jl (Jg (jiB (jdw (WE.toT (qi (fun _=>jfT T) ‹"g"› (fun _=>rfl) (fun _=>T.M_is_fleet) (fun _=>T.F_is_fleet.kp) (fun _=>T.B_is_fleet) (je (jo 0) jx)))))
   (jl jkH) qA))
theorem jgg (T:Txt K mg A):FnOk P w K mg base JJ 1 A.a_bound_in A.d_bound_in ["need","rooms","marks"] (@spS ⟨K⟩ jay):=
 zY (m:=Zi) T.F_bound_in sc_bound_in rfl rfl fun cdv Ar outer s H E hr=>
  (jf (jF (i:=3) (qX b_sum (fun _=>rfl) (fun _=>T.b_sum) KN (jn (WE.toT (WO.toE (Qe (sc:=jd zo) (Lc:=["many","mark"]) (Fn:=[]) (ix:=[]) (fun _=>rfl) (show LcOk (jd zo) ["need","rooms","marks","elsewhere"] _ [] [] from by decide +kernel) (jbf (fun _=>rfl) (fun _=>T.b_zip) (jn (jb 1) (jn (jb 2) jE))) (jbj (zP (i:=0) (fun _=>show List.Nodup (["many","mark"]:List Str) from by decide +kernel) rfl (by decide) ‹"a"› ‹"p"› (zP (i:=1) (fun _=>show List.Nodup (["many","mark"]:List Str) from by decide +kernel) rfl (by decide) ‹"a"› ‹"p"› jbv))) (jci (jiB (jdw (jb 1)))) (jo 0)))) jE)) (fun _=>sc_bound_in.nd) rfl ‹"a"› ‹"a"›)
   (jl (qq (qX jk6 (fun _=>rfl) (fun _=>T.b_max) boot_max (jn (WE.toT (Jh (jb 0) (jb 3))) (jn (WE.toT ju) jE))))))
theorem jb8 (T:Txt K mg A):FnOk P w K mg base JJ 1 A.a_kept A.d_kept ["numbers","marks","mark"] (@spO ⟨K⟩ Zg):=
 Jz (m:=jhn) T.F_kept jnF rfl rfl fun cdv Ar outer s H E hr=>(jl (zQ (Qe (sc:=jd ZF) (Lc:=["number","other"]) (Fn:=["mark"]) (ix:=[2]) (fun _=>rfl) (show LcOk (jd ZF) ["numbers","marks","mark"] _ ["mark"] [2] from by decide +kernel) (jbf (fun _=>rfl) (fun _=>T.b_zip) (jn (jb 0) (jn (jb 1) jE))) (jbj (zP (i:=0) (fun _=>show List.Nodup (["number","other","mark"]:List Str) from by decide +kernel) rfl (by decide) ‹"a"› ‹"p"› (zP (i:=1) (fun _=>show List.Nodup (["number","other","mark"]:List Str) from by decide +kernel) rfl (by decide) ‹"a"› ‹"p"› jbv))) (jci (za (jjn fun _=>hr.units) (jb 1) (jb 2))) (jo 0))))
theorem jj7 (T:Txt K mg A):FnOk P w K mg base JJ 1 A.a_joined A.d_joined ["marked","others","marks"] (@spO ⟨K⟩ jaG):=
 Jz (m:=jcS) T.F_joined sc_joined rfl rfl fun cdv Ar outer s H E hr=>
  (jf (J4 (i:=3) (JH jx) (fun _=>sc_joined.nd) rfl ‹"a"› ‹"a"›)
   (jf (zT (ja9 (fun _=>rfl) (fun _=>T.b_enumerate) (je (jo 2) jx)) (Q5 (qp (jW (i:=4) (fun _=>sc_joined.nd) rfl ‹"a"› ‹"a"›) (qp (jW (i:=5) (fun _=>sc_joined.nd) rfl ‹"a"› ‹"a"›) Q3)))
   (jf (jF (i:=6) (jmE (WE.toT (WO.toE (jp5 (jb 2) jol (jiz (jb 4))))) (jo 5)) (fun _=>sc_joined.nd) rfl ‹"a"› ‹"a"›)
   (jl (Qc (i:=3) rfl (fun _=>Or.inl rfl) (jsD (jdw (jb 5)) (jP (jb 0) (jb 6)) (jP (jb 1) (jb 6)))))))
   (jl (jaK 3))))
theorem jlJ (T:Txt K mg A):FnOk P w K mg base JJ 1 A.a_mover A.d_mover ["rooms","part","off","on"] (@spS ⟨K⟩ Q7):=
 zY (m:=jeE) T.F_mover sc_mover rfl rfl fun cdv Ar outer s H E hr=>
  (jf (zT (ja9 (fun _=>rfl) (fun _=>T.b_enumerate) (je (jo 1) jx)) (Q5 (qp (jW (i:=4) (fun _=>sc_mover.nd) rfl ‹"a"› ‹"a"›) (qp (jW (i:=5) (fun _=>sc_mover.nd) rfl ‹"a"› ‹"a"›) Q3)))
   (jl (Jg (WW.toC (jem (za jn3 (WE.toT (jP (jb 5) (jb 2))) (WE.toT ju)) (jcB (za jfn (WE.toT (jP (jb 5) (jb 3))) (WE.toT (jP (WE.toT (jP (jb 0) (jb 4))) (jb 3)))))))
   (jl (qq (jo 4))) qA)))
   (jl (qq jkU)))
theorem jkE (T:Txt K mg A):FnOk P w K mg base JJ 2 A.a_reach A.d_reach ["rooms","part","begun"] (@spS ⟨K⟩ jb7):=
 zY (m:=je5) T.F_reach sc_reach rfl rfl fun cdv Ar outer s H E hr=>
  (jf (jeP (i:=3) (jmZ (fun _=>rfl) (fun _=>T.b_dict) (jn (jb 2) jE)) (fun _=>sc_reach.nd) rfl ‹"a"› ‹"a"›)
   (jf (J4 (i:=4) (jks jmt (fun _=>rfl) (fun _=>T.b_list) boot_list (jn (jb 2) jE)) (fun _=>sc_reach.nd) rfl ‹"a"› ‹"a"›)
   (jf (jF (i:=5) ju (fun _=>sc_reach.nd) rfl ‹"a"› ‹"a"›)
   (jf (jc5 (za jfn (jb 5) (WE.toT (qX b_len (fun _=>rfl) (fun _=>T.b_len) Y7 (jn (jb 4) jE))))
   (jf (jF (i:=6) (jP (jb 4) (jb 5)) (fun _=>sc_reach.nd) rfl ‹"a"› ‹"a"›)
   (jf (zT (JU (fun _=>rfl) (fun _=>T.b_range) (jn (WE.toT (qX b_len (fun _=>rfl) (fun _=>T.b_len) Y7 (jn (WE.toT (jP (jb 0) (WE.toT ju))) jE))) jE)) (jW (i:=7) (fun _=>sc_reach.nd) rfl ‹"a"› ‹"a"›)
   (jf (jF (i:=8) (jsD (za (joJ fun _=>hr.units) (jb 7) (jb 3)) jkU (qi (fun _=>jlJ T) ‹"g"› (fun _=>rfl) (fun _=>T.M_mover) (fun _=>T.F_mover.kp) (fun _=>T.B_mover) (je (jo 0) (je (jo 1) (je (jo 6) (je (jo 7) jx)))))) (fun _=>sc_reach.nd) rfl ‹"a"› ‹"a"›)
   (jl (Jg (jeM (jb 8))
   (jf (je8 (i:=3) (fun _=>hr.units) rfl ‹"a"› (jo 7) (jcv (je (jo 8) (je (jo 6) (je (jo 7) jx)))))
   (jl (Qc (i:=4) rfl (fun _=>Or.inl rfl) (jo 7)))) qA))))
   (jl (jp2 (i:=5) joC ju (fun _=>sc_reach.nd) rfl (fun _=>Or.inl rfl) (fun _=>Or.inl rfl))))))
   (jl (jiP 3))))))
theorem jjA (T:Txt K mg A):FnOk P w K mg base JJ 1 A.a_way_to A.d_way_to ["moves","end"] (@spO ⟨K⟩ jaO):=
 Jz (m:=jdu) T.F_way_to sc_way_to rfl rfl fun cdv Ar outer s H E hr=>
  (jf (J4 (i:=2) (JH jx) (fun _=>sc_way_to.nd) rfl ‹"a"› ‹"a"›)
   (jf (jF (i:=3) (jpV (fun _=>hr.units) (jb 0) (jb 1)) (fun _=>sc_way_to.nd) rfl ‹"a"› ‹"a"›)
   (jf (jc5 (jeM (jb 3))
   (jf (Qc (i:=2) rfl ‹"a"› (jo 3))
   (jl (jF (i:=3) (jnY (fun _=>hr.units) (jb 0) (WE.toT (jP (jb 3) (WE.toT (qy (fun _=>rfl) (fun _=>T.g_OFF)))))) (fun _=>sc_way_to.nd) rfl (fun _=>Or.inl rfl) (fun _=>Or.inl rfl)))))
   (jl (zQ (jrN (fun _=>rfl) (fun _=>T.b_list) (fun _=>rfl) (fun _=>T.b_reversed) (jn (jb 2) jE)))))))
theorem jjt (T:Txt K mg A):FnOk P w K mg base JJ 1 A.a_behind A.d_behind ["part","way","many"] (@spS ⟨K⟩ jaW):=
 zY (m:=jcW) T.F_behind sc_behind rfl rfl fun cdv Ar outer s H E hr=>
  (jf (jnj (i:=3) (fun _=>sc_behind.nd) rfl (fun _=>rfl) (sc:=jd JF) (Lc:=["share"]) (Fn:=[]) (ix:=[]) (fun _=>rfl) (show LcOk (jd JF) ["part","way","many","told","ship","off","on"] _ [] [] from by decide +kernel) (j7 (jb 0)) ‹"bf"› jX (jks b_list (fun _=>rfl) (fun _=>T.b_list) boot_list (jn (jb 0) jE)))
   (jf (zT (jch (jo 1)) (Q5 (qp (jW (i:=4) (fun _=>sc_behind.nd) rfl ‹"a"› ‹"a"›) (qp (jW (i:=5) (fun _=>sc_behind.nd) rfl ‹"a"› ‹"a"›) (qp (jW (i:=6) (fun _=>sc_behind.nd) rfl ‹"a"› ‹"a"›) Q3))))
   (jf (Jg (jeM (jb 5))
   (jl (jim (i:=3) jsu rfl (fun _=>Or.inl rfl) (jb 4) (jo 5) (jo 2))) qA)
   (jl (jim (i:=3) joC rfl (fun _=>Or.inl rfl) (jb 4) (jo 6) (jo 2)))))
   (jl (jlp 3 (qq (jo 3))))))
theorem jjx (T:Txt K mg A):FnOk P w K mg base JJ 1 A.a_put_in A.d_put_in ["needs","rooms","part"] (@spS ⟨K⟩ jaF):=
 zY (m:=jcH) T.F_put_in sc_put_in rfl rfl fun cdv Ar outer s H E hr=>
  (jf (jeP (i:=3) jk2 (fun _=>sc_put_in.nd) rfl ‹"a"› ‹"a"›)
   (jf (zT (ja9 (fun _=>rfl) (fun _=>T.b_enumerate) (je (jo 2) jx)) (Q5 (qp (jW (i:=4) (fun _=>sc_put_in.nd) rfl ‹"a"› ‹"a"›) (qp (jW (i:=5) (fun _=>sc_put_in.nd) rfl ‹"a"› ‹"a"›) Q3)))
   (jf (jF (i:=6) (jd4 jfn (WE.toT (qX b_sum (fun _=>rfl) (fun _=>T.b_sum) KN (jn (jb 5) jE))) (WE.toT (jP (jb 0) (jb 4)))) (fun _=>sc_put_in.nd) rfl ‹"a"› ‹"a"›)
   (jl (zT (ja9 (fun _=>rfl) (fun _=>T.b_enumerate) (je (jo 5) jx)) (Q5 (qp (jW (i:=7) (fun _=>sc_put_in.nd) rfl ‹"a"› ‹"a"›) (qp (jW (i:=8) (fun _=>sc_put_in.nd) rfl ‹"a"› ‹"a"›) Q3)))
   (jl (Jg (WW.toC (jem (jdw (jb 6)) (jem (za jfn (jb 8) (WE.toT (jP (WE.toT (jP (jb 1) (jb 4))) (jb 7)))) (jcB (za (jl1 fun _=>hr.units) (jb 7) (jb 3))))))
   (jl (je8 (i:=3) (fun _=>hr.units) rfl (fun _=>Or.inl rfl) (jo 7) (jcv (je (jo 4) (je jkU (je (jo 7) jx)))))) qA))))))
   (jl (jiP 3))))
theorem jct (T:Txt K mg A):FnOk P w K mg base JJ 1 A.a_total A.d_total ["plan","place"] (@spS ⟨K⟩ Zn):=
 zY (m:=jfb) T.F_total jlZ rfl rfl fun cdv Ar outer s H E hr=>(jl (qq (qX b_sum (fun _=>rfl) (fun _=>T.b_sum) KN (jn (WE.toT (WO.toE (Qe (sc:=jd Qw) (Lc:=["share"]) (Fn:=["place"]) (ix:=[1]) (fun _=>rfl) (show LcOk (jd Qw) ["plan","place"] _ ["place"] [1] from by decide +kernel) (j7 (jb 0)) (j8 (i:=0) (fun _=>show List.Nodup (["share","place"]:List Str) from by decide +kernel) rfl (by decide) ‹"a"› ‹"p"›) jX (jP (jb 0) (jb 1))))) jE))))
theorem jdR (T:Txt K mg A):FnOk P w K mg base JJ 1 A.a_most_along A.d_most_along ["needs","rooms","part","way"] (@spS ⟨K⟩ J0):=
 zY (m:=Ze) T.F_most_along sc_most_along rfl rfl fun cdv Ar outer s H E hr=>
  (jf (jF (i:=4) (jP (WE.toT (jP (jb 3) (WE.toT ju))) (WE.toT (qy (fun _=>rfl) (fun _=>T.g_SHIP)))) (fun _=>sc_most_along.nd) rfl ‹"a"› ‹"a"›)
   (jf (J4 (i:=5) (JH (je (Jh (WE.toT (jP (jb 0) (jb 4))) (WE.toT (qX b_sum (fun _=>rfl) (fun _=>T.b_sum) KN (jn (WE.toT (jP (jb 2) (jb 4))) jE)))) jx)) (fun _=>sc_most_along.nd) rfl ‹"a"› ‹"a"›)
   (jf (zT (jch (jo 3)) (Q5 (qp (jW (i:=6) (fun _=>sc_most_along.nd) rfl ‹"a"› ‹"a"›) (qp (jW (i:=7) (fun _=>sc_most_along.nd) rfl ‹"a"› ‹"a"›) (qp (jW (i:=8) (fun _=>sc_most_along.nd) rfl ‹"a"› ‹"a"›) Q3))))
   (jf (Qc (i:=5) rfl ‹"a"› (Jh (WE.toT (jP (WE.toT (jP (jb 1) (jb 6))) (jb 8))) (WE.toT (jP (WE.toT (jP (jb 2) (jb 6))) (jb 8)))))
   (jl (Jg (jeM (jb 7))
   (jl (Qc (i:=5) rfl (fun _=>Or.inl rfl) (jP (WE.toT (jP (jb 2) (jb 6))) (jb 7)))) qA))))
   (jl (qq (qX jpS (fun _=>rfl) (fun _=>T.b_min) boot_min (jn (jb 5) jE)))))))
theorem jep (T:Txt K mg A):FnOk P w K mg base JJ 3 A.a_filled A.d_filled ["needs","rooms","tops","part"] (@spS ⟨K⟩ ZY):=
 zY (m:=jcz) T.F_filled sc_filled rfl rfl fun cdv Ar outer s H E hr=>
  (jl (jc5 (jdw (WE.toT jhU))
   (jf (jF (i:=4) (qi (fun _=>jkE T) ‹"g"› (fun _=>rfl) (fun _=>T.M_reach) (fun _=>T.F_reach.kp) (fun _=>T.B_reach) (je (jo 1) (je (jo 3) (je (qi (fun _=>jjx T) ‹"g"› (fun _=>rfl) (fun _=>T.M_put_in) (fun _=>T.F_put_in.kp) (fun _=>T.B_put_in) (je (jo 0) (je (jo 1) (je (jo 3) jx)))) jx)))) (fun _=>sc_filled.nd) rfl ‹"p"› ‹"a"›)
   (jf (jf0 (i:=5) (fun _=>sc_filled.nd) rfl (fun _=>rfl) (sc:=jd qW) (Lc:=["place"]) (Fn:=["part","tops"]) (ix:=[3,2]) (fun _=>rfl) (show LcOk (jd qW) ["needs","rooms","tops","part","moves","free","many","way","spare"] _ ["part","tops"] [3,2] from by decide +kernel) (WI.toT (jpq (jo 4))) (j8 (i:=0) (fun _=>show List.Nodup (["place","part","tops"]:List Str) from by decide +kernel) rfl (by decide) ‹"a"› ‹"p"›) (jci (za jfn (WE.toT (qi (fun _=>jct T) ‹"g"› (fun _=>rfl) (fun _=>T.M_total) (fun _=>T.F_total.kp) (fun _=>T.B_total) (je (jo 1) (je (jo 0) jx)))) (WE.toT (jP (jb 2) (jb 0))))) (jo 0))
   (jf (Jg (za (jjn fun _=>hr.units) (jb 5) (WE.toT (WO.toE (JH jx))))
   (jf (jF (i:=6) (qX b_sum (fun _=>rfl) (fun _=>T.b_sum) KN (jn (WE.toT (WO.toE (Qe (sc:=jd qW) (Lc:=["share"]) (Fn:=[]) (ix:=[]) (fun _=>rfl) (show LcOk (jd qW) ["needs","rooms","tops","part","moves","free","many","way","spare"] _ [] [] from by decide +kernel) (j7 (jb 3)) ‹"bf"› jX ‹"au"›))) jE)) (fun _=>sc_filled.nd) rfl ‹"a"› ‹"a"›)
   (jl (qq (jcv (je (jo 6) (je (jo 3) (je (WO.toE (Qe (sc:=jd qW) (Lc:=["place"]) (Fn:=["moves"]) (ix:=[4]) (fun _=>rfl) (show LcOk (jd qW) ["needs","rooms","tops","part","moves","free","many","way","spare"] _ ["moves"] [4] from by decide +kernel) (WI.toT (JU (fun _=>rfl) (fun _=>T.b_range) (jn (WE.toT (qX b_len (fun _=>rfl) (fun _=>T.b_len) Y7 (jn (jb 2) jE))) jE))) (j8 (i:=0) (fun _=>show List.Nodup (["place","moves"]:List Str) from by decide +kernel) rfl (by decide) (fun _=>Or.inl rfl) (fun _=>Or.inr rfl)) jX (jd4 (joJ fun _=>hr.units) (jb 0) (jb 1)))) jx))))))) qA)
   (jf (jF (i:=7) (WO.toE (j9 (fun _=>jjA T) ‹"g"› (fun _=>rfl) (fun _=>T.M_way_to) (fun _=>T.F_way_to.kp) (fun _=>T.B_way_to) (je (jo 4) (je (jP (jb 5) (WE.toT ju)) jx)))) (fun _=>sc_filled.nd) rfl ‹"a"› ‹"a"›)
   (jf (jF (i:=8) (Jh (WE.toT (jP (jb 2) (WE.toT (jP (jb 5) (WE.toT ju))))) (WE.toT (qi (fun _=>jct T) ‹"g"› (fun _=>rfl) (fun _=>T.M_total) (fun _=>T.F_total.kp) (fun _=>T.B_total) (je (jo 3) (je (jP (jb 5) (WE.toT ju)) jx))))) (fun _=>sc_filled.nd) rfl ‹"a"› ‹"a"›)
   (jl (jF (i:=3) (qi (fun _=>jjt T) (fun _=>hr.mono (by decide)) (fun _=>rfl) (fun _=>T.M_behind) (fun _=>T.F_behind.kp) (fun _=>T.B_behind) (je (jo 3) (je (jo 7) (je (qX jhu (fun _=>rfl) (fun _=>T.b_min) boot_min (jn (jb 8) (jn (WE.toT (qi (fun _=>jdR T) (fun _=>hr.mono (by decide)) (fun _=>rfl) (fun _=>T.M_most_along) (fun _=>T.F_most_along.kp) (fun _=>T.B_most_along) (je (jo 0) (je (jo 1) (je (jo 3) (je (jo 7) jx)))))) jE))) jx)))) (fun _=>sc_filled.nd) rfl (fun _=>Or.inr rfl) (fun _=>Or.inl rfl))))))))))
theorem je7 (T:Txt K mg A):FnOk P w K mg base JJ 1 A.a_no_cranes A.d_no_cranes ["rooms"] (@spO ⟨K⟩ Qs):=
 Jz (m:=ZS) T.F_no_cranes jfp rfl rfl fun cdv Ar outer s H E hr=>(jl (zQ (Qe (sc:=jd qU) (Lc:=["share"]) (Fn:=[]) (ix:=[]) (fun _=>rfl) (show LcOk (jd qU) ["rooms"] _ [] [] from by decide +kernel) (j7 (jb 0)) ‹"bf"› jX (WO.toE (jr7 (WE.toT (WO.toE (JH (je ju jx)))) ‹"v"›)))))
theorem Zq (T:Txt K mg A) (k:Nat) (h:FnOk P w K mg base JJ (3+2*k) A.a_evened A.d_evened ["needs","rooms","hours"] (@spS ⟨K⟩ (zp k))):FnOk P w K mg base JJ (3+2*k+1) A.a_evened_apart A.d_evened_apart ["needs","rooms","hours","marks"] (@spO ⟨K⟩ (zO 4 8 (qx (zp k)))):=
 Jz (m:=qx (zp k)) T.F_evened_apart sc_evened_apart rfl rfl fun cdv Ar outer s H E hr=>
  (jf (jf0 (i:=4) (fun _=>sc_evened_apart.nd) rfl (fun _=>rfl) (sc:=jd jL) (Lc:=["need","share"]) (Fn:=["marks"]) (ix:=[3]) (fun _=>rfl) (show LcOk (jd jL) ["needs","rooms","hours","marks","inside","outside","high","low"] _ ["marks"] [3] from by decide +kernel) (jbf (fun _=>rfl) (fun _=>T.b_zip) (jn (jb 0) (jn (jb 1) jE))) (jbj (zP (i:=0) (fun _=>show List.Nodup (["need","share","marks"]:List Str) from by decide +kernel) rfl (by decide) ‹"a"› ‹"p"› (zP (i:=1) (fun _=>show List.Nodup (["need","share","marks"]:List Str) from by decide +kernel) rfl (by decide) ‹"a"› ‹"p"› jbv))) jX (qi (fun _=>jgg T) ‹"R"› (fun _=>rfl) (fun _=>T.M_bound_in) (fun _=>T.F_bound_in.kp) (fun _=>T.B_bound_in) (je (jo 0) (je (jo 1) (je (jo 2) jx)))))
   (jf (jf0 (i:=5) (fun _=>sc_evened_apart.nd) rfl (fun _=>rfl) (sc:=jd jL) (Lc:=["need","many"]) (Fn:=[]) (ix:=[]) (fun _=>rfl) (show LcOk (jd jL) ["needs","rooms","hours","marks","inside","outside","high","low"] _ [] [] from by decide +kernel) (jbf (fun _=>rfl) (fun _=>T.b_zip) (jn (jb 0) (jn (jb 4) jE))) (jbj (zP (i:=0) (fun _=>show List.Nodup (["need","many"]:List Str) from by decide +kernel) rfl (by decide) ‹"a"› ‹"p"› (zP (i:=1) (fun _=>show List.Nodup (["need","many"]:List Str) from by decide +kernel) rfl (by decide) ‹"a"› ‹"p"› jbv))) jX (Jh (jb 0) (jb 1)))
   (jf (jF (i:=6) (qi (fun _=>h) ‹"R"› (fun _=>rfl) (fun _=>T.M_evened) (fun _=>T.F_evened.kp) (fun _=>T.B_evened) (je (jo 4) ‹"a3"›)) (fun _=>sc_evened_apart.nd) rfl ‹"a"› ‹"a"›)
   (jf (jF (i:=7) (qi (fun _=>h) ‹"R"› (fun _=>rfl) (fun _=>T.M_evened) (fun _=>T.F_evened.kp) (fun _=>T.B_evened) (je (jo 5) ‹"a3"›)) (fun _=>sc_evened_apart.nd) rfl ‹"a"› ‹"a"›)
   (jl (zQ (Qe (sc:=jd jL) (Lc:=["marked","others"]) (Fn:=["marks"]) (ix:=[3]) (fun _=>rfl) (show LcOk (jd jL) ["needs","rooms","hours","marks","inside","outside","high","low"] _ ["marks"] [3] from by decide +kernel) (jbf (fun _=>rfl) (fun _=>T.b_zip) (jn (jb 6) (jn (jb 7) jE))) (jbj (zP (i:=0) (fun _=>show List.Nodup (["marked","others","marks"]:List Str) from by decide +kernel) rfl (by decide) (fun _=>Or.inl rfl) (fun _=>Or.inr rfl) (zP (i:=1) (fun _=>show List.Nodup (["marked","others","marks"]:List Str) from by decide +kernel) rfl (by decide) (fun _=>Or.inl rfl) (fun _=>Or.inr rfl) jbv))) jX (WO.toE (j9 (fun _=>jj7 T) (fun _=>hr.mono (by omega)) (fun _=>rfl) (fun _=>T.M_joined) (fun _=>T.F_joined.kp) (fun _=>T.B_joined) (je (jo 0) (je (jo 1) (je (jo 2) jx))))))))))))
theorem Zz (T:Txt K mg A):∀k,FnOk P w K mg base JJ (3+2*k) A.a_evened A.d_evened ["needs","rooms","hours"] (@spS ⟨K⟩ (zp k))
 | 0=>jqI
 | k+1=>FnOk.mono (j:=3+2*k+1+1) (zY (m:=ja3 (zO 4 8 (qx (zp k)))) T.F_evened sc_evened rfl rfl fun cdv Ar outer s H E hr=>
   (jf (jF (i:=3) (Q1 (WE.toT ‹"au"›) (WE.toT (qX b_sum (fun _=>rfl) (fun _=>T.b_sum) KN (jn (jb 2) jE)))) (fun _=>sc_evened.nd) rfl ‹"p"› ‹"a"›)
     (jf (jF (i:=4) (qi (fun _=>jep T) ‹"R"› (fun _=>rfl) (fun _=>T.M_filled) (fun _=>T.F_filled.kp) (fun _=>T.B_filled) (je (jo 0) (je (jo 1) (je (WO.toE (Qe (sc:=jd zK) (Lc:=["many"]) (Fn:=["level"]) (ix:=[3]) (fun _=>rfl) (show LcOk (jd zK) ["needs","rooms","hours","level","floor","full"] _ ["level"] [3] from by decide +kernel) (j7 (jb 2)) ‹"bb"› jX (Jl (jb 1) (jb 0)))) (je (WO.toE (j9 (fun _=>je7 T) ‹"R"› (fun _=>rfl) (fun _=>T.M_no_cranes) (fun _=>T.F_no_cranes.kp) (fun _=>T.B_no_cranes) (je (jo 1) jx))) jx))))) (fun _=>sc_evened.nd) rfl ‹"a"› ‹"a"›)
     (jf (Jg (za jfn (WE.toT (jP (jb 4) (WE.toT (qy (fun _=>rfl) (fun _=>T.g_MANY))))) (WE.toT (Jl (jb 3) (WE.toT (qX b_sum (fun _=>rfl) (fun _=>T.b_sum) KN (jn (jb 2) jE))))))
     (jl (qq (WO.toE (j9 (fun _=>Zq T k (Zz T k)) (fun _=>hr.mono (by omega)) (fun _=>rfl) (fun _=>T.M_evened_apart) (fun _=>T.F_evened_apart.kp) (fun _=>T.B_evened_apart) (je (jo 0) (je (jo 1) (je (jo 2) (je (jP (jb 4) (WE.toT (qy (fun _=>rfl) (fun _=>T.g_MARKS)))) jx)))))))) qA)
     (jf (jF (i:=5) (qi (fun _=>jep T) ‹"R"› (fun _=>rfl) (fun _=>T.M_filled) (fun _=>T.F_filled.kp) (fun _=>T.B_filled) (je (jo 0) (je (jo 1) (je (WO.toE (Qe (sc:=jd zK) (Lc:=["many"]) (Fn:=["level"]) (ix:=[3]) (fun _=>rfl) (show LcOk (jd zK) ["needs","rooms","hours","level","floor","full"] _ ["level"] [3] from by decide +kernel) (j7 (jb 2)) ‹"bb"› jX (Jl (WE.toT (zj (jb 1) (WE.toT ju))) (jb 0)))) (je (jP (jb 4) (WE.toT (qy (fun _=>rfl) (fun _=>T.g_PART)))) jx))))) (fun _=>sc_evened.nd) rfl ‹"a"› ‹"a"›)
     (jf (Jg (za jfn (WE.toT (jP (jb 5) (WE.toT (qy (fun _=>rfl) (fun _=>T.g_MANY))))) (WE.toT ‹"au"›))
     (jl (qq (WO.toE (j9 (fun _=>Zq T k (Zz T k)) (fun _=>hr.mono (by omega)) (fun _=>rfl) (fun _=>T.M_evened_apart) (fun _=>T.F_evened_apart.kp) (fun _=>T.B_evened_apart) (je (jo 0) (je (jo 1) (je (jo 2) (je (jP (jb 5) (WE.toT (qy (fun _=>rfl) (fun _=>T.g_MARKS)))) jx)))))))) qA)
     (jl (qq (jP (jb 5) (WE.toT (qy (fun _=>rfl) (fun _=>T.g_PART)))))))))))) (by omega)
theorem jje (T:Txt K mg A):FnOk P w K mg base JJ (37) A.a_evened A.d_evened ["needs","rooms","hours"] (@spS ⟨K⟩ f_evened):=Zz T 17
theorem jfK (T:Txt K mg A):FnOk P w K mg base JJ 1 A.a_needs_of A.d_needs_of ["fleet"] (@spO ⟨K⟩ Zo):=
 Jz (m:=Zj) T.F_needs_of jfS rfl rfl fun cdv Ar outer s H E hr=>(jl (zQ (Qe (sc:=jd zq) (Lc:=["ship"]) (Fn:=[]) (ix:=[]) (fun _=>rfl) (show LcOk (jd zq) ["fleet"] _ [] [] from by decide +kernel) (j7 (jb 0)) ‹"a5"› jX (jP (jb 0) (WE.toT (qy (fun _=>rfl) (fun _=>T.g_NEED)))))))
theorem jj6 (T:Txt K mg A):FnOk P w K mg base JJ 1 A.a_bounds A.d_bounds ["fleet"] (@spO ⟨K⟩ jdv):=
 Jz (m:=jbe) T.F_bounds sc_bounds rfl rfl fun cdv Ar outer s H E hr=>
  (jf (jf0 (i:=1) (fun _=>sc_bounds.nd) rfl (fun _=>rfl) (sc:=jd zJ) (Lc:=["ship"]) (Fn:=[]) (ix:=[]) (fun _=>rfl) (show LcOk (jd zJ) ["fleet","begins","ends"] _ [] [] from by decide +kernel) (j7 (jb 0)) ‹"a5"› jX ‹"ax"›)
   (jf (jf0 (i:=2) (fun _=>sc_bounds.nd) rfl (fun _=>rfl) (sc:=jd zJ) (Lc:=["ship"]) (Fn:=[]) (ix:=[]) (fun _=>rfl) (show LcOk (jd zJ) ["fleet","begins","ends"] _ [] [] from by decide +kernel) (j7 (jb 0)) ‹"a5"› jX ‹"aE"›)
   (jl (zQ (jo3 (fun _=>rfl) (fun _=>T.b_sorted) (fun _=>rfl) (fun _=>T.b_set) (jn (WE.toT (WO.toE (jlX (jb 1) (jb 2)))) jE) (sub:=fun _ _=>⟨rfl,rfl⟩) (j0:=()))))))
theorem Q8 (T:Txt K mg A):FnOk P w K mg base JJ 2 A.a_stretches A.d_stretches ["fleet"] (@spO ⟨K⟩ JE):=
 Jz (m:=Qr) T.F_stretches sc_stretches rfl rfl fun cdv Ar outer s H E hr=>
  (jf (jF (i:=1) (WO.toE (j9 (fun _=>jj6 T) ‹"g"› (fun _=>rfl) (fun _=>T.M_bounds) (fun _=>T.F_bounds.kp) (fun _=>T.B_bounds) (je (jo 0) jx))) (fun _=>sc_stretches.nd) rfl ‹"a"› ‹"a"›)
   (jl (zQ (js6 (fun _=>rfl) (fun _=>T.b_list) (fun _=>rfl) (fun _=>T.b_zip) (jn (jb 1) (jn (WE.toT (WO.toE (jp5 (jb 1) (jiz (WE.toT ju)) jol))) jE))))))
theorem jbw (T:Txt K mg A):FnOk P w K mg base JJ 1 A.a_length A.d_length ["stretch"] (@spS ⟨K⟩ QL):=
 zY (m:=jck) T.F_length jjT rfl rfl fun cdv Ar outer s H E hr=>(jl (qq (Jh (WE.toT (jP (jb 0) (WE.toT (qy (fun _=>rfl) (fun _=>T.g_TO))))) (WE.toT (jP (jb 0) (WE.toT (qy (fun _=>rfl) (fun _=>T.g_FROM))))))))
theorem jmN (T:Txt K mg A):FnOk P w K mg base JJ 2 A.a_room A.d_room ["ship","stretch"] (@spS ⟨K⟩ jfs):=
 zY (m:=jg4) T.F_room jmH rfl rfl fun cdv Ar outer s H E hr=>
  (jf (Jg (WW.toC (jem (za jjL (WE.toT ‹"ax"›) (WE.toT (jP (jb 1) (WE.toT (qy (fun _=>rfl) (fun _=>T.g_FROM)))))) (jcB (za jjL (WE.toT (jP (jb 1) (WE.toT (qy (fun _=>rfl) (fun _=>T.g_TO))))) (WE.toT ‹"aE"›)))))
   (jl (qq (Jl (WE.toT (jP (jb 0) (WE.toT (qy (fun _=>rfl) (fun _=>T.g_MOST))))) (WE.toT (qi (fun _=>jbw T) (fun _=>hr.mono (by decide)) (fun _=>rfl) (fun _=>T.M_length) (fun _=>T.F_length.kp) (fun _=>T.B_length) (je (jo 1) jx)))))) qA)
   (jl (qq ju)))
theorem jgy (T:Txt K mg A):FnOk P w K mg base JJ 3 A.a_rooms_of A.d_rooms_of ["fleet"] (@spO ⟨K⟩ jaC):=
 Jz (m:=Zf) T.F_rooms_of sc_rooms_of rfl rfl fun cdv Ar outer s H E hr=>
  (jf (jF (i:=1) ‹"a4"› (fun _=>sc_rooms_of.nd) rfl ‹"p"› ‹"a"›)
   (jl (zQ (Qe (sc:=jd qM) (Lc:=["ship"]) (Fn:=["spans"]) (ix:=[1]) (fun _=>rfl) (show LcOk (jd qM) ["fleet","spans"] _ ["spans"] [1] from by decide +kernel) (j7 (jb 0)) (j8 (i:=0) (fun _=>show List.Nodup (["ship","spans"]:List Str) from by decide +kernel) rfl (by decide) (fun _=>Or.inr rfl) (fun _=>Or.inl rfl)) jX (WO.toE (jn7 (sc:=jd qM) (Lc:=["span"]) (Fn:=["ship"]) (ix:=[0]) (fun _=>rfl) (show LcOk (jiL (jd qM) _) ["ship","spans"] _ ["ship"] [0] from by decide +kernel) (j7 (jb 1)) (j8 (i:=0) (fun _=>show List.Nodup (["span","ship"]:List Str) from by decide +kernel) rfl (by decide) (fun _=>Or.inl rfl) (fun _=>Or.inr rfl)) jX (qi (fun _=>jmN T) (fun _=>hr.mono (by decide)) (fun _=>rfl) (fun _=>T.M_room) (fun _=>T.F_room.kp) (fun _=>T.B_room) (je (jo 1) (je (jo 0) jx)))))))))
theorem jdJ (T:Txt K mg A):FnOk P w K mg base JJ 3 A.a_lengths_of A.d_lengths_of ["fleet"] (@spO ⟨K⟩ JY):=
 Jz (m:=J8) T.F_lengths_of jdT rfl rfl fun cdv Ar outer s H E hr=>(jl (zQ (Qe (sc:=jd qH) (Lc:=["span"]) (Fn:=[]) (ix:=[]) (fun _=>rfl) (show LcOk (jd qH) ["fleet"] _ [] [] from by decide +kernel) (j7 (WE.toT ‹"a4"›)) (j8 (i:=0) (fun _=>show List.Nodup (["span"]:List Str) from by decide +kernel) rfl (by decide) ‹"a"› ‹"p"›) jX (qi (fun _=>jbw T) ‹"g"› (fun _=>rfl) (fun _=>T.M_length) (fun _=>T.F_length.kp) (fun _=>T.B_length) (je (jo 0) jx)))))
theorem jmv (T:Txt K mg A):FnOk P w K mg base JJ 38 A.a_even A.d_even ["fleet"] (@spS ⟨K⟩ jdg):=
 zY (m:=jhQ) T.F_even jnm rfl rfl fun cdv Ar outer s H E hr=>
  (jf (jn4 (WE.toT (qi (fun _=>jbo T) ‹"g"› (fun _=>rfl) (fun _=>T.M_must_be_fleet) (fun _=>T.F_must_be_fleet.kp) (fun _=>T.B_must_be_fleet) (je (jo 0) jx))))
   (jf (Jg (za (jjn fun _=>hr.units) (jb 0) (WE.toT (WO.toE (JH jx))))
   (jl (qq (WO.toE (JH jx)))) qA)
   (jl (qq (qi (fun _=>jje T) (fun _=>hr.mono (by decide)) (fun _=>rfl) (fun _=>T.M_evened) (fun _=>T.F_evened.kp) (fun _=>T.B_evened) (je (WO.toE (j9 (fun _=>jfK T) (fun _=>hr.mono (by decide)) (fun _=>rfl) (fun _=>T.M_needs_of) (fun _=>T.F_needs_of.kp) (fun _=>T.B_needs_of) (je (jo 0) jx))) (je (WO.toE (j9 (fun _=>jgy T) (fun _=>hr.mono (by decide)) (fun _=>rfl) (fun _=>T.M_rooms_of) (fun _=>T.F_rooms_of.kp) (fun _=>T.B_rooms_of) (je (jo 0) jx))) (je (WO.toE (j9 (fun _=>jdJ T) (fun _=>hr.mono (by decide)) (fun _=>rfl) (fun _=>T.M_lengths_of) (fun _=>T.F_lengths_of.kp) (fun _=>T.B_lengths_of) (je (jo 0) jx))) jx))))))))
theorem jgE (T:Txt K mg A):FnOk P w K mg base JJ 1 A.a_loads_in A.d_loads_in ["many","hours"] (@spO ⟨K⟩ Zl):=
 Jz (m:=jaA) T.F_loads_in sc_loads_in rfl rfl fun cdv Ar outer s H E hr=>
  (jf (jF (i:=2) (Q1 (jb 0) (jb 1)) (fun _=>sc_loads_in.nd) rfl ‹"a"› ‹"a"›)
   (jf (jF (i:=3) (zr (jb 0) (jb 1)) (fun _=>sc_loads_in.nd) rfl ‹"a"› ‹"a"›)
   (jf (J4 (i:=4) (JH (je (jcv (je (jo 2) (je (Jh (jb 1) (jb 3)) jx))) jx)) (fun _=>sc_loads_in.nd) rfl ‹"a"› ‹"a"›)
   (jf (Jg (za jn3 (jb 3) (WE.toT ju))
   (jl (Qc (i:=4) rfl (fun _=>Or.inl rfl) (jcv (je (zj (jb 2) (WE.toT ju)) (je (jo 3) jx))))) qA)
   (jl (jaK 4))))))
theorem jjO (T:Txt K mg A):FnOk P w K mg base JJ 3 A.a_row_of A.d_row_of ["fleet","plan"] (@spO ⟨K⟩ QO):=
 Jz (m:=ja7) T.F_row_of sc_row_of rfl rfl fun cdv Ar outer s H E hr=>
  (jf (jeP (i:=2) jk2 (fun _=>sc_row_of.nd) rfl ‹"a"› ‹"a"›)
   (jf (zT (ja9 (fun _=>rfl) (fun _=>T.b_enumerate) (je ‹"a4"› jx)) (Q5 (qp (jW (i:=3) (fun _=>sc_row_of.nd) rfl ‹"a"› ‹"a"›) (qp (jW (i:=4) (fun _=>sc_row_of.nd) rfl ‹"a"› ‹"a"›) Q3)))
   (jl (zT (jch (WO.toE (j9 (fun _=>jgE T) ‹"g"› (fun _=>rfl) (fun _=>T.M_loads_in) (fun _=>T.F_loads_in.kp) (fun _=>T.B_loads_in) (je (qi (fun _=>jct T) ‹"g"› (fun _=>rfl) (fun _=>T.M_total) (fun _=>T.F_total.kp) (fun _=>T.B_total) (je (jo 1) (je (jo 3) jx))) (je (qi (fun _=>jbw T) ‹"g"› (fun _=>rfl) (fun _=>T.M_length) (fun _=>T.F_length.kp) (fun _=>T.B_length) (je (jo 4) jx)) jx))))) (Q5 (qp (jW (i:=5) (fun _=>sc_row_of.nd) rfl ‹"a"› ‹"a"›) (qp (jW (i:=6) (fun _=>sc_row_of.nd) rfl ‹"a"› ‹"a"›) Q3)))
   (jl (je8 (i:=2) (fun _=>hr.units) rfl (fun _=>Or.inl rfl) (jo 5) (zj (WE.toT (jmM (fun _=>hr.units) (jb 2) (jb 5) ju)) (jb 6)))))))
   (jl (zQ (jmf (fun _=>rfl) (fun _=>T.b_sorted) (jb 2))))))
theorem jnM (T:Txt K mg A):FnOk P w K mg base JJ 39 A.a_peak A.d_peak ["fleet"] (@spS ⟨K⟩ jcC):=
 zY (m:=jgZ) T.F_peak sc_peak rfl rfl fun cdv Ar outer s H E hr=>
  (jf (jF (i:=1) (qi (fun _=>jmv T) ‹"g"› (fun _=>rfl) (fun _=>T.M_even) (fun _=>T.F_even.kp) (fun _=>T.B_even) (je (jo 0) jx)) (fun _=>sc_peak.nd) rfl ‹"a"› ‹"a"›)
   (jl (qq (jpE (fun _=>rfl) (fun _=>T.b_max) (WE.toT (WO.toE (Qe (sc:=jd ZX) (Lc:=["height","hours"]) (Fn:=[]) (ix:=[]) (fun _=>rfl) (show LcOk (jd ZX) ["fleet","plan"] _ [] [] from by decide +kernel) (j7 (WE.toT (WO.toE (j9 (fun _=>jjO T) (fun _=>hr.mono (by decide)) (fun _=>rfl) (fun _=>T.M_row_of) (fun _=>T.F_row_of.kp) (fun _=>T.B_row_of) (je (jo 0) (je (jo 1) jx)))))) (jbj (zP (i:=0) (fun _=>show List.Nodup (["height","hours"]:List Str) from by decide +kernel) rfl (by decide) (fun _=>Or.inl rfl) (fun _=>Or.inr rfl) (zP (i:=1) (fun _=>show List.Nodup (["height","hours"]:List Str) from by decide +kernel) rfl (by decide) (fun _=>Or.inl rfl) (fun _=>Or.inr rfl) jbv))) jX (jo 0)))) ju))))
theorem jpP (T:Txt K mg A):FnOk P w K mg base JJ 40 A.a_law A.d_law ["script"] (@spS ⟨K⟩ joo):=
 zY (m:=jiX) T.F_law sc_law rfl rfl fun cdv Ar outer s H E hr=>
  (jf (jF (i:=1) (WO.toE (j9 (fun _=>jdB T) ‹"g"› (fun _=>rfl) (fun _=>T.M__law_fleet) (fun _=>T.F__law_fleet.kp) (fun _=>T.B__law_fleet) (je (jo 0) (je ju jx)))) ‹"aY"› rfl ‹"a"› ‹"a"›)
   (jf (jF (i:=2) (WO.toE (j9 (fun _=>jae T) ‹"g"› (fun _=>rfl) (fun _=>T.M__law_parts) (fun _=>T.F__law_parts.kp) (fun _=>T.B__law_parts) (je (jo 1) jx))) ‹"aY"› rfl ‹"a"› ‹"a"›)
   (jf (jF (i:=3) (WO.toE (j9 (fun _=>jeR T) ‹"g"› (fun _=>rfl) (fun _=>T.M__law_plan) (fun _=>T.F__law_plan.kp) (fun _=>T.B__law_plan) (je (jo 1) (je (WO.toE (jlX (WE.toT (WO.toE (jp5 (jb 0) (jiz (WE.toT ju)) (jiz (WE.toT ju))))) (WE.toT (WO.toE (JH (je ju jx)))))) jx)))) ‹"aY"› rfl ‹"a"› ‹"a"›)
   (jf (jF (i:=4) (WO.toE (j9 (fun _=>jc8 T) ‹"g"› (fun _=>rfl) (fun _=>T.M__law_totals) (fun _=>T.F__law_totals.kp) (fun _=>T.B__law_totals) (je (jo 2) (je (jo 3) jx)))) ‹"aY"› rfl ‹"a"› ‹"a"›)
   (jf (jF (i:=5) (qi (fun _=>jnM T) ‹"g"› (fun _=>rfl) (fun _=>T.M_peak) (fun _=>T.F_peak.kp) (fun _=>T.B_peak) (je (WO.toE (jks b_list (fun _=>rfl) (fun _=>T.b_list) boot_list (jn (jb 1) jE))) jx)) ‹"aY"› rfl ‹"a"› ‹"a"›)
   (jf (jF (i:=6) ju ‹"aY"› rfl ‹"a"› ‹"a"›)
   (jf (jF (i:=7) ju ‹"aY"› rfl ‹"a"› ‹"a"›)
   (jf (zT ‹"bi"› (jW (i:=8) ‹"aY"› rfl ‹"a"› ‹"a"›)
   (jf (jF (i:=9) (Jh (WE.toT (jP (WE.toT (jP (jb 2) (jb 8))) (WE.toT ju))) (WE.toT (jP (WE.toT (jP (jb 2) (jb 8))) (WE.toT ju)))) ‹"aY"› rfl ‹"a"› ‹"a"›)
   (jf (jF (i:=6) (qX jk6 (fun _=>rfl) (fun _=>T.b_max) boot_max (jn (jb 6) (jn (WE.toT (Q1 (WE.toT (Jh (WE.toT (zj (WE.toT (jP (jb 4) (jb 8))) (jb 9))) (WE.toT ju))) (jb 9))) jE))) ‹"aY"› rfl ‹"a"› ‹"a"›)
   (jl (jF (i:=7) (zj (jb 7) (jb 9)) (fun _=>sc_law.nd) rfl (fun _=>Or.inl rfl) (fun _=>Or.inl rfl))))))
   (jl (qq (jf6 (WE.toT (jd4 jqE (jb 6) (jb 5))) (jie (jd4 jqE (WE.toT (Jl (jb 5) (jb 7))) (WE.toT (qX b_sum (fun _=>rfl) (fun _=>T.b_sum) KN (jn (WE.toT (WO.toE (Qe (sc:=jd jbI) (Lc:=["ship"]) (Fn:=[]) (ix:=[]) (fun _=>rfl) (show LcOk (jd jbI) ["script","fleet","parts","plan","told","found","most","hours","s","long"] _ [] [] from by decide +kernel) (j7 (jb 1)) (j8 (i:=0) (fun _=>show List.Nodup (["ship"]:List Str) from by decide +kernel) rfl (by decide) (fun _=>Or.inl rfl) (fun _=>Or.inr rfl)) jX (jP (jb 0) (WE.toT ju))))) jE))))))))))))))))
end
def jip (K:PySem.W.Frag):Sp:=fun vs H Q _=>∃(a:Addr) (ns:List Int),vs=[.ref a]/\Jp K H a (ns.map V.int)/\ns.length<=63/\∀H',Q (.bl true) H'
theorem jnn {P:Program} {w:World} {K:PySem.W.Frag} {mg:Str → Option Value} {base:Heap} {A:Adr} (T:Txt K mg A):FnOk P w K mg base JJ 40 A.a_law A.d_law ["script"] (jip K):=by
 letI:Fr:=⟨K⟩
 refine (jpP T).imp fun vs H Q E h=>?_;obtain ⟨a,ns,rfl,hs,hl,q⟩:=h;exact ⟨H,[.scr ns],.bl true,.refl _,.cons (.scr hs) .nil,jlU ns hl,fun v G' H' x r=>by cases r;exact q _⟩
set_option maxHeartbeats 4000000 in
theorem jp8 {l:PySem.W.OpenLaw} {w:World} {K:PySem.W.Frag} {h:Heap} {mg:Str → Option Value} {fa:Addr} (X:K.In h) (G:h.Ns mainGlobals mg) (hfa:mg "law"=some (.ref fa))
 {f0 f1 f2 f3 f4 f5 f6 f7 f8 f9 f10 f11 f12 f13 f14 f15 f16 f17 f18 f19 f20 f21 f22 f23 f24 f25 f26 f27 f28 f29 f30 f31 f32 f33 f34 f35 f36:Addr}
 {od0 od1 od2 od3 od4 od5 od6 od7 od8 od9 od10 od11 od12 od13 od14 od15 od16 od17 od18 od19 od20 od21 od22 od23 od24 od25 od26 od27 od28 od29 od30 od31 od32 od33 od34 od35 od36:Option Addr}
 {an0 an1 an2 an3 an4 an5 an6 an7 an8 an9 an10 an11 an12 an13 an14 an15 an16 an17 an18 an19 an20 an21 an22 an23 an24 an25 an26 an27 an28 an29 an30 an31 an32 an33 an34 an35 an36:Option Addr}
 {sl0 sl1 sl2 sl3 sl4 sl5 sl6 sl7 sl8 sl9 sl10 sl11 sl12 sl13 sl14 sl15 sl16 sl17 sl18 sl19 sl20 sl21 sl22 sl23 sl24 sl25 sl26 sl27 sl28 sl29 sl30 sl31 sl32 sl33 sl34 sl35 sl36:Array (Option Value)}
 {oc0 oc1 oc2 oc3 oc4 oc5 oc6 oc7 oc8 oc9 oc10 oc11 oc12 oc13 oc14 oc15 oc16 oc17 oc18 oc19 oc20 oc21 oc22 oc23 oc24 oc25 oc26 oc27 oc28 oc29 oc30 oc31 oc32 oc33 oc34 oc35 oc36:Value}
 {kV0 kV1 kV2 kV3 kV4 kV5 kV6 kV7 kV8 kV9 kV10 kV11 kV12 kV13 kV14 kV15 kV16 kV17 kV18 kV19 kV20 kV21 kV22 kV23 kV24 kV25 kV26 kV27 kV28 kV29 kV30 kV31 kV32 kV33 kV34 kV35 kV36:Value}
 {dc0 dc1 dc2 dc3 dc4 dc5 dc6 dc7 dc8 dc9 dc10 dc11 dc12 dc13 dc14 dc15 dc16 dc17 dc18 dc19 dc20 dc21 dc22 dc23 dc24 dc25 dc26 dc27 dc28 dc29 dc30 dc31 dc32 dc33 dc34 dc35 dc36:Value}
 {pm0 pm1 pm2 pm3 pm4 pm5 pm6 pm7 pm8 pm9 pm10 pm11 pm12 pm13 pm14 pm15 pm16 pm17 pm18 pm19 pm20 pm21 pm22 pm23 pm24 pm25 pm26 pm27 pm28 pm29 pm30 pm31 pm32 pm33 pm34 pm35 pm36:Value}
 {cd0 cd1 cd2 cd3 cd4 cd5 cd6 cd7 cd8 cd9 cd10 cd11 cd12 cd13 cd14 cd15 cd16 cd17 cd18 cd19 cd20 cd21 cd22 cd23 cd24 cd25 cd26 cd27 cd28 cd29 cd30 cd31 cd32 cd33 cd34 cd35 cd36:Value}
 {ct0 ct1 ct2 ct3 ct4 ct5 ct6 ct7 ct8 ct9 ct10 ct11 ct12 ct13 ct14 ct15 ct16 ct17 ct18 ct19 ct20 ct21 ct22 ct23 ct24 ct25 ct26 ct27 ct28 ct29 ct30 ct31 ct32 ct33 ct34 ct35 ct36:Value}
 {t0:Tok}
 {t1:Tok}
 {t2:Tok}
 {t3:Tok}
 {t4:Tok}
 {t5:Tok}
 {t6:Tok}
 {t7:Tok}
 {t8:Tok}
 {t9:Tok}
 {t10:Tok}
 (a0:PySem.W.nsIn K mainGlobals "_law_cell_at"=some (some (.ref f0))) (l0:K.lookup f0=some ⟨oc0,od0,.func (PySem.W.fnOf "_law_cell_at" "_law_cell_at" (jJ qP) (jG qP) (jd qP) .none kV0 dc0 pm0 an0 cd0 ct0),sl0⟩) (c0:PySem.W.codeIn K cd0 "_law_cell_at"=true) (k0:PySem.W.keepIn K (.ref f0)=true)
 (a1:PySem.W.nsIn K mainGlobals "_law_ship"=some (some (.ref f1))) (l1:K.lookup f1=some ⟨oc1,od1,.func (PySem.W.fnOf "_law_ship" "_law_ship" (jJ zX) (jG zX) (jd zX) .none kV1 dc1 pm1 an1 cd1 ct1),sl1⟩) (c1:PySem.W.codeIn K cd1 "_law_ship"=true) (k1:PySem.W.keepIn K (.ref f1)=true)
 (a2:PySem.W.nsIn K mainGlobals "_law_fleet"=some (some (.ref f2))) (l2:K.lookup f2=some ⟨oc2,od2,.func (PySem.W.fnOf "_law_fleet" "_law_fleet" (jJ zx) (jG zx) (jd zx) .none kV2 dc2 pm2 an2 cd2 ct2),sl2⟩) (c2:PySem.W.codeIn K cd2 "_law_fleet"=true) (k2:PySem.W.keepIn K (.ref f2)=true)
 (a3:PySem.W.nsIn K mainGlobals "_law_parts"=some (some (.ref f3))) (l3:K.lookup f3=some ⟨oc3,od3,.func (PySem.W.fnOf "_law_parts" "_law_parts" (jJ j3) (jG j3) (jd j3) .none kV3 dc3 pm3 an3 cd3 ct3),sl3⟩) (c3:PySem.W.codeIn K cd3 "_law_parts"=true) (k3:PySem.W.keepIn K (.ref f3)=true)
 (a4:PySem.W.nsIn K mainGlobals "_law_rooms"=some (some (.ref f4))) (l4:K.lookup f4=some ⟨oc4,od4,.func (PySem.W.fnOf "_law_rooms" "_law_rooms" (jJ zA) (jG zA) (jd zA) .none kV4 dc4 pm4 an4 cd4 ct4),sl4⟩) (c4:PySem.W.codeIn K cd4 "_law_rooms"=true) (k4:PySem.W.keepIn K (.ref f4)=true)
 (a5:PySem.W.nsIn K mainGlobals "_law_plan"=some (some (.ref f5))) (l5:K.lookup f5=some ⟨oc5,od5,.func (PySem.W.fnOf "_law_plan" "_law_plan" (jJ Jc) (jG Jc) (jd Jc) .none kV5 dc5 pm5 an5 cd5 ct5),sl5⟩) (c5:PySem.W.codeIn K cd5 "_law_plan"=true) (k5:PySem.W.keepIn K (.ref f5)=true)
 (a6:PySem.W.nsIn K mainGlobals "_law_totals"=some (some (.ref f6))) (l6:K.lookup f6=some ⟨oc6,od6,.func (PySem.W.fnOf "_law_totals" "_law_totals" (jJ qg) (jG qg) (jd qg) .none kV6 dc6 pm6 an6 cd6 ct6),sl6⟩) (c6:PySem.W.codeIn K cd6 "_law_totals"=true) (k6:PySem.W.keepIn K (.ref f6)=true)
 (a7:PySem.W.nsIn K mainGlobals "is_whole"=some (some (.ref f7))) (l7:K.lookup f7=some ⟨oc7,od7,.func (PySem.W.fnOf "is_whole" "is_whole" (jJ Jv) (jG Jv) (jd Jv) .none kV7 dc7 pm7 an7 cd7 ct7),sl7⟩) (c7:PySem.W.codeIn K cd7 "is_whole"=true) (k7:PySem.W.keepIn K (.ref f7)=true)
 (a8:PySem.W.nsIn K mainGlobals "is_ship"=some (some (.ref f8))) (l8:K.lookup f8=some ⟨oc8,od8,.func (PySem.W.fnOf "is_ship" "is_ship" (jJ Jd) (jG Jd) (jd Jd) .none kV8 dc8 pm8 an8 cd8 ct8),sl8⟩) (c8:PySem.W.codeIn K cd8 "is_ship"=true) (k8:PySem.W.keepIn K (.ref f8)=true)
 (a9:PySem.W.nsIn K mainGlobals "is_fleet"=some (some (.ref f9))) (l9:K.lookup f9=some ⟨oc9,od9,.func (PySem.W.fnOf "is_fleet" "is_fleet" (jJ zu) (jG zu) (jd zu) .none kV9 dc9 pm9 an9 cd9 ct9),sl9⟩) (c9:PySem.W.codeIn K cd9 "is_fleet"=true) (k9:PySem.W.keepIn K (.ref f9)=true)
 (a10:PySem.W.nsIn K mainGlobals "must_be_fleet"=some (some (.ref f10))) (l10:K.lookup f10=some ⟨oc10,od10,.func (PySem.W.fnOf "must_be_fleet" "must_be_fleet" (jJ qG) (jG qG) (jd qG) .none kV10 dc10 pm10 an10 cd10 ct10),sl10⟩) (c10:PySem.W.codeIn K cd10 "must_be_fleet"=true) (k10:PySem.W.keepIn K (.ref f10)=true)
 (a11:PySem.W.nsIn K mainGlobals "bound_in"=some (some (.ref f11))) (l11:K.lookup f11=some ⟨oc11,od11,.func (PySem.W.fnOf "bound_in" "bound_in" (jJ zo) (jG zo) (jd zo) .none kV11 dc11 pm11 an11 cd11 ct11),sl11⟩) (c11:PySem.W.codeIn K cd11 "bound_in"=true) (k11:PySem.W.keepIn K (.ref f11)=true)
 (a12:PySem.W.nsIn K mainGlobals "kept"=some (some (.ref f12))) (l12:K.lookup f12=some ⟨oc12,od12,.func (PySem.W.fnOf "kept" "kept" (jJ ZF) (jG ZF) (jd ZF) .none kV12 dc12 pm12 an12 cd12 ct12),sl12⟩) (c12:PySem.W.codeIn K cd12 "kept"=true) (k12:PySem.W.keepIn K (.ref f12)=true)
 (a13:PySem.W.nsIn K mainGlobals "joined"=some (some (.ref f13))) (l13:K.lookup f13=some ⟨oc13,od13,.func (PySem.W.fnOf "joined" "joined" (jJ Q2) (jG Q2) (jd Q2) .none kV13 dc13 pm13 an13 cd13 ct13),sl13⟩) (c13:PySem.W.codeIn K cd13 "joined"=true) (k13:PySem.W.keepIn K (.ref f13)=true)
 (a14:PySem.W.nsIn K mainGlobals "mover"=some (some (.ref f14))) (l14:K.lookup f14=some ⟨oc14,od14,.func (PySem.W.fnOf "mover" "mover" (jJ Z6) (jG Z6) (jd Z6) .none kV14 dc14 pm14 an14 cd14 ct14),sl14⟩) (c14:PySem.W.codeIn K cd14 "mover"=true) (k14:PySem.W.keepIn K (.ref f14)=true)
 (a15:PySem.W.nsIn K mainGlobals "reach"=some (some (.ref f15))) (l15:K.lookup f15=some ⟨oc15,od15,.func (PySem.W.fnOf "reach" "reach" (jJ Z7) (jG Z7) (jd Z7) .none kV15 dc15 pm15 an15 cd15 ct15),sl15⟩) (c15:PySem.W.codeIn K cd15 "reach"=true) (k15:PySem.W.keepIn K (.ref f15)=true)
 (a16:PySem.W.nsIn K mainGlobals "way_to"=some (some (.ref f16))) (l16:K.lookup f16=some ⟨oc16,od16,.func (PySem.W.fnOf "way_to" "way_to" (jJ QJ) (jG QJ) (jd QJ) .none kV16 dc16 pm16 an16 cd16 ct16),sl16⟩) (c16:PySem.W.codeIn K cd16 "way_to"=true) (k16:PySem.W.keepIn K (.ref f16)=true)
 (a17:PySem.W.nsIn K mainGlobals "behind"=some (some (.ref f17))) (l17:K.lookup f17=some ⟨oc17,od17,.func (PySem.W.fnOf "behind" "behind" (jJ JF) (jG JF) (jd JF) .none kV17 dc17 pm17 an17 cd17 ct17),sl17⟩) (c17:PySem.W.codeIn K cd17 "behind"=true) (k17:PySem.W.keepIn K (.ref f17)=true)
 (a18:PySem.W.nsIn K mainGlobals "put_in"=some (some (.ref f18))) (l18:K.lookup f18=some ⟨oc18,od18,.func (PySem.W.fnOf "put_in" "put_in" (jJ QQ) (jG QQ) (jd QQ) .none kV18 dc18 pm18 an18 cd18 ct18),sl18⟩) (c18:PySem.W.codeIn K cd18 "put_in"=true) (k18:PySem.W.keepIn K (.ref f18)=true)
 (a19:PySem.W.nsIn K mainGlobals "total"=some (some (.ref f19))) (l19:K.lookup f19=some ⟨oc19,od19,.func (PySem.W.fnOf "total" "total" (jJ Qw) (jG Qw) (jd Qw) .none kV19 dc19 pm19 an19 cd19 ct19),sl19⟩) (c19:PySem.W.codeIn K cd19 "total"=true) (k19:PySem.W.keepIn K (.ref f19)=true)
 (a20:PySem.W.nsIn K mainGlobals "most_along"=some (some (.ref f20))) (l20:K.lookup f20=some ⟨oc20,od20,.func (PySem.W.fnOf "most_along" "most_along" (jJ zC) (jG zC) (jd zC) .none kV20 dc20 pm20 an20 cd20 ct20),sl20⟩) (c20:PySem.W.codeIn K cd20 "most_along"=true) (k20:PySem.W.keepIn K (.ref f20)=true)
 (a21:PySem.W.nsIn K mainGlobals "filled"=some (some (.ref f21))) (l21:K.lookup f21=some ⟨oc21,od21,.func (PySem.W.fnOf "filled" "filled" (jJ qW) (jG qW) (jd qW) .none kV21 dc21 pm21 an21 cd21 ct21),sl21⟩) (c21:PySem.W.codeIn K cd21 "filled"=true) (k21:PySem.W.keepIn K (.ref f21)=true)
 (a22:PySem.W.nsIn K mainGlobals "no_cranes"=some (some (.ref f22))) (l22:K.lookup f22=some ⟨oc22,od22,.func (PySem.W.fnOf "no_cranes" "no_cranes" (jJ qU) (jG qU) (jd qU) .none kV22 dc22 pm22 an22 cd22 ct22),sl22⟩) (c22:PySem.W.codeIn K cd22 "no_cranes"=true) (k22:PySem.W.keepIn K (.ref f22)=true)
 (a23:PySem.W.nsIn K mainGlobals "evened_apart"=some (some (.ref f23))) (l23:K.lookup f23=some ⟨oc23,od23,.func (PySem.W.fnOf "evened_apart" "evened_apart" (jJ jL) (jG jL) (jd jL) .none kV23 dc23 pm23 an23 cd23 ct23),sl23⟩) (c23:PySem.W.codeIn K cd23 "evened_apart"=true) (k23:PySem.W.keepIn K (.ref f23)=true)
 (a24:PySem.W.nsIn K mainGlobals "evened"=some (some (.ref f24))) (l24:K.lookup f24=some ⟨oc24,od24,.func (PySem.W.fnOf "evened" "evened" (jJ zK) (jG zK) (jd zK) .none kV24 dc24 pm24 an24 cd24 ct24),sl24⟩) (c24:PySem.W.codeIn K cd24 "evened"=true) (k24:PySem.W.keepIn K (.ref f24)=true)
 (a25:PySem.W.nsIn K mainGlobals "needs_of"=some (some (.ref f25))) (l25:K.lookup f25=some ⟨oc25,od25,.func (PySem.W.fnOf "needs_of" "needs_of" (jJ zq) (jG zq) (jd zq) .none kV25 dc25 pm25 an25 cd25 ct25),sl25⟩) (c25:PySem.W.codeIn K cd25 "needs_of"=true) (k25:PySem.W.keepIn K (.ref f25)=true)
 (a26:PySem.W.nsIn K mainGlobals "bounds"=some (some (.ref f26))) (l26:K.lookup f26=some ⟨oc26,od26,.func (PySem.W.fnOf "bounds" "bounds" (jJ zJ) (jG zJ) (jd zJ) .none kV26 dc26 pm26 an26 cd26 ct26),sl26⟩) (c26:PySem.W.codeIn K cd26 "bounds"=true) (k26:PySem.W.keepIn K (.ref f26)=true)
 (a27:PySem.W.nsIn K mainGlobals "stretches"=some (some (.ref f27))) (l27:K.lookup f27=some ⟨oc27,od27,.func (PySem.W.fnOf "stretches" "stretches" (jJ zZ) (jG zZ) (jd zZ) .none kV27 dc27 pm27 an27 cd27 ct27),sl27⟩) (c27:PySem.W.codeIn K cd27 "stretches"=true) (k27:PySem.W.keepIn K (.ref f27)=true)
 (a28:PySem.W.nsIn K mainGlobals "length"=some (some (.ref f28))) (l28:K.lookup f28=some ⟨oc28,od28,.func (PySem.W.fnOf "length" "length" (jJ QW) (jG QW) (jd QW) .none kV28 dc28 pm28 an28 cd28 ct28),sl28⟩) (c28:PySem.W.codeIn K cd28 "length"=true) (k28:PySem.W.keepIn K (.ref f28)=true)
 (a29:PySem.W.nsIn K mainGlobals "room"=some (some (.ref f29))) (l29:K.lookup f29=some ⟨oc29,od29,.func (PySem.W.fnOf "room" "room" (jJ jbm) (jG jbm) (jd jbm) .none kV29 dc29 pm29 an29 cd29 ct29),sl29⟩) (c29:PySem.W.codeIn K cd29 "room"=true) (k29:PySem.W.keepIn K (.ref f29)=true)
 (a30:PySem.W.nsIn K mainGlobals "rooms_of"=some (some (.ref f30))) (l30:K.lookup f30=some ⟨oc30,od30,.func (PySem.W.fnOf "rooms_of" "rooms_of" (jJ qM) (jG qM) (jd qM) .none kV30 dc30 pm30 an30 cd30 ct30),sl30⟩) (c30:PySem.W.codeIn K cd30 "rooms_of"=true) (k30:PySem.W.keepIn K (.ref f30)=true)
 (a31:PySem.W.nsIn K mainGlobals "lengths_of"=some (some (.ref f31))) (l31:K.lookup f31=some ⟨oc31,od31,.func (PySem.W.fnOf "lengths_of" "lengths_of" (jJ qH) (jG qH) (jd qH) .none kV31 dc31 pm31 an31 cd31 ct31),sl31⟩) (c31:PySem.W.codeIn K cd31 "lengths_of"=true) (k31:PySem.W.keepIn K (.ref f31)=true)
 (a32:PySem.W.nsIn K mainGlobals "even"=some (some (.ref f32))) (l32:K.lookup f32=some ⟨oc32,od32,.func (PySem.W.fnOf "even" "even" (jJ jbD) (jG jbD) (jd jbD) .none kV32 dc32 pm32 an32 cd32 ct32),sl32⟩) (c32:PySem.W.codeIn K cd32 "even"=true) (k32:PySem.W.keepIn K (.ref f32)=true)
 (a33:PySem.W.nsIn K mainGlobals "loads_in"=some (some (.ref f33))) (l33:K.lookup f33=some ⟨oc33,od33,.func (PySem.W.fnOf "loads_in" "loads_in" (jJ Jt) (jG Jt) (jd Jt) .none kV33 dc33 pm33 an33 cd33 ct33),sl33⟩) (c33:PySem.W.codeIn K cd33 "loads_in"=true) (k33:PySem.W.keepIn K (.ref f33)=true)
 (a34:PySem.W.nsIn K mainGlobals "row_of"=some (some (.ref f34))) (l34:K.lookup f34=some ⟨oc34,od34,.func (PySem.W.fnOf "row_of" "row_of" (jJ QY) (jG QY) (jd QY) .none kV34 dc34 pm34 an34 cd34 ct34),sl34⟩) (c34:PySem.W.codeIn K cd34 "row_of"=true) (k34:PySem.W.keepIn K (.ref f34)=true)
 (a35:PySem.W.nsIn K mainGlobals "peak"=some (some (.ref f35))) (l35:K.lookup f35=some ⟨oc35,od35,.func (PySem.W.fnOf "peak" "peak" (jJ ZX) (jG ZX) (jd ZX) .none kV35 dc35 pm35 an35 cd35 ct35),sl35⟩) (c35:PySem.W.codeIn K cd35 "peak"=true) (k35:PySem.W.keepIn K (.ref f35)=true)
 (a36:PySem.W.nsIn K mainGlobals "law"=some (some (.ref f36))) (l36:K.lookup f36=some ⟨oc36,od36,.func (PySem.W.fnOf "law" "law" (jJ jbI) (jG jbI) (jd jbI) .none kV36 dc36 pm36 an36 cd36 ct36),sl36⟩) (c36:PySem.W.codeIn K cd36 "law"=true) (k36:PySem.W.keepIn K (.ref f36)=true)
 (cst0:PySem.W.nsIn K mainGlobals "NEED"=some (some (.int 2 t0)))
 (cst1:PySem.W.nsIn K mainGlobals "MOST"=some (some (.int 3 t1)))
 (cst2:PySem.W.nsIn K mainGlobals "END"=some (some (.int 1 t2)))
 (cst3:PySem.W.nsIn K mainGlobals "BEGIN"=some (some (.int 0 t3)))
 (cst4:PySem.W.nsIn K mainGlobals "OFF"=some (some (.int 1 t4)))
 (cst5:PySem.W.nsIn K mainGlobals "SHIP"=some (some (.int 0 t5)))
 (cst6:PySem.W.nsIn K mainGlobals "PART"=some (some (.int 1 t6)))
 (cst7:PySem.W.nsIn K mainGlobals "MANY"=some (some (.int 0 t7)))
 (cst8:PySem.W.nsIn K mainGlobals "MARKS"=some (some (.int 2 t8)))
 (cst9:PySem.W.nsIn K mainGlobals "TO"=some (some (.int 1 t9)))
 (cst10:PySem.W.nsIn K mainGlobals "FROM"=some (some (.int 0 t10)))
 (z0:PySem.W.nsIn K mainGlobals "len"=some none)
 (z1:PySem.W.nsIn K mainGlobals "min"=some none)
 (z2:PySem.W.nsIn K mainGlobals "range"=some none)
 (z3:PySem.W.nsIn K mainGlobals "sorted"=some none)
 (z4:PySem.W.nsIn K mainGlobals "sum"=some none)
 (z5:PySem.W.nsIn K mainGlobals "isinstance"=some none)
 (z6:PySem.W.nsIn K mainGlobals "bool"=some none)
 (z7:PySem.W.nsIn K mainGlobals "int"=some none)
 (z8:PySem.W.nsIn K mainGlobals "all"=some none)
 (z9:PySem.W.nsIn K mainGlobals "tuple"=some none)
 (z10:PySem.W.nsIn K mainGlobals "list"=some none)
 (z11:PySem.W.nsIn K mainGlobals "max"=some none)
 (z12:PySem.W.nsIn K mainGlobals "zip"=some none)
 (z13:PySem.W.nsIn K mainGlobals "enumerate"=some none)
 (z14:PySem.W.nsIn K mainGlobals "dict"=some none)
 (z15:PySem.W.nsIn K mainGlobals "reversed"=some none)
 (z16:PySem.W.nsIn K mainGlobals "set"=some none) :
 ∃fd:FuncData,(∀(s:Shared) (v:Value),BindsTo s fd ⟨[v],[]⟩ [("script",v)]) ∧ ∀base:Heap,K.In base → base.Ns mainGlobals mg → FnOk l.prog w K mg base JJ 40 fa fd ["script"] (jip K):=by
 have e:=hfa.symm.trans (Ys X G a36);have e':f36=fa:=by injection (Option.some.inj e) with z;exact z.symm
 subst e';have F0:=jR (st:=qP) l0 c0 k0;have b0:=F0.binds (ps:=["script","k"]) fun _ _ _ _ _ _=>ar2 fun _ _=>rfl;have F1:=jR (st:=zX) l1 c1 k1;have b1:=F1.binds (ps:=["one","two","kind"]) fun _ _ _ _ _ _=>ar3 fun _ _ _=>rfl;have F2:=jR (st:=zx) l2 c2 k2;have b2:=F2.binds (ps:=["script","start"]) fun _ _ _ _ _ _=>ar2 fun _ _=>rfl;have F3:=jR (st:=j3) l3 c3 k3;have b3:=F3.binds (ps:=["fleet"]) fun _ _ _ _ _ _=>ar1 fun _=>rfl;have F4:=jR (st:=zA) l4 c4 k4;have b4:=F4.binds (ps:=["ship","parts"]) fun _ _ _ _ _ _=>ar2 fun _ _=>rfl;have F5:=jR (st:=Jc) l5 c5 k5;have b5:=F5.binds (ps:=["fleet","cells"]) fun _ _ _ _ _ _=>ar2 fun _ _=>rfl;have F6:=jR (st:=qg) l6 c6 k6;have b6:=F6.binds (ps:=["parts","plan"]) fun _ _ _ _ _ _=>ar2 fun _ _=>rfl;have F7:=jR (st:=Jv) l7 c7 k7;have b7:=F7.binds (ps:=["thing"]) fun _ _ _ _ _ _=>ar1 fun _=>rfl;have F8:=jR (st:=Jd) l8 c8 k8;have b8:=F8.binds (ps:=["thing"]) fun _ _ _ _ _ _=>ar1 fun _=>rfl;have F9:=jR (st:=zu) l9 c9 k9;have b9:=F9.binds (ps:=["thing"]) fun _ _ _ _ _ _=>ar1 fun _=>rfl;have F10:=jR (st:=qG) l10 c10 k10;have b10:=F10.binds (ps:=["thing"]) fun _ _ _ _ _ _=>ar1 fun _=>rfl;have F11:=jR (st:=zo) l11 c11 k11;have b11:=F11.binds (ps:=["need","rooms","marks"]) fun _ _ _ _ _ _=>ar3 fun _ _ _=>rfl;have F12:=jR (st:=ZF) l12 c12 k12;have b12:=F12.binds (ps:=["numbers","marks","mark"]) fun _ _ _ _ _ _=>ar3 fun _ _ _=>rfl;have F13:=jR (st:=Q2) l13 c13 k13;have b13:=F13.binds (ps:=["marked","others","marks"]) fun _ _ _ _ _ _=>ar3 fun _ _ _=>rfl;have F14:=jR (st:=Z6) l14 c14 k14;have b14:=F14.binds (ps:=["rooms","part","off","on"]) fun _ _ _ _ _ _=>ar4 fun _ _ _ _=>rfl;have F15:=jR (st:=Z7) l15 c15 k15;have b15:=F15.binds (ps:=["rooms","part","begun"]) fun _ _ _ _ _ _=>ar3 fun _ _ _=>rfl;have F16:=jR (st:=QJ) l16 c16 k16;have b16:=F16.binds (ps:=["moves","end"]) fun _ _ _ _ _ _=>ar2 fun _ _=>rfl;have F17:=jR (st:=JF) l17 c17 k17;have b17:=F17.binds (ps:=["part","way","many"]) fun _ _ _ _ _ _=>ar3 fun _ _ _=>rfl;have F18:=jR (st:=QQ) l18 c18 k18;have b18:=F18.binds (ps:=["needs","rooms","part"]) fun _ _ _ _ _ _=>ar3 fun _ _ _=>rfl;have F19:=jR (st:=Qw) l19 c19 k19;have b19:=F19.binds (ps:=["plan","place"]) fun _ _ _ _ _ _=>ar2 fun _ _=>rfl;have F20:=jR (st:=zC) l20 c20 k20;have b20:=F20.binds (ps:=["needs","rooms","part","way"]) fun _ _ _ _ _ _=>ar4 fun _ _ _ _=>rfl;have F21:=jR (st:=qW) l21 c21 k21;have b21:=F21.binds (ps:=["needs","rooms","tops","part"]) fun _ _ _ _ _ _=>ar4 fun _ _ _ _=>rfl;have F22:=jR (st:=qU) l22 c22 k22;have b22:=F22.binds (ps:=["rooms"]) fun _ _ _ _ _ _=>ar1 fun _=>rfl;have F23:=jR (st:=jL) l23 c23 k23;have b23:=F23.binds (ps:=["needs","rooms","hours","marks"]) fun _ _ _ _ _ _=>ar4 fun _ _ _ _=>rfl;have F24:=jR (st:=zK) l24 c24 k24;have b24:=F24.binds (ps:=["needs","rooms","hours"]) fun _ _ _ _ _ _=>ar3 fun _ _ _=>rfl;have F25:=jR (st:=zq) l25 c25 k25;have b25:=F25.binds (ps:=["fleet"]) fun _ _ _ _ _ _=>ar1 fun _=>rfl;have F26:=jR (st:=zJ) l26 c26 k26;have b26:=F26.binds (ps:=["fleet"]) fun _ _ _ _ _ _=>ar1 fun _=>rfl;have F27:=jR (st:=zZ) l27 c27 k27;have b27:=F27.binds (ps:=["fleet"]) fun _ _ _ _ _ _=>ar1 fun _=>rfl;have F28:=jR (st:=QW) l28 c28 k28;have b28:=F28.binds (ps:=["stretch"]) fun _ _ _ _ _ _=>ar1 fun _=>rfl;have F29:=jR (st:=jbm) l29 c29 k29;have b29:=F29.binds (ps:=["ship","stretch"]) fun _ _ _ _ _ _=>ar2 fun _ _=>rfl;have F30:=jR (st:=qM) l30 c30 k30;have b30:=F30.binds (ps:=["fleet"]) fun _ _ _ _ _ _=>ar1 fun _=>rfl;have F31:=jR (st:=qH) l31 c31 k31;have b31:=F31.binds (ps:=["fleet"]) fun _ _ _ _ _ _=>ar1 fun _=>rfl;have F32:=jR (st:=jbD) l32 c32 k32;have b32:=F32.binds (ps:=["fleet"]) fun _ _ _ _ _ _=>ar1 fun _=>rfl;have F33:=jR (st:=Jt) l33 c33 k33;have b33:=F33.binds (ps:=["many","hours"]) fun _ _ _ _ _ _=>ar2 fun _ _=>rfl;have F34:=jR (st:=QY) l34 c34 k34;have b34:=F34.binds (ps:=["fleet","plan"]) fun _ _ _ _ _ _=>ar2 fun _ _=>rfl;have F35:=jR (st:=ZX) l35 c35 k35;have b35:=F35.binds (ps:=["fleet"]) fun _ _ _ _ _ _=>ar1 fun _=>rfl;have F36:=jR (st:=jbI) l36 c36 k36;have b36:=F36.binds (ps:=["script"]) fun _ _ _ _ _ _=>ar1 fun _=>rfl;have T:Txt K mg ⟨f0,_,f1,_,f2,_,f3,_,f4,_,f5,_,f6,_,f7,_,f8,_,f9,_,f10,_,f11,_,f12,_,f13,_,f14,_,f15,_,f16,_,f17,_,f18,_,f19,_,f20,_,f21,_,f22,_,f23,_,f24,_,f25,_,f26,_,f27,_,f28,_,f29,_,f30,_,f31,_,f32,_,f33,_,f34,_,f35,_,f36,_,t0,t1,t2,t3,t4,t5,t6,t7,t8,t9,t10⟩:=⟨F0,b0,Ys X G a0,F1,b1,Ys X G a1,F2,b2,Ys X G a2,F3,b3,Ys X G a3,F4,b4,Ys X G a4,F5,b5,Ys X G a5,F6,b6,Ys X G a6,F7,b7,Ys X G a7,F8,b8,Ys X G a8,F9,b9,Ys X G a9,F10,b10,Ys X G a10,F11,b11,Ys X G a11,F12,b12,Ys X G a12,F13,b13,Ys X G a13,F14,b14,Ys X G a14,F15,b15,Ys X G a15,F16,b16,Ys X G a16,F17,b17,Ys X G a17,F18,b18,Ys X G a18,F19,b19,Ys X G a19,F20,b20,Ys X G a20,F21,b21,Ys X G a21,F22,b22,Ys X G a22,F23,b23,Ys X G a23,F24,b24,Ys X G a24,F25,b25,Ys X G a25,F26,b26,Ys X G a26,F27,b27,Ys X G a27,F28,b28,Ys X G a28,F29,b29,Ys X G a29,F30,b30,Ys X G a30,F31,b31,Ys X G a31,F32,b32,Ys X G a32,F33,b33,Ys X G a33,F34,b34,Ys X G a34,F35,b35,Ys X G a35,F36,b36,Ys X G a36,Ys X G cst0,Ys X G cst1,Ys X G cst2,Ys X G cst3,Ys X G cst4,Ys X G cst5,Ys X G cst6,Ys X G cst7,Ys X G cst8,Ys X G cst9,Ys X G cst10,YN X G z0,YN X G z1,YN X G z2,YN X G z3,YN X G z4,YN X G z5,YN X G z6,YN X G z7,YN X G z8,YN X G z9,YN X G z10,YN X G z11,YN X G z12,YN X G z13,YN X G z14,YN X G z15,YN X G z16⟩;exact ⟨_,fun s v=>.of_eq rfl,fun base _ _=>jnn T⟩
theorem jtj {l:PySem.W.OpenLaw} {q:Program} {loose:List Str} {XP:(Str->Option Value)->Heap->Prop} {YP:World->Heap->Prop} {d:DefRec} {K:Params->PySem.W.Frag} (hn:l.most=some 63) (hdf:d.params.defaults=[])
 (hY:∀(w:World) (h:Heap),YP w h->(K w.params).In h)
 (F:∀(w:World) (mg:Str->Option Value) (fa:Addr) (h:Heap),(K w.params).In h->h.Ns mainGlobals mg->mg d.name=some (.ref fa)->
  ∃fd:FuncData,(∀(s:Shared) (u:Value),BindsTo s fd ⟨[u],[]⟩ [("script",u)]) ∧ ∀base:Heap,(K w.params).In base → base.Ns mainGlobals mg → FnOk l.prog w (K w.params) mg base JJ 40 fa fd ["script"] (jip (K w.params))) :
 PySem.W.WalkO q loose XP YP l.row.toRowW d [] (fun f vs=>PySem.call f vs):=
 L2.jnP (n:=63) (k:=40) (x := "script") (CX:=fun _=>JJ) (sp:=fun w=>jip (K w.params)) hn (by decide) hdf ⟨rfl,by decide,by decide⟩ hY F (fun _ _ a ns hl _ hS=>⟨a,ns,rfl,hS,hl,fun _=>rfl⟩) fun _ _ _ _ _ z=>z
end Q
end
open PySem PySem.W PyProof.Rows
set_option maxRecDepth 100000 in
set_option maxHeartbeats 0 in
theorem PySem.Challenge.cw_evenquay_k62_whole_no_plan_stays_below_holds : PySem.Challenge.rw_evenquay_k62_whole_no_plan_stays_below.Holds := by
 w_on;o_law;k_head;(case hw=>w_witness2)
 k_fill
 refine Q.jtj (l:=PySem.Challenge.rw_evenquay_k62_whole_no_plan_stays_below) rfl rfl (fun w h Y=>PySem.W.kIn_of Y) ?F
 case F=>
  intro w mg fa h KX G hmg
  refine' Q.jp8 KX G hmg ?a0 ?l0 ?c0 ?k0 ?a1 ?l1 ?c1 ?k1 ?a2 ?l2 ?c2 ?k2 ?a3 ?l3 ?c3 ?k3 ?a4 ?l4 ?c4 ?k4 ?a5 ?l5 ?c5 ?k5 ?a6 ?l6 ?c6 ?k6 ?a7 ?l7 ?c7 ?k7 ?a8 ?l8 ?c8 ?k8 ?a9 ?l9 ?c9 ?k9 ?a10 ?l10 ?c10 ?k10 ?a11 ?l11 ?c11 ?k11 ?a12 ?l12 ?c12 ?k12 ?a13 ?l13 ?c13 ?k13 ?a14 ?l14 ?c14 ?k14 ?a15 ?l15 ?c15 ?k15 ?a16 ?l16 ?c16 ?k16 ?a17 ?l17 ?c17 ?k17 ?a18 ?l18 ?c18 ?k18 ?a19 ?l19 ?c19 ?k19 ?a20 ?l20 ?c20 ?k20 ?a21 ?l21 ?c21 ?k21 ?a22 ?l22 ?c22 ?k22 ?a23 ?l23 ?c23 ?k23 ?a24 ?l24 ?c24 ?k24 ?a25 ?l25 ?c25 ?k25 ?a26 ?l26 ?c26 ?k26 ?a27 ?l27 ?c27 ?k27 ?a28 ?l28 ?c28 ?k28 ?a29 ?l29 ?c29 ?k29 ?a30 ?l30 ?c30 ?k30 ?a31 ?l31 ?c31 ?k31 ?a32 ?l32 ?c32 ?k32 ?a33 ?l33 ?c33 ?k33 ?a34 ?l34 ?c34 ?k34 ?a35 ?l35 ?c35 ?k35 ?a36 ?l36 ?c36 ?k36 ?cst0 ?cst1 ?cst2 ?cst3 ?cst4 ?cst5 ?cst6 ?cst7 ?cst8 ?cst9 ?cst10 ?z0 ?z1 ?z2 ?z3 ?z4 ?z5 ?z6 ?z7 ?z8 ?z9 ?z10 ?z11 ?z12 ?z13 ?z14 ?z15 ?z16
  any_goals (show _=_;k_is)
