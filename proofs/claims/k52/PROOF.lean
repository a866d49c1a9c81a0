import PyProof.Rows.All
import Wide.All
import OpenK.AllK
import Wide.FinOn
import Lean
import PyProof.EqAt
import PyProof.EqKinds
import PyProof.TupleCall
import PySem.SetOps
import PyProof.ZipIter
import PyProof.CollectWalk
import PyProof.Rows.SetFrom
import PyProof.Rows.SortShell
import KE.KRevIter
import PyProof.MaxThree
import KE.KDictList
import PyProof.Rows.Chain
import PyProof.Rows.CountFlat
import KE.KSortAsk
import KE.KItemsList
import KE.KSortTup
import PyProof.Rows.SortRev
import PyProof.Rows.SortWalk
import PyProof.Rows.CallKwBuiltin
import PyProof.WalkInts
import KE.KMinBuiltin
import PySem.Challenge.RW_evenquay_k52_whole_a_chain_evens
-- CHANGE: your row's module here, as the last of these rows
set_option compiler.extract_closed false
def PySem.W.Fast.tw2358938807803682144:=()
def PySem.W.Fast.tw8008986164332404824:=()
def PySem.W.Fast.tw17960513942980041801:=()
def PySem.W.Fast.tw7470421200886250125:=()
def PySem.W.Fast.tw6937465208272805262:=()
def PySem.W.Fast.tw7390049427201146830:=()
def PySem.W.Fast.tw3587011190917600236:=()
def PySem.W.Fast.tw822595883912004665:=()
def PySem.W.Fast.tw9305562214604875151:=()
def PySem.W.Fast.tw6727642423602297707:=()
def PySem.W.Fast.tw8970992929015240222:=()
def PySem.W.Fast.tw13784771591170543567:=()
def PySem.W.Fast.tw10964741902674162388:=()
def PySem.W.Fast.tw10828921045903368883:=()
def PySem.W.Fast.tw11124632091993285837:=()
def PySem.W.Fast.tw1493764150027004228:=()
def PySem.W.Fast.tw12855377713655033203:=()
def PySem.W.Fast.tw506839126830826918:=()
namespace QA
theorem a0 (h:True:=by first | exact .inl rfl | exact .inr rfl | assumption):True:=h
theorem a1 (h:True:=by decide):True:=h
theorem a2 (h:True:=by first | exact nobehind _ (by decide) (by decide) | rfl):True:=h
theorem a3 (h:True:=by intro _;rfl):True:=h
theorem a4 (h:True:=by rfl):True:=h
theorem a5 (h:True:=by intros;rfl):True:=h
theorem a6 (h:True:=by with_unfolding_all rfl):True:=h
theorem a7 (h:True:=by first | exact fun _=>Or.inl rfl | exact fun _=>Or.inr (Or.inl rfl) | exact fun _=>Or.inr (Or.inr rfl)):True:=h
theorem a8 (h:True:=by exact fun _ _=>rfl):True:=h
theorem a9 (h:True:=by first | exact nomark _ | rfl):True:=h
theorem a10 (h:True:=by intro _ _;rfl):True:=h
theorem a11 (h:True:=by exact fun _=>PassesOwn.never):True:=h
theorem a12 (h:True:=by first | exact fun _ _=>rfl | intros;rfl):True:=h
end QA
set_option genInjectivity false
local macro_rules | `(tactic| omega)=>`(tactic| first | lia | omega (config:={}))
set_option Elab.async false
set_option linter.all false
set_option maxRecDepth 100000
noncomputable section
section
open PySem PySem.Spec PySem.W PySem.Calls PyProof.Rows PyProof.V
abbrev Ya:=@List.getElem?_eq_getElem
abbrev Yb:=@wpAny_bind
abbrev Yc:=@List.length_map
abbrev Yd:=@Option.bind_some
abbrev Ye:=@List.getD_eq_getElem?_getD
abbrev Yf:=@List.mem_cons_self
abbrev Yg:=@List.getElem?_cons_zero
abbrev Yh:=@List.getElem?_eq_some_iff
abbrev Yi:=@Option.map_some
abbrev Yj:=@List.mem_cons_of_mem
abbrev Yk:=@wpAny_pure
abbrev Yl:=@Heap.get?_push_of_some
abbrev Ym:=@Nat.lt_of_lt_of_le
abbrev Yn:=@List.getElem?_cons_succ
abbrev Yo:=@Bool.false_ne_true
abbrev Yp:=@Int.toNat_natCast
abbrev Yq:=@List.mem_cons
abbrev Ys:=@Nat.le_refl
abbrev Yt:=@Nat.ne_of_lt
abbrev Yu:=@PySem.W.mg_of
abbrev Yv:=@List.set_cons_succ
abbrev Yw:=@Heap.lt_size
abbrev Yx:=@Heap.get?_push_size
abbrev Yy:=@List.length_cons
abbrev Yz:=@List.set_cons_zero
abbrev YA:=@List.pairwise_cons
abbrev YB:=@List.getElem?_append_left
abbrev YC:=@List.getElem?_append_right
abbrev YD:=@List.size_toArray
abbrev YE:=@List.mem_of_getElem?
abbrev YF:=@List.getElem?_eq_none
abbrev YG:=@PySem.boot_len
abbrev YH:=@Array.getElem?_eq_getElem
abbrev YI:=@List.mem_append_right
abbrev YJ:=@List.not_mem_nil
abbrev YK:=@PySem.W.mg_none_of
abbrev YL:=@List.map_map
abbrev YM:=@Int.mul_le_mul_of_nonneg_right
abbrev YN:=@List.mem_singleton
abbrev YO:=@List.map_append
abbrev YQ:=@List.getElem?_set_ne
abbrev YR:=@List.lookup_cons
abbrev YS:=@List.length_range
abbrev YT:=@Nat.lt_or_ge
abbrev YU:=@List.length_append
abbrev YV:=@List.getElem?_eq_none_iff
abbrev YW:=@Heap.get?_update_self
abbrev YX:=@Bool.false_eq_true
abbrev YY:=@PyProof.Rows.callWith_type1
abbrev YZ:=@List.length_nil
abbrev Y0:=@List.getElem?_range
abbrev Y1:=@List.getElem?_set_self
abbrev Y2:=@Nat.le_trans
abbrev Y3:=@List.mem_map
abbrev Y4:=@Int.le_of_lt
abbrev Y5:=@Nat.lt_irrefl
abbrev Y6:=@decide_eq_false
abbrev Y7:=@List.mem_append
abbrev Y8:=@decide_eq_true
abbrev Y9:=@List.mem_append_left
abbrev ye:=@List.nodup_cons
abbrev yf:=@List.getElem_of_mem
abbrev yg:=@List.filter_cons
abbrev yh:=@Heap.size_push
abbrev yi:=@Bool.and_eq_true
abbrev yj:=@wpAny_setState_of
abbrev yn:=@wpAny_holding
abbrev yo:=@if_true
abbrev yp:=@Nat.ne_of_gt
abbrev yq:=@Int.emod_lt_of_pos
abbrev yr:=@wpAny_mono
abbrev yt:=@Array.getElem?_eq_none
abbrev yu:=@PySem.W.kia_one
abbrev yv:=@List.getElem?_zip_eq_some
abbrev yw:=@List.replicate_succ
abbrev yx:=@Array.length_toList
abbrev yy:=@if_false
abbrev yz:=@Int.mul_nonneg
abbrev yA:=@wpAny_setField_rec
abbrev yB:=@wpAny_call_entry
abbrev yC:=@Nat.le_add_right
abbrev yD:=@List.map_nil
abbrev yE:=@wpAny_updateSeq
abbrev yF:=@Int.emod_nonneg
abbrev yG:=@Array.getElem?_toList
abbrev yH:=@Nat.zero_le
abbrev yI:=@Around.under_plainId
abbrev yJ:=@PyProof.Rows.F.plain_set_update_loop
abbrev yK:=@Nat.lt_trans
abbrev yL:=@Nat.le_of_lt
abbrev yM:=@List.mem_range
abbrev yN:=@wpAny_truthy_bool
abbrev yO:=@Nat.lt_succ_of_lt
abbrev yP:=@wpAny_specialOf
abbrev yQ:=@PySem.F.slot_enumerate_iter
abbrev yR:=@List.replicate_zero
abbrev yS:=@List.length_set
abbrev yT:=@Nat.lt_succ_self
abbrev yU:=@List.cons_append
abbrev yV:=@plainId_quiet
abbrev yW:=@builtinLookup_eq_fast
abbrev yX:=@PySem.F.plain_extend_loop
abbrev yY:=@wpAny_passesOwn
abbrev yZ:=@wpAny_ite_split
abbrev Ka:=@of_decide_eq_true
abbrev Kc:=@codeAny_builtin
abbrev Kd:=@List.append_nil
abbrev Ke:=@List.append_assoc
abbrev Kf:=@wpAny_callSpecial?_slot
abbrev Kg:=@PySem.mem_of_lookup
abbrev Kh:=@List.map_congr_left
abbrev Ki:=@List.filterMap_cons
abbrev Kj:=@boot_list
abbrev Kk:=@SeqAt.EqAt.of_refs
abbrev Kl:=@Nat.lt_of_le_of_lt
abbrev Km:=@List.zip_cons_cons
abbrev Kn:=@decide_false
abbrev Ko:=@PySem.F.slot_dict_get
abbrev Kp:=@Nat.zero_add
abbrev Kq:=@List.nil_append
abbrev Kr:=@List.find?_cons
abbrev Ks:=@Array.getD_eq_getD_getElem?
abbrev Kt:=@wpAny_newObj_type
abbrev Ku:=@or_false
abbrev Kv:=@List.getElem?_nil
abbrev Kw:=@List.ext_getElem?
abbrev Kx:=@List.all_cons
abbrev Ky:=@wpAny_seqItems
abbrev Kz:=@PyProof.Rows.F.entry_set_update_loop
abbrev KA:=@List.pairwise_iff_getElem
abbrev KB:=@List.drop_eq_getElem_cons
abbrev KC:=@List.getElem_mem
abbrev KD:=@beq_eq_false_iff_ne
abbrev KF:=@Int.one_mul
abbrev KG:=@Int.add_mul
abbrev KH:=@Array.getElem?_push
abbrev KI:=@Nat.sub_self
abbrev KJ:=@List.map_set
abbrev KL:=@typeLookup_type
abbrev KM:=@tupleKind_room_in1
abbrev KN:=@PySem.F.args_dict_get_2
abbrev KO:=@List.of_mem_zip
abbrev KP:=@List.any_cons
abbrev KQ:=@Calls.spliced_cons
abbrev KR:=@wpAny_nextOf_list_item
abbrev KS:=@PySem.F.entry_dict_get
abbrev KU:=@List.range_succ_eq_map
abbrev KW:=@List.drop_eq_nil_of_le
abbrev KY:=@decide_true
abbrev KZ:=@List.getElem?_set
abbrev K0:=@List.flatten_cons
abbrev K1:=@Calls.spliced_nil
abbrev K2:=@Int.lt_trans
abbrev K3:=@wpAny_isInstance
abbrev K4:=@wpAny_askSetting
abbrev K5:=@List.length_take
abbrev K6:=@wpAny_field
abbrev K7:=@wpAny_execs_nil
abbrev K8:=@pushCells_keeps
abbrev K9:=@Nat.not_lt_zero
abbrev ka:=@Nat.le_succ
abbrev kb:=@List.mem_map_of_mem
abbrev kc:=@List.length_zip
abbrev kd:=@List.length_reverse
abbrev ke:=@Int.le_refl
abbrev kh:=@F.slot_zip_next
abbrev ki:=@F.plain_extend_loop
abbrev kj:=@Bool.eq_iff_iff
abbrev km:=@codeAny_mono
abbrev kn:=@Int.add_zero
end
set_option hygiene false
local macro_rules | `(‹"a"›)=>`(fun _=>Or.inl rfl)
local macro_rules | `(‹"b"›)=>`(fun _=>hr.mono (by decide))
local macro_rules | `(‹"c"›)=>`(jn (jn rfl rfl (j9 (by decide) (by decide))) rfl (jK (by decide)))
local macro_rules | `(‹"d"›)=>`(.lst (fl.map ji))
local macro_rules | `(‹"e"›)=>`(.lst ((qL P (jg fl).length).map D.int))
local macro_rules | `(‹"f"›)=>`(jE 10 (jl jM (jN (zH (jc (eC (.int 0)) (jc (jl jM (ja 5) (ja 8)) (jc (jl zy (jl za (jl jM (ja 5) (ja 8)) (jl qu (jl zy (ja 9) (eC (.int 4))) (eC (.int 9)))) (eC (.int 8))) (jc (jl qu (jl zy (ja 9) (eC (.int 4))) (jl qp (jl jM (ja 5) (ja 8)) (eC (.int 1)))) jj)))))) (jl qu (ja 9) (eC (.int 4)))))
local macro_rules | `(‹"g"›)=>`(X.blk (Lc++F) scope C s H fp)
local macro_rules | `(‹"h"›)=>`(model X.prog X.w)
local macro_rules | `(‹"i"›)=>`(.lst ((jg fl).map ju))
local macro_rules | `(‹"j"›)=>`(.lst (P.map jm))
local macro_rules | `(‹"k"›)=>`(Nat×Option Nat×Nat)
local macro_rules | `(‹"l"›)=>`(fun _=>some true)
local macro_rules | `(‹"m"›)=>`(fun _=>Or.inr rfl)
local macro_rules | `(‹"n"›)=>`(.lst (cells.map D.int))
local macro_rules | `(‹"o"›)=>`((qL P (jg fl).length).zip (qJ fl))
local macro_rules | `(‹"p"›)=>`(.ListComp elt [⟨tg,iter,ifs,0⟩] scope pos)
local macro_rules | `(‹"q"›)=>`(x == ("__debug__":Str))
local macro_rules | `(‹"r"›)=>`(.lst ((j1 fl).map jm))
local macro_rules | `(‹"s"›)=>`(eg (zg tw (fun _=>rfl) (fun _=>T.tw) YG (jr (jb 0) jA)))
local macro_rules | `(‹"t"›)=>`(.ListComp e [⟨tg,iter,ifs,0⟩] scope pos)
local macro_rules | `(‹"u"›)=>`([.sh (ji s),.sh (.lst (S.map ju)),.sh (.lst (r.map D.int))])
local macro_rules | `(‹"v"›)=>`(zG 5 (QP (jc (jl za (ja 7) (ja 3)) (jc (jl za (jl qp (ja 7) (eC (.int 2))) (ja 3)) (jc (jh jbP (jc (ja 8) jj)) (jc (jq 4) jj))))))
local macro_rules | `(‹"w"›)=>`(eg (zg tw (fun _=>rfl) (fun _=>T.tw) YG (jr (jb 1) jA)))
local macro_rules | `(‹"x"›)=>`(fun _=>show List.Nodup (["begin","end","need","most"]:List Str) from by decide +kernel)
local macro_rules | `(‹"y"›)=>`(fun _=>show List.Nodup (["ship"]:List Str) from by decide +kernel)
local macro_rules | `(‹"z"›)=>`(k == NameKind.free && env.scope.kind == .function && env.kindOf n == some .cell)
local macro_rules | `(‹"A"›)=>`(.lst (Mo.map D.int))
local macro_rules | `(‹"B"›)=>`((List.range (n+1)).map fun _=>(0:Int))
local macro_rules | `(‹"C"›)=>`(.lst (tq.map jm))
local macro_rules | `(‹"D"›)=>`(fun _=>show List.Nodup (["many","length"]:List Str) from by decide +kernel)
local macro_rules | `(‹"E"›)=>`(.Call (.Name x p) (e::es) [] pos)
local macro_rules | `(‹"F"›)=>`(jE 11 (jl qu (jl qp (ja 8) (jl jM (ja 1) (jl qu (ja 4) (jh qj (jc (ja 1) jj))))) (jh qj (jc (ja 2) jj))))
local macro_rules | `(‹"G"›)=>`(jE 9 (jl jM (ja 1) (jl qu (jl qp (jl za (ja 4) (jh qj (jc (ja 2) jj))) (ja 8)) (jh qj (jc (ja 1) jj)))))
local macro_rules | `(‹"H"›)=>`(eg (zg tw (fun _=>rfl) (fun _=>T.tw) YG (jr (jb 2) jA)))
local macro_rules | `(‹"I"›)=>`(qe I q (by simp))
local macro_rules | `(‹"J"›)=>`(pushCells (G.push { cls:=.type "dict",data:=.dict #[] }) scope.names)
local macro_rules | `(‹"K"›)=>`(bOr (qw (jl dNe (jl jM (ja 5) (jcL (eC (.int 1)))) (ja 9))) (qw (jl (dIn false) (ja 10) (ja 5))))
local macro_rules | `(‹"L"›)=>`(bOr (J7 (qw (QN "int" (ja 7)))) (bOr (qw (QN "bool" (ja 7))) (qw (jl dLt (ja 7) (eC (.int 0))))))
local macro_rules | `(‹"M"›)=>`(zx (fun _=>rfl) (fun _=>T.tS) (jr (eg (zg tw (fun _=>rfl) (fun _=>T.tw) YG (jr (jb 3) jA))) jA))
local macro_rules | `(‹"N"›)=>`(X.fn x=true\/X.env.scope.names.lookup x=some .local)
local macro_rules | `(‹"O"›)=>`(.lst (p.map jP))
local macro_rules | `(‹"P"›)=>`((List.range (min i1.toArray.size i2.toArray.size)).all e && i1.toArray.size == i2.toArray.size)
local macro_rules | `(‹"Q"›)=>`([.sh (.int c),.sh (.int (n:Int)),.sh (.int L),.sh (.int w),.sh (.int M),.ow ((Zg n L w M (j+1)).map ji),.ow ((QZ n L w (j+1)).map jm),.sh (.int (j:Int)),.sh (jm (stR n L w j))])
local macro_rules | `(‹"R"›)=>`(jn rfl rfl (jK (by decide)))
local macro_rules | `(‹"S"›)=>`(jE 12 (jh ZL (jc (ja 6) (jc (jl qI (jl jM (ja 5) (ja 11)) (jl jM (ja 7) (ja 11))) jj))))
local macro_rules | `(‹"T"›)=>`(jE 3 (jl za (jl qI (jl qu (jl za (ja 0) (eC (.int 1103515245))) (eC (.int 2147483647))) (jl QM (eC (.int 10)) (eC (.int 9)))) (jl QM (eC (.int 10)) (eC (.int 5)))))
local macro_rules | `(‹"U"›)=>`(bOr (qw (jl dLt (jl jM (jl jM (ja 2) (ja 8)) (ja 9)) (eC (.int 1)))) (qw (jl dGe (jl jM (jl jM (ja 2) (ja 8)) (ja 10)) (jl jM (jl jM (ja 4) (ja 8)) (ja 10)))))
local macro_rules | `(‹"V"›)=>`(jh QQ (jc (jq 0) (jc (jq 1) (jc (jq 6) (jc (jq 7) jj)))))
local macro_rules | `(‹"W"›)=>`(s.heap.push { cls:=.type "range",data:=.fields #[.int lo t,.int hi u,.int 1 v] })
local macro_rules | `(‹"X"›)=>`(.lst (tm.map jm))
local macro_rules | `(‹"Y"›)=>`(M.blk (Lc++Fn) scope)
local macro_rules | `(‹"Z"›)=>`(s.heap.push { cls:=.type "set",dict:=none,data:=.set #[] 0 (.fresh 0 0 led) })
local macro_rules | `(‹"0"›)=>`(qw (jl dGe (jl qI (jl jM (ja 1) (ja 2)) (jl jM (ja 3) (ja 0))) (eC (.int 2))))
local macro_rules | `(‹"1"›)=>`(Zr (by rw [M.hN j];exact hN) (hv j) hd hcd)
local macro_rules | `(‹"2"›)=>`([.sh (.int c),.sh (.int (n:Int)),.sh (.int L),.sh (.int w),.sh (.int M),.ow ((Zg n L w M j).map ji),.ow ((QZ n L w j).map jm),.sh (.int (j:Int)),z8])
local macro_rules | `(‹"3"›)=>`(.lst ((qJ fl).map D.int))
local macro_rules | `(‹"4"›)=>`(bOr (qw (jl dGe (ja 8) (jh qj (jc (ja 0) jj)))) (bOr (qw (jl dGe (ja 9) (jh qj (jc (ja 1) jj)))) (qw (jl dGe (ja 10) (jh qj (jc (ja 1) jj))))))
local macro_rules | `(‹"5"›)=>`(jn (jn (jn rfl rfl (jcY hj)) rfl zR) (jn (jn rfl rfl (jcY hj)) rfl JI) jV)
local macro_rules | `(‹"6"›)=>`(envOfC qual scope s.heap.objs.size f cd)
local macro_rules | `(‹"7"›)=>`(jat (qw (jl dGt (jh qj (jc (ja 3) jj)) (eC (.int 1)))) (qw (jl dEq (jl qu (jl zy (ja 2) (eC (.int 24))) (eC (.int 4))) (eC (.int 1)))))
local macro_rules | `(‹"8"›)=>`(PySem.W.fnOf x qual (jJ st) (jH st) (jd st) .none kV doc pm an cdv ct)
local macro_rules | `(‹"9"›)=>`([.sh (.int c),.sh (.int (n:Int)),.sh (.int L),.sh (.int w),.sh (.int M),.ow ((Zg n L w M n).map ji),.ow ((QZ n L w n).map jm),z7,z8])
local macro_rules | `(‹"aa"›)=>`(zG 7 (jh jbH (jc (ja 6) (jc (jl jM (ja 5) (ja 8)) (jc (ja 10) jj)))))
local macro_rules | `(‹"ab"›)=>`(s.heap.push { cls:=.type "list",data:=.seq ([]:List Value).toArray })
local macro_rules | `(‹"ac"›)=>`(ha tf s σ H _ I h)
local macro_rules | `(‹"ad"›)=>`(.lst (L.map D.int))
local macro_rules | `(‹"ae"›)=>`(intKind prog w)
local macro_rules | `(‹"af"›)=>`([.sh (.dic (kI ks) ds),.sh (.int s0),.ow (suf.reverse.map jP),.sh d])
local macro_rules | `(‹"ag"›)=>`(jl jM (ja 0) (eC (.int 0)))
local macro_rules | `(‹"ah"›)=>`((if s=t then (if k*zp fl s<=qt P s then 1 else 0) else 0)-(if off=t then (if k*zp fl off<qt P off then 1 else 0) else 0))
local macro_rules | `(‹"ai"›)=>`((QZ n L w n).map List.reverse)
local macro_rules | `(‹"aj"›)=>`([.sh (.scr ns),.sh (.int st),.sh (.int c),.ow (fl.map ji),x,y])
local macro_rules | `(‹"ak"›)=>`(wpAny_attempt (Kf (name:=Str.ofString "__next__") hT kh (yB kh hT F.entry_zip_next ?_ (F.args_zip_next_1 _))))
local macro_rules | `(‹"al"›)=>`(je (js 0) (je (js 1) jw))
local macro_rules | `(‹"am"›)=>`(jc (jq 0) (jc (jq 1) jj))
local macro_rules | `(‹"an"›)=>`(by simpa using hi)
local macro_rules | `(‹"ao"›)=>`(wpAny_attempt (Kf (name:=Str.ofString "__next__") hT slot_setit_next (yB slot_setit_next hT Qu ?_ (Q0 _))))
local macro_rules | `(‹"ap"›)=>`(eg (qM (eg (zV (jb 0) (eg jk))) (eg jk)))
local macro_rules | `(‹"aq"›)=>`(by simp (disch:=omega) only [zc,zH,jj,Yd,YZ,j2,yo,Yv,Yz])
local macro_rules | `(‹"ar"›)=>`(jcu fun _=>hr.units)
local macro_rules | `(‹"as"›)=>`(eg (jO (eg (jO (jb 0) (jb 2))) (eg jk)))
local macro_rules | `(‹"at"›)=>`(SetTable.grown es1.size)
local macro_rules | `(‹"au"›)=>`(((Q.getD i []).map D.int).set s (.int (g (Jj Q i s) v)))
local macro_rules | `(‹"av"›)=>`(jl jM (ja 0) (eC (.int 1)))
local macro_rules | `(‹"aw"›)=>`([.sh (.scr ns),.sh (.lst (fl0.map ji)),.sh (.lst (P0.map jm)),.un,.un,.un,.un,.un,.un,.un,.un,.un,.un])
local macro_rules | `(‹"ax"›)=>`(∀a vs G' H',Ext G H G' H'->H a=none->G' a=none->H' a=some (.lst vs)->Reps G' vs ds->Q (.ref a) H')
local macro_rules | `(‹"ay"›)=>`(A.deeper (envOfC qual (jd st) s.heap.objs.size f cdv))
local macro_rules | `(‹"az"›)=>`(Jk (by simp (disch:=omega) only [jc,jh,ja,Yn,Yg,jj,Yi,Yd,Zf];simp only [Yc]) (by omega) (by omega))
local macro_rules | `(‹"aA"›)=>`(by decide +kernel)
local macro_rules | `(‹"aB"›)=>`(assignEach es (M.X j).env)
local macro_rules | `(‹"aC"›)=>`(QP (jc (jl qI (eC (.int 0)) (ja 1)) (jc (jl qI (eC (.int 0)) (ja 0)) (jc (jq 2) (jc (jq 3) jj)))))
local macro_rules | `(‹"aD"›)=>`(.dic (kI ks0) ds0)
local macro_rules | `(‹"aE"›)=>`((x1.trans x2).trans x3)
local macro_rules | `(‹"aF"›)=>`(qD (h pos tf s σ H _ I hq) fun us s1 ⟨xs,H1,I1,r,z,q⟩=>⟨by rw [<-r.length];exact z,?_⟩)
local macro_rules | `(‹"aG"›)=>`(jcI tN (fun _=>rfl) (fun _=>T.tN) Kj (jr (jb 0) jA))
local macro_rules | `(‹"aH"›)=>`(Q8 7 (jq 11) (jl qp (jl jM (ja 7) (ja 11)) (ja 12)))
local macro_rules | `(‹"aI"›)=>`(HT.sIx xs.length xs.length hi-HT.sIx xs.length 0 lo)
local macro_rules | `(‹"aJ"›)=>`(jl qI (jl jM (jl jM (ja 0) (ja 2)) (eC (.int 1))) (jl jM (jl jM (ja 0) (ja 2)) (eC (.int 0))))
local macro_rules | `(‹"aK"›)=>`(jZ (jz 0) (jZ (jz 1) Qi))
local macro_rules | `(‹"aL"›)=>`(jE 4 (jl qp (jl qp (ja 3) (eC (.int 1))) (jl qu (jl zy (ja 0) (eC (.int 6))) (eC (.int 5)))))
local macro_rules | `(‹"aM"›)=>`(qD (ha pos tf s σ H _ I h) fun us s1 ⟨vs,H1,I1,r1,q1⟩=>hc tf s1 σ H1 vs us Q I1 r1 q1)
local macro_rules | `(‹"aN"›)=>`(jl (jeC false) (ja 7) (ja 3))
local macro_rules | `(‹"aO"›)=>`(jc (jh qj (jc (ja 0) jj)) jj)
local macro_rules | `(‹"aP"›)=>`(fun r s'=>r=.ok (.ret (.bool true))/\OldK s₁.heap s'.heap/\s'.os=s₁.os/\AllBare s'.gens)
local macro_rules | `(‹"aQ"›)=>`(Obj.mapSeq fun _=>(#[]:Array Value))
local macro_rules | `(‹"aR"›)=>`(c ρ=some true/\((∃ρ2 k2,B ρ=.next ρ2/\k2<k/\P k2 ρ2)\/∃d,B ρ=.ret d/\R (.ret d)))
local macro_rules | `(‹"aS"›)=>`(qw (jl dEq (jl qu (jh jT (jc (jq 0) (jc (eC (.int 2)) jj))) (eC (.int 3))) (eC (.int 1))))
local macro_rules | `(‹"aT"›)=>`(Q8 8 (jq 7) (jl za (jl qp (ja 2) (jh jiM (jc (jl dEq (ja 7) (eC (.int 0))) jj))) (ja 3)))
local macro_rules | `(‹"aU"›)=>`(fun b hb=>⟨(hf b hb).2.2.2.1,(hf b hb).2.1,(hf b hb).2.2.2.2.1,(hf b hb).2.2.2.2.2⟩)
local macro_rules | `(‹"aV"›)=>`(KR (h1.extBut s1.extBut D.i1z) (hl1.extBut s1.extBut D.l1z) hx fun g2 p2 s2=>Yk (Yk ?_))
local macro_rules | `(‹"aW"›)=>`(WO.toE (Q2 (sc:=jd ZX) (Lc:=["row"]) (Fn:=[]) (ix:=[]) (fun _=>rfl) (show LcOk (jd ZX) ["script","fleet","plan","parts","moves","told","low","high","behind_v","numbers","s","level","k"] _ [] [] from by decide +kernel) (qy (jb 2)) (qm (i:=0) (fun _=>show List.Nodup (["row"]:List Str) from by decide +kernel) rfl (by decide) ‹"a"› ‹"m"›) j4 (WO.toE ‹"aG"›)))
local macro_rules | `(‹"aX"›)=>`(eg (WO.toE (Q2 (sc:=jd j3) (Lc:=["ship"]) (Fn:=[]) (ix:=[]) (fun _=>rfl) (show LcOk (jd j3) ["fleet","hours"] _ [] [] from by decide +kernel) (qy (jb 0)) (qm (i:=0) ‹"y"› rfl (by decide) ‹"a"› ‹"m"›) j4 (jO (jb 0) (eg jk)))))
local macro_rules | `(‹"aY"›)=>`(eg (jU (fun _=>qA T) ‹"b"› (fun _=>rfl) (fun _=>T.tM) (fun _=>T.tJ.kp) (fun _=>T.tL) (je (js 0) (je jk jw))))
local macro_rules | `(‹"aZ"›)=>`([.sh ‹"d"›,.sh ‹"i"›,.sh ‹"j"›,mv,.sh ‹"r"›,.ow (Q7 off pre),.sh (jP (i,some o,t)),z7,z8,z9,z10])
local macro_rules | `(‹"a0"›)=>`(WO.toE (qW (fun _=>QT T) ‹"b"› (fun _=>rfl) (fun _=>T.uP) (fun _=>T.uh.kp) (fun _=>T.uL) (je (js 0) jw)))
local macro_rules | `(‹"a1"›)=>`([.sh ‹"d"›,.sh ‹"i"›,.sh ‹"j"›,mv,.sh ‹"r"›,.ow (Q7 off (pre++[(i,some o,t)])),.sh (jP (i,some o,t)),.sh (.int (t:Int)),.sh (.int (i:Int)),.sh (.int (o:Int)),.sh (.int (t:Int))])
local macro_rules | `(‹"a2"›)=>`([.sh ‹"X"›,.sh ‹"C"›,a,.od (kI ks) ds,.ow (nI ks),t,.sh (.int off),.sh (.int on),x8])
local macro_rules | `(‹"a3"›)=>`(jh jbP (jc (jN (JV (qg (ja 1)) (jz 0) ‹"l"› (jl jM (ja 0) (ja 1)) 1 [0])) jj))
local macro_rules | `(‹"a4"›)=>`(jcx (zM (i:=0) ‹"D"› rfl (by decide) ‹"a"› ‹"m"› (zM (i:=1) ‹"D"› rfl (by decide) ‹"a"› ‹"m"› jc8)))
local macro_rules | `(‹"a5"›)=>`((jg fl).map ju)
local macro_rules | `(‹"a6"›)=>`([z0,.sh ‹"n"›,.sh (.lst parts),z3,.sh (.int i),.sh ‹"A"›,.sh (.int left),.ow (R.map D.int),.sh (.int j),f,g,h,w])
local macro_rules | `(‹"a7"›)=>`(fun v s₁=>wpAny ‹"h"› X.A (eval b X.env) (fun u s₂=>wpAny ‹"h"› X.A (f v u) Q X.xe s₂) X.xe s₁)
local macro_rules | `(‹"a8"›)=>`(jes (eg (jU (fun _=>QV T) ‹"b"› (fun _=>rfl) (fun _=>T.uV) (fun _=>T.ug.kp) (fun _=>T.uQ) ‹"al"›)))
local macro_rules | `(‹"a9"›)=>`(jU (fun _=>jbt T) ‹"b"› (fun _=>rfl) (fun _=>T.vO) (fun _=>T.u5.kp) (fun _=>T.vR) (je (js 0) jw))
local macro_rules | `(‹"ba"›)=>`([.sh ‹"X"›,.sh ‹"C"›,.sh ‹"aD"›,.od (kI ks) ds,.ow (nI ks),.sh (.int (t:Int)),x6,x7,x8])
local macro_rules | `(‹"bb"›)=>`(.lst (S.map ju))
local macro_rules | `(‹"bc"›)=>`(.dic (kI ks) ds)
local macro_rules | `(‹"bd"›)=>`(‹"o"›.map fun q=>(q.1+q.2-1)/q.2)
local macro_rules | `(‹"be"›)=>`(qx (jn (jn rfl rfl jI) ‹"c"› jI))
local macro_rules | `(‹"bf"›)=>`(‹"o"›.map fun q=>q.1/q.2)
local macro_rules | `(‹"bg"›)=>`(zx (fun _=>rfl) (fun _=>T.tS) (jr ‹"s"› jA))
local macro_rules | `(‹"bh"›)=>`(zc 8 (JV (Jt (jc (jl qp (ja 1) (eC (.int 1))) jj)) (jz 0) ‹"l"› (eC (.int 0)) 1 []))
local macro_rules | `(‹"bi"›)=>`(jD (i:=3) (zd (eg (qM (jb 0) (eg jk))) (eg jk)) (fun _=>tH.nd) rfl ‹"a"› ‹"a"›)
local macro_rules | `(‹"bj"›)=>`(qm (i:=0) ‹"y"› rfl (by decide) ‹"a"› ‹"m"›)
namespace L2
open PySem PySem.Spec PyProof.Rows
abbrev zw:=Sum Int Str
def Zo:zw->Value->Bool
 | .inl k,v=>Value.isInt k v
 | .inr x,v=>Value.isStrOf x v
def jpZ (w:World):zw->Int
 | .inl k=>hashInt k
 | .inr x=>hashStr w x
theorem j7:∀{k:zw} {v:Value},Zo k v=true->(∃i t,k=Sum.inl i/\v=Value.int i t)\/(∃x t,k=Sum.inr x/\v=Value.str x t)
 | .inl i,v,h=>by obtain ⟨t,e⟩:=Value.isInt_shape (k:=i) (v:=v) h;exact .inl ⟨i,t,rfl,e⟩
 | .inr x,v,h=>by obtain ⟨t,e⟩:=Value.isStrOf_shape (x:=x) (v:=v) h;exact .inr ⟨x,t,rfl,e⟩
theorem ji5 (i:Int) (t:Tok):Zo (.inl i) (.int i t)=true:=by simp [Zo,Value.isInt]
theorem jjf (x:Str) (t:Tok):Zo (.inr x) (.str x t)=true:=by simp [Zo,Value.isStrOf]
theorem jnr (a b:Int):decide ((Sum.inl a:zw)=Sum.inl b)=(a == b):=by
 by_cases e:a=b
 . subst e;simp
 . have h:¬(Sum.inl a:zw)=Sum.inl b:=fun q=>e (Sum.inl.inj q);rw [Y6 h];exact (KD.mpr e).symm
theorem joq (a b:Str):decide ((Sum.inr a:zw)=Sum.inr b)=decide (a=b):=by
 by_cases e:a=b
 . subst e;simp
 . have h:¬(Sum.inr a:zw)=Sum.inr b:=fun q=>e (Sum.inr.inj q);rw [Y6 h,Y6 e]
theorem joi (a:Int) (b:Str):decide ((Sum.inl a:zw)=Sum.inr b)=false:=Y6 (fun q=>nomatch q)
theorem jnu (a:Str) (b:Int):decide ((Sum.inr a:zw)=Sum.inl b)=false:=Y6 (fun q=>nomatch q)
def j5 (prog:Program) (w:World):PySem.KeyKind prog w zw where
 is:=Zo
 hash:=jpZ w
 inj:=fun v a b ha hb=>by
   rcases j7 ha with ⟨i,t,rfl,rfl⟩ | ⟨x,t,rfl,rfl⟩
   . rcases j7 hb with ⟨j,u,rfl,e⟩ | ⟨y,u,rfl,e⟩
     . injection e with e1 _;rw [e1]
     . exact nomatch e
   . rcases j7 hb with ⟨j,u,rfl,e⟩ | ⟨y,u,rfl,e⟩
     . exact nomatch e
     . injection e with e1 _;rw [e1]
 byValue:=fun k v h=>by rcases j7 h with ⟨i,t,rfl,rfl⟩ | ⟨x,t,rfl,rfl⟩ <;> rfl
 pyHash:=fun hv h=>by
   rcases j7 hv with ⟨i,t,rfl,rfl⟩ | ⟨x,t,rfl,rfl⟩
   . exact wpAny_pyHash_int h
   . exact wpAny_pyHash_str h
 eqBool:=fun hu hv h=>by
   rcases j7 hu with ⟨i,t,rfl,rfl⟩ | ⟨x,t,rfl,rfl⟩
   . rcases j7 hv with ⟨j,u,rfl,rfl⟩ | ⟨y,u,rfl,rfl⟩
     . rw [jnr] at h;exact wpAny_eqBool_int h
     . rw [joi] at h;exact SeqAt.EqAt.int_str i t y u _ _ _ _ h
   . rcases j7 hv with ⟨j,u,rfl,rfl⟩ | ⟨y,u,rfl,rfl⟩
     . rw [jnu] at h;exact SeqAt.EqAt.str_int x t j u _ _ _ _ h
     . rw [joq] at h;exact wpAny_eqBool_str h
 «strs»:=fun k x t v h=>by
   rcases j7 h with ⟨i,u,rfl,e⟩ | ⟨y,u,rfl,e⟩
   . exact nomatch e
   . injection e with e1 _;subst e1;cases v <;> rfl
theorem je9 (prog:Program) (w:World) (i:Int) (t:Tok):(j5 prog w).is (.inl i) (.int i t)=true:=ji5 i t
theorem jgk (prog:Program) (w:World) (x:Str) (t:Tok):(j5 prog w).is (.inr x) (.str x t)=true:=jjf x t
end L2
namespace L2
open PySem PySem.Spec PyProof.Rows
set_option genInjectivity true in
inductive V where
 | non | bl (b:Bool) | int (i:Int) | str (x:Str) | byt (b:Array UInt8) | flt (b:UInt64) | ref (a:Addr) | ty (n:String)
 deriving DecidableEq
def RelV:V->Value->Prop
 | .non,u=>u=Value.none
 | .bl b,u=>u=Value.bool b
 | .int i,u=>∃t,u=Value.int i t
 | .str x,u=>∃t,u=Value.str x t
 | .byt b,u=>∃t,u=Value.bytes b t
 | .flt b,u=>∃t,u=Value.float b t
 | .ref a,u=>u=Value.ref a
 | .ty n,u=>u=Value.type n
abbrev Vals:List V->List Value->Prop:=Paired RelV
theorem Vals.length {xs:List V} {us:List Value} (r:Vals xs us):xs.length=us.length:=Paired.length r
theorem Vals.get:∀{xs:List V} {us:List Value} {i:Nat} {x:V},Vals xs us->xs[i]?=some x->∃u,us[i]?=some u/\RelV x u
 | _,_,_,_,.nil,e=>by simp at e
 | _,_,0,_,.cons r _,e=>by simp at e;subst e;exact ⟨_,rfl,r⟩
 | _,_,i+1,x,.cons _ t,e=>by obtain ⟨u,h1,h2⟩:=Vals.get (i:=i) (x:=x) t (by simpa using e);exact ⟨u,by simpa using h1,h2⟩
theorem Vals.set {x:V} {u:Value} (r:RelV x u):∀{xs:List V} {us:List Value} (i:Nat),Vals xs us->Vals (xs.set i x) (us.set i u)
 | _,_,_,.nil=>.nil
 | _,_,0,.cons _ t=>.cons r t
 | _,_,i+1,.cons q t=>.cons q (Vals.set r i t)
theorem Vals.append:∀{xs ys:List V} {us ws:List Value},Vals xs us->Vals ys ws->Vals (xs++ys) (us++ws):=fun h s=>by
 induction h with
 | nil=>exact s
 | cons r _ ih=>exact .cons r ih
theorem Vals.take:∀{xs:List V} {us:List Value} (n:Nat),Vals xs us->Vals (xs.take n) (us.take n)
 | _,_,0,_=>.nil
 | _,_,_+1,.nil=>.nil
 | _,_,n+1,.cons r t=>.cons r (Vals.take n t)
theorem Vals.drop:∀{xs:List V} {us:List Value} (n:Nat),Vals xs us->Vals (xs.drop n) (us.drop n)
 | _,_,0,r=>r
 | _,_,_+1,.nil=>.nil
 | _,_,n+1,.cons _ t=>Vals.drop n t
def RelO:Option V->Option Value->Prop
 | some v,some u=>RelV v u
 | none,none=>True
 | _,_=>False
def KV {κ:Type}:List (κ×V)->List (κ×Value)->Prop:=Paired fun (p:κ×V) (q:κ×Value)=>p.1=q.1/\RelV p.2 q.2
def kV:zw->V
 | .inl i=>.int i
 | .inr x=>.str x
set_option genInjectivity true in
inductive HO where
 /-- a list -/
 | lst (xs:List V)
 /-- a tuple (never changes) -/
 | tup (xs:List V)
 /-- a dict whose keys are ints and texts; one whose keys are tuples of ints and texts (the empty one is both) -/
 | dK (kvs:List (zw×V)) | dT (kvs:List (List zw×V))
 /-- a set of ints: tu members, tu size -/
 | set (S:Int->Bool) (n:Nat)
 /-- an instance of the class at C, tu dict at dx, tu attributes -/
 | ins (C dx:Addr) (fs:List (Str×V))
 /-- the dict of the instance at x -/
 | own (x:Addr)
 /-- the dict of an exception -/
 | xd (fs:List (Str×V))
 /-- a bound method, f of x -/
 | met (f x:Addr)
 /-- a range object lo, lo + 1, .. below hi -/
 | rng (lo hi:Int)
 /-- a thing that is known to the object (the script; a dict while a loop walks it): read, never written while it is so -/
 | frz (o:Obj) (u:HO)
 /-- a code object's table -/
 | tbl (ps:Array Value)
 /-- any other thing, by what is true of tu one object (a def of one's own: SetO a S n := HO.ext fun h => ..) -/
 | ext (φ:Heap->Prop)
abbrev Hp:=Addr->Option HO
def upd (H:Hp) (a:Addr) (o:HO):Hp:=fun b=>if b=a then some o else H b
theorem jB {H:Hp} {a:Addr} {o:HO}:upd H a o a=some o:=by unfold upd;rw [if_pos rfl]
theorem jC {H:Hp} {a b:Addr} {o:HO} (h:b≠a):upd H a o b=H b:=by unfold upd;rw [if_neg h]
theorem jqg {H:Hp} {a b:Addr} {o u:HO} (h:H a=some o) (h':H b=some u) (d:o≠u):a≠b:=by intro e;subst e;rw [h] at h';exact d (Option.some.inj h')
theorem jG {H:Hp} {a b:Addr} {o:HO} (h:H a=some o) (h':H b=none):a≠b:=by intro e;subst e;rw [h] at h';cases h'
section
variable (P:Program) (w:World)
def ObjOk (H:Hp) (h:Heap) (a:Addr):HO->Prop
 | .lst xs=>xs.length ≤ sizeLine ∧ ∃(tu:List Value) (n:Nat),Vals xs tu ∧ h.get? a=some { cls:=.type "list",data:=.seq tu.toArray n }
 | .tup xs=>xs.length<=sizeLine/\∃tu:List Value,Vals xs tu/\IsTup h a tu.toArray
 | .dK kvs=>kvs.length<=sizeLine/\(a == sysModules)=false/\∃vs,KV kvs vs/\h.DictOf (j5 P w) a vs
 | .dT kvs=>kvs.length<=sizeLine/\(a == sysModules)=false/\∃xs:List (List zw×Addr×Value),
  Paired (fun (p:List zw×V) (q:List zw×Addr×Value)=>p.1=q.1/\H q.2.1=some (.tup (p.1.map kV))/\RelV p.2 q.2.2) kvs xs /\
  ∃o es ep,h.get? a=some o/\o.ExactDict/\o.data=.dict es ep/\es.toList=xs.map (entryOfKey (tupleKind (j5 P w)))/\(xs.map (·.1)).Nodup
 | .set S n=>h.SetOf (intKind P w) a S n
 | .ins C dx fs=>H dx=some (.own a)/\fs.length<=1000/\dx≠a/\h.get? a=some (PySem.W.instObj C dx) /\
  ∃mA,h.Ns1 dx mA/\(∀f,RelO (fs.lookup f) (mA f))/\PySem.Within mA (fs.map (·.1))
 | .own _=>∃o,h.get? a=some o
 | .xd fs=>∃mA,h.Ns1 a mA/\∀f,RelO (fs.lookup f) (mA f)
 | .rng lo hi=>∃t u v,h.get? a=some { cls:=.type "range",data:=.fields #[.int lo t,.int hi u,.int 1 v] }
 | .frz o u=>h.get? a=some o/\ObjOk H h a u
 | .tbl ps=>h.get? a=some { cls:=.none,data:=.fields ps }
 | .met f x=>h.get? a=some (PySem.W.methodObj (.ref f) (.ref x))
 | .ext φ=>φ h/\(∃o,h.get? a=some o)/\∀h1 h2:Heap,φ h1->(∀o,h1.get? a=some o->h2.get? a=some o)->φ h2
def HOk (H:Hp) (h:Heap):Prop:=∀a o,H a=some o->ObjOk P w H h a o
end
section
variable {P:Program} {w:World} {H H':Hp} {h h':Heap} {a:Addr} {o:HO}
theorem ObjOk.lt (x:ObjOk P w H h a o):a<h.objs.size:=by
 cases o with
 | lst xs=>obtain ⟨_,_,_,_,e⟩:=x;exact Yw e
 | tup xs=>obtain ⟨_,_,_,p⟩:=x;exact p.lt
 | dK kvs=>obtain ⟨_,_,_,_,o,_,_,e,_⟩:=x;exact Yw e
 | dT kvs=>obtain ⟨_,_,_,_,o,_,_,e,_⟩:=x;exact Yw e
 | set S n=>obtain ⟨o,_,_,_,e,_⟩:=x;exact Yw e
 | ins C dx fs=>obtain ⟨_,_,_,e,_⟩:=x;exact Yw e
 | own y=>obtain ⟨_,e⟩:=x;exact Yw e
 | xd fs=>obtain ⟨_,⟨_,_,_,e,_⟩,_⟩:=x;exact Yw e
 | rng lo hi=>obtain ⟨_,_,_,e⟩:=x;exact Yw e
 | frz ob u=>obtain ⟨e,_⟩:=x;exact Yw e
 | tbl ps=>exact Yw (show h.get? a=some _ from x)
 | met f y=>exact Yw (show h.get? a=some _ from x)
 | ext φ=>obtain ⟨_,⟨_,e⟩,_⟩:=x;exact Yw e
theorem Paired.mapP {α β:Type} {F G:α->β->Prop}:∀{l₁:List α} {l₂:List β},Paired F l₁ l₂->(∀a b,F a b->G a b)->Paired G l₁ l₂:=fun h f=>by
 induction h with
 | nil=>exact .nil
 | cons r _ ih=>exact .cons (f _ _ r) ih
theorem ObjOk.stay (x:ObjOk P w H h a o) (k:∀b u,(b=a\/H b=some (.own a))->h.get? b=some u->h'.get? b=some u)
 (ho:∀b,H b=some (.own a)->H' b=some (.own a)) (ht:∀b xs,H b=some (.tup xs)->H' b=some (.tup xs)):ObjOk P w H' h' a o:=by
 induction o with
 | lst xs=>obtain ⟨z,tu,n,r,e⟩:=x;exact ⟨z,tu,n,r,k _ _ (.inl rfl) e⟩
 | tup xs=>obtain ⟨z,tu,r,ob,e,c⟩:=x;exact ⟨z,tu,r,ob,k _ _ (.inl rfl) e,c⟩
 | dK kvs=>obtain ⟨z,y,vs,r,ob,es,ep,e,c⟩:=x;exact ⟨z,y,vs,r,ob,es,ep,k _ _ (.inl rfl) e,c⟩
 | dT kvs=>obtain ⟨z,y,xs,r,ob,es,ep,e,c⟩:=x;exact ⟨z,y,xs,Paired.mapP r fun p q z=>⟨z.1,ht _ _ z.2.1,z.2.2⟩,ob,es,ep,k _ _ (.inl rfl) e,c⟩
 | set S n=>obtain ⟨ob,es,ep,t,e,c⟩:=x;exact ⟨ob,es,ep,t,k _ _ (.inl rfl) e,c⟩
 | ins C dx fs=>obtain ⟨d,z,ne,e,mA,⟨od,es,ep,e2,c⟩,r⟩:=x;exact ⟨ho _ d,z,ne,k _ _ (.inl rfl) e,mA,⟨od,es,ep,k _ _ (.inr d) e2,c⟩,r⟩
 | own y=>obtain ⟨ob,e⟩:=x;exact ⟨ob,k _ _ (.inl rfl) e⟩
 | xd fs=>obtain ⟨mA,⟨od,es,ep,e,c⟩,r⟩:=x;exact ⟨mA,⟨od,es,ep,k _ _ (.inl rfl) e,c⟩,r⟩
 | rng lo hi=>obtain ⟨t,u,v,e⟩:=x;exact ⟨t,u,v,k _ _ (.inl rfl) e⟩
 | frz ob u ih=>obtain ⟨e,q⟩:=x;exact ⟨k _ _ (.inl rfl) e,ih q⟩
 | tbl ps=>have e:h.get? a=some { cls:=.none,data:=.fields ps }:=x;show h'.get? a=some { cls:=.none,data:=.fields ps };exact k a _ (.inl rfl) e
 | met f y=>have e:h.get? a=some (PySem.W.methodObj (.ref f) (.ref y)):=x;show h'.get? a=some (PySem.W.methodObj (.ref f) (.ref y));exact k a _ (.inl rfl) e
 | ext φ=>obtain ⟨p,⟨o,e⟩,st⟩:=x;exact ⟨st _ _ p fun o q=>k _ _ (.inl rfl) q,⟨o,k _ _ (.inl rfl) e⟩,st⟩
theorem HOk.lt (x:HOk P w H h) (e:H a=some o):a<h.objs.size:=(x a o e).lt
theorem HOk.fresh (x:HOk P w H h) (e:h.objs.size<=a):H a=none:=by
 cases q:H a with
 | none=>rfl
 | some u=>exact absurd (Ym (x.lt q) e) (Y5 _)
theorem HOk.kept (x:HOk P w H h) (k:∀b u,h.get? b=some u->h'.get? b=some u):HOk P w H h':=fun a o e=>(x a o e).stay (fun b u _ q=>k b u q) (fun _ q=>q) fun _ _ q=>q
theorem HOk.laid (x:HOk P w H h) (k:∀b u,h.get? b=some u->h'.get? b=some u) (hp:h.objs.size<=a) (new:ObjOk P w (upd H a o) h' a o):HOk P w (upd H a o) h':=fun b u e=>by
 have hn:=x.fresh hp;by_cases hb:b=a
 . subst hb;rw [jB] at e;cases e;exact new
 . rw [jC hb] at e;exact (x b u e).stay (fun c v _ q=>k c v q) (fun c q=>by rw [jC (jG q hn)];exact q) fun c xs q=>by rw [jC (jG q hn)];exact q
end
def Rd (H:Hp) (a:Addr) (u:HO):Prop:=H a=some u\/∃o,H a=some (.frz o u)
theorem Rd.ok {P:Program} {w:World} {H:Hp} {h:Heap} {a:Addr} {u:HO} (r:Rd H a u) (x:HOk P w H h):ObjOk P w H h a u:=by
 rcases r with r | ⟨o,r⟩
 . exact x a u r
 . obtain ⟨_,q⟩:=x a _ r;exact q
def Mut:Option HO->Prop
 | some (.lst _)=>True
 | some (.dK _)=>True
 | some (.dT _)=>True
 | some (.set _ _)=>True
 | some (.ins _ _ _)=>True
 | some (.ext _)=>True
 | _=>False
section
variable {P:Program} {w:World} {H:Hp} {h h':Heap} {x e:Addr} {o':HO}
theorem HOk.write (ok:HOk P w H h) (mu:Mut (H x)) (he:e=x\/H e=some (.own x)) (k:∀b u,b≠e->h.get? b=some u->h'.get? b=some u) (heo:∃u,h'.get? e=some u)
 (new:ObjOk P w (upd H x o') h' x o'):HOk P w (upd H x o') h':=fun b u q=>by
 have nown:∀c y,H c=some (.own y)->c≠x:=fun c y r z=>by subst z;rw [r] at mu;exact mu
 have ntup:∀c xs,H c=some (.tup xs)->c≠x:=fun c xs r z=>by subst z;rw [r] at mu;exact mu
 by_cases hb:b=x
 . subst hb;rw [jB] at q;cases q;exact new
 . rw [jC hb] at q;by_cases hbe:b=e
   . have q':H b=some (.own x):=by
       rcases he with z | z
       . exact absurd (hbe.trans z) hb
       . rw [hbe];exact z
     rw [q] at q';cases q';obtain ⟨v,hv⟩:=heo;exact ⟨v,by rw [hbe];exact hv⟩
   . refine (ok b u q).stay (fun c v hc r=>k c v ?_ r) (fun c r=>by rw [jC (nown c b r)];exact r) fun c xs r=>by rw [jC (ntup c xs r)];exact r
     rcases hc with rfl | hc
     . exact hbe
     . rintro rfl;rcases he with z | z
       . exact nown c b hc z
       . rw [hc] at z;cases z;exact hb rfl
end
structure Un (fs ex:List Addr) (H H':Hp) (h h':Heap):Prop where
 keep:∀b o,h.get? b=some o->H b=none->b∉fs->b∉ex->h'.get? b=some o
 slot:∀b o,h.get? b=some o->H b=none->b∈fs->b∉ex->∃sl,h'.get? b=some { o with slots:=sl }
 free:∀b o,h.get? b=some o->H b=none->b∉ex->H' b=none
 there:∀b o,h.get? b=some o->b∉ex->∃o',h'.get? b=some o'
 tups:∀b xs,H b=some (.tup xs)->H' b=some (.tup xs)
 frzs:∀b o u,H b=some (.frz o u)->H' b=some (.frz o u)
 tbls:∀b ps,H b=some (.tbl ps)->∃more,H' b=some (.tbl (ps++more))
section
variable {fs fs' ex ex':List Addr} {H H1 H2:Hp} {h h1 h2 h':Heap} {a x e:Addr} {o:HO}
theorem Un.any (u:Un fs ex H H1 h h1) {b:Addr} {ob:Obj} (q:h.get? b=some ob) (n:H b=none) (hx:b∉ex):∃sl,h1.get? b=some { ob with slots:=sl }:=by
 by_cases hb:b∈fs
 . exact u.slot b ob q n hb hx
 . exact ⟨ob.slots,u.keep b ob q n hb hx⟩
theorem Un.trans (a:Un fs ex H H1 h h1) (b:Un fs ex H1 H2 h1 h2):Un fs ex H H2 h h2 where
 keep:=fun c ob q n hc hx=>b.keep c ob (a.keep c ob q n hc hx) (a.free c ob q n hx) hc hx
 slot:=fun c ob q n hc hx=>by obtain ⟨sl,e1⟩:=a.slot c ob q n hc hx;obtain ⟨sl',e2⟩:=b.slot c _ e1 (a.free c ob q n hx) hc hx;exact ⟨sl',e2⟩
 free:=fun c ob q n hx=>by obtain ⟨o',e1⟩:=a.there c ob q hx;exact b.free c o' e1 (a.free c ob q n hx) hx
 there:=fun c ob q hx=>by obtain ⟨o',e1⟩:=a.there c ob q hx;exact b.there c o' e1 hx
 tups:=fun c xs q=>b.tups c xs (a.tups c xs q)
 frzs:=fun c ob xs q=>b.frzs c ob xs (a.frzs c ob xs q)
 tbls:=fun c ps q=>by obtain ⟨m1,e1⟩:=a.tbls c ps q;obtain ⟨m2,e2⟩:=b.tbls c _ e1;exact ⟨m1++m2,by rw [e2,Array.append_assoc]⟩
theorem Un.kept (k:∀b u,h.get? b=some u->h'.get? b=some u):Un fs ex H H h h':=⟨fun b ob q _ _ _=>k b ob q,fun b ob q _ _ _=>⟨ob.slots,k b ob q⟩,fun _ _ _ n _=>n,fun b ob q _=>⟨ob,k b ob q⟩,fun _ _ q=>q,fun _ _ _ q=>q,fun _ ps q=>⟨#[],by rw [q];simp⟩⟩
theorem Un.refl:Un fs ex H H h h:=Un.kept fun _ _ q=>q
theorem Un.laid (k:∀b u,h.get? b=some u->h'.get? b=some u) (hp:h.objs.size<=a) (hn:H a=none):Un fs ex H (upd H a o) h h' where
 keep:=fun b u q _ _ _=>k b u q
 slot:=fun b u q _ _ _=>⟨u.slots,k b u q⟩
 free:=fun b u q n _=>by rw [jC (Yt (Ym (Yw q) hp))];exact n
 there:=fun b u q _=>⟨u,k b u q⟩
 tups:=fun b xs q=>by rw [jC (jG q hn)];exact q
 frzs:=fun b u xs q=>by rw [jC (jG q hn)];exact q
 tbls:=fun b ps q=>⟨#[],by rw [jC (jG q hn),q];simp⟩
theorem Un.write (mu:Mut (H x)) (he:e=x\/H e=some (.own x)) (k:∀b u,b≠e->h.get? b=some u->h'.get? b=some u) (heo:∃u,h'.get? e=some u):Un fs ex H (upd H x o) h h':=by
 have hx:∀b,H b=none->b≠x:=fun b n z=>by subst z;rw [n] at mu;exact mu
 have hb:∀b,H b=none->b≠e:=fun b n z=>by
  subst z;rcases he with r | r
  . exact hx b n r
  . rw [n] at r;cases r
 have hm:∀b u,H b=some u->¬Mut (some u)->b≠x:=fun b u q nm z=>by subst z;rw [q] at mu;exact nm mu
 refine ⟨fun b u q n _ _=>k b u (hb b n) q,fun b u q n _ _=>⟨u.slots,k b u (hb b n) q⟩,fun b u q n _=>by rw [jC (hx b n)];exact n,fun b u q _=>?_,
  fun b xs q=>by rw [jC (hm b _ q fun z=>z)];exact q,fun b u xs q=>by rw [jC (hm b _ q fun z=>z)];exact q,fun b ps q=>⟨#[],by rw [jC (hm b _ q fun z=>z),q];simp⟩⟩
 by_cases hbe:b=e
 . subst hbe;exact heo
 . exact ⟨u,k b u hbe q⟩
theorem Un.mono (u:Un fs ex H H1 h h1) (hs:∀b∈fs,b∈fs') (hx:∀b∈ex,b∈ex'):Un fs' ex' H H1 h h1:=⟨fun b ob q n hb he=>u.keep b ob q n (fun z=>hb (hs b z)) fun z=>he (hx b z),fun _ _ q n _ he=>u.any q n fun z=>he (hx _ z),fun b ob q n he=>u.free b ob q n fun z=>he (hx b z),fun b ob q he=>u.there b ob q fun z=>he (hx b z),u.tups,u.frzs,u.tbls⟩
end
def trk (h:Heap) (H:Hp):List Addr:=(List.range h.objs.size).filter fun a=>(H a).isSome
def jeD (h:Heap) (H:Hp):Heap:=PySem.W.hideAll h (trk h H)
theorem jiK (h:Heap) (H:Hp):(jeD h H).objs.size=h.objs.size:=PySem.W.hideAll_size _ _
theorem jjB {h:Heap} {H:Hp} {b:Addr} {o:Obj} (e:h.get? b=some o) (n:H b=none):(jeD h H).get? b=some o:=
 PySem.W.hideAll_get _ e fun hm=>by have q:(H b).isSome=true:=(List.mem_filter.mp hm).2;rw [n] at q;simp at q
theorem jms {h:Heap} {H:Hp} {b:Addr} {o:Obj} (e:(jeD h H).get? b=some o):h.get? b=some o/\H b=none:=by
 have e':h.get? b=some o:=PySem.W.of_hideAll (trk h H) e;refine ⟨e',?_⟩;cases q:H b with
 | none=>rfl
 | some x=>have hm:b∈trk h H:=List.mem_filter.mpr ⟨yM.mpr (Yw e'),by simp [q]⟩;have z:(jeD h H).get? b=none:=PySem.W.hideAll_none (trk h H) hm;rw [z] at e;cases e
def jlF (g h:Heap) (L:Addr):List (Addr×Obj):=(List.range h.objs.size).filterMap fun a=>if a=L\/(g.get? a).isSome=true then none else (h.get? a).map fun o=>(a,o)
def jda (g h:Heap) (L d:Addr):List (Addr×Obj):=(jlF g h L).filter fun p=>decide (p.1≠d)
end L2
namespace L2
open PySem PySem.Spec PyProof.Rows
structure Mod (K:PySem.W.Frag) (mg:Str->Option Value) (base:Heap):Prop where
 kin:K.In base
 glob:base.Ns mainGlobals mg
 blt:∃mb,base.Ns builtinsNs mb ∧ ∀x:Str,x ≠ "__name__" → mb x=bootBuiltins x
 nolimit:base.NoLimit
/-- the context: a def's body (or a comprehension's block) running. base: fixed through the whole law; s₀, H₀: the entry; outer: the frames whose slots others may change (a def's callers); stack: all frames that run;
 ex: iterators that were made ahead of the entry and are walked here (a comprehension's);fn: the names whose cells were made at the entry (a def: all;a comprehension's block: tu own);calm: not within an except suite;pn: tf that every state bears;xe: what is wanted of an exception that leaves the code -/
structure Cx where
 prog:Program
 w:World
 K:PySem.W.Frag
 mg:Str->Option Value
 base:Heap
 A:Around
 N:List Str
 s₀:Shared
 H₀:Hp
 env:Env
 outer:List Env
 stack:List Env
 ex:List Addr
 fn:Str->Bool
 calm:Bool
 pn:List (Addr×Obj)
 xe:Value->Shared->Prop
def frs (l:List Env):List Addr:=l.filterMap (·.frame)
abbrev Cx.fs (X:Cx):List Addr:=frs X.outer
def Vis (sc:Scope) (x:Str):Prop:=sc.names.lookup x=some .local\/sc.names.lookup x=some .cell\/sc.names.lookup x=some .free
def Loc (sc:Scope) (x:Str):Prop:=sc.names.lookup x=some .local\/sc.names.lookup x=some .cell
def jri (env:Env) (h:Heap) (m:Str->Option Value) (x:Str) (u:Value):Prop:=(env.kindOf x=some .local/\m x=some u)\/((env.kindOf x=some .cell\/env.kindOf x=some .free)/\∃c,env.cells.lookup x=some c/\h.IsCell c (some u))
structure Cx.Ok (X:Cx):Prop where
 mod:Mod X.K X.mg X.base
 kind:X.env.scope.kind=.function
 glob:X.env.globals=mainGlobals
 blt:X.env.builtins=builtinsNs
 above:X.s₀.heap.objs.size<=X.env.locals
 inj:∀x y c,X.env.cells.lookup x=some c->X.env.cells.lookup y=some c->x=y
 has:∀x,(X.env.kindOf x=some .cell\/X.env.kindOf x=some .free)->∃c,X.env.cells.lookup x=some c
 cab:∀x c,X.fn x=true->X.env.cells.lookup x=some c->X.s₀.heap.objs.size<=c
 hd:X.calm=true->X.A.handled=none
 frames:X.A.frames=some X.stack
 stk:X.stack=X.outer\/(X.stack=X.env::X.outer/\X.env.frame=some X.env.locals)
 exf:∀b∈X.ex,b≠X.env.locals/\∀x c,X.env.cells.lookup x=some c->c≠b
 bs:∀b o,X.base.get? b=some o->X.s₀.heap.get? b=some o/\X.H₀ b=none
 bsz:X.base.objs.size<=X.s₀.heap.objs.size
 noex:∀b o,X.base.get? b=some o->b∉X.ex
 exfs:∀b∈X.ex,b∉X.fs
 funs:X.s₀.heap.FunFrames X.base X.outer
 frf:∀b∈X.fs,X.H₀ b=none
structure Inv (X:Cx) (tf:List (Addr×Obj)) (σ:List (Option V)) (H:Hp) (s:Shared):Prop where
 ok:X.Ok
 os:s.os=X.s₀.os
 bare:AllBare s.gens
 base:Un X.fs X.ex X.H₀ H X.s₀.heap s.heap
 loc:∃m,s.heap.Ns X.env.locals m/\∀(i:Nat) (x:Str) (v:V),X.N[i]?=some x->σ[i]?=some (some v)->Vis X.env.scope x->∃u,RelV v u/\jri X.env s.heap m x u
 cell:∀x c,X.env.cells.lookup x=some c->∃v,s.heap.IsCell c v
 free:H X.env.locals=none
 freeC:∀x c,X.env.cells.lookup x=some c->H c=none
 pin:∀p∈X.pn++tf,s.heap.get? p.1=some p.2/\H p.1=none/\p.1≠X.env.locals/\p.1∉X.fs/\∀v,p.2.data≠.cell v
 hok:HOk X.prog X.w H s.heap
 len:σ.length=X.N.length
section
variable {X:Cx} {tf:List (Addr×Obj)} {σ:List (Option V)} {H H':Hp} {s:Shared} {h':Heap}
theorem Cx.Ok.nofr (ok:X.Ok) {b:Addr} {o:Obj} (e:X.base.get? b=some o):b∉X.fs:=fun hb=>by have:=(ok.funs.mem hb).1;rw [e] at this;cases this
theorem Inv.bs (I:Inv X tf σ H s):∀b o,X.base.get? b=some o->s.heap.get? b=some o/\H b=none:=fun b o e=>⟨I.base.keep b o (I.ok.bs b o e).1 (I.ok.bs b o e).2 (I.ok.nofr e) (I.ok.noex b o e),I.base.free b o (I.ok.bs b o e).1 (I.ok.bs b o e).2 (I.ok.noex b o e)⟩
theorem Inv.bk (I:Inv X tf σ H s):∀b o,X.base.get? b=some o->s.heap.get? b=some o:=fun b o e=>(I.bs b o e).1
theorem Inv.mod (I:Inv X tf σ H s):Mod X.K X.mg X.base:=I.ok.mod
theorem Inv.kIn (I:Inv X tf σ H s):X.K.In s.heap:=I.ok.mod.kin.keeps I.bk
theorem Inv.fr (I:Inv X tf σ H s):∃m,Fr X.base X.env.locals s.heap m:=
 let ⟨m,hn,_⟩:=I.loc
 ⟨m,hn,I.bk,Y2 I.ok.bsz I.ok.above⟩
theorem Inv.lt (I:Inv X tf σ H s):X.env.locals<s.heap.objs.size:=let ⟨_,hn,_⟩:=I.loc;hn.lt
theorem Inv.sz (I:Inv X tf σ H s):X.s₀.heap.objs.size<=s.heap.objs.size:=Y2 I.ok.above (yL I.lt)
theorem Inv.nofs (I:Inv X tf σ H s) {a:Addr} (h:s.heap.objs.size<=a):a∉X.fs:=fun hb=>by obtain ⟨_,o,ho,_⟩:=I.ok.funs.mem hb;exact absurd (Ym (Yw ho) (Y2 I.sz h)) (Y5 _)
theorem Inv.cne (I:Inv X tf σ H s):∀x c,X.env.cells.lookup x=some c->c≠X.env.locals:=fun x c e z=>by obtain ⟨v,o,ho,hd⟩:=I.cell x c e;obtain ⟨m,⟨o',es,ep,ho',hd',_⟩,_⟩:=I.loc;rw [z,ho'] at ho;cases ho;rw [hd'] at hd;cases hd
theorem Inv.funs (I:Inv X tf σ H s):s.heap.FunFrames X.base X.outer:=by
 have all:∀(l:List Env),(∀b∈frs l,b∈X.fs)->X.s₀.heap.FunFrames X.base l->s.heap.FunFrames X.base l:=by
  intro l;induction l with
  | nil=>intro _ _;trivial
  | cons env r ih=>intro hs hl;obtain ⟨hk,⟨L,o,hf,hn,ho,hd⟩,hr⟩:=hl;have hL:L∈X.fs:=hs L (by unfold frs;rw [Ki,hf];exact Yf);obtain ⟨sl,e⟩:=I.base.slot L o ho (I.ok.frf L hL) hL fun z=>I.ok.exfs L z hL;exact ⟨hk,⟨L,_,hf,hn,e,hd⟩,ih (fun b hb=>hs b (by unfold frs;rw [Ki,hf];exact Yj _ hb)) hr⟩
 exact all X.outer (fun _ hb=>hb) I.ok.funs
theorem Inv.stack (I:Inv X tf σ H s):s.heap.FunFrames X.base X.stack:=by
 rcases I.ok.stk with e | ⟨e,hf⟩
 . rw [e];exact I.funs
 . rw [e];obtain ⟨m,hn,_⟩:=I.loc;refine .cons (by rw [I.ok.kind];decide) hf hn ?_ I.funs;exact Heap.get?_none_of_le (Y2 I.ok.bsz I.ok.above)
theorem Inv.stkSub (I:Inv X tf σ H s):∀b∈frs X.stack,b∈X.env.locals::X.fs:=fun b hb=>by
 rcases I.ok.stk with e | ⟨e,hf⟩
 . rw [e] at hb;exact Yj _ hb
 . rw [e] at hb;unfold frs at hb;rw [Ki,hf] at hb;exact hb
theorem Inv.stkFree (I:Inv X tf σ H s):∀b∈frs X.stack,H b=none:=fun b hb=>by
 rcases Yq.mp (I.stkSub b hb) with e | hb
 . rw [e];exact I.free
 . obtain ⟨_,o,ho,_⟩:=I.ok.funs.mem hb;exact I.base.free b o ho (I.ok.frf b hb) fun z=>I.ok.exfs b z hb
theorem Inv.step {g':Array GenState} {t':Nat} {d':Drawn} {ch:List Addr} (I:Inv X tf σ H s)
 (hch:∀b∈ch,(b∈X.ex\/X.s₀.heap.objs.size<=b)/\b≠X.env.locals/\(∀x c,X.env.cells.lookup x=some c->c≠b)/\∀p∈X.pn++tf,p.1≠b)
 (keep:∀b o,b≠X.env.locals->b∉X.fs->b∉ch->s.heap.get? b=some o->H b=none->h'.get? b=some o)
 (slot:∀b o,b≠X.env.locals->b∈X.fs->b∉ch->s.heap.get? b=some o->H b=none->∃sl,h'.get? b=some { o with slots:=sl }) (free:∀b o,b∉ch->s.heap.get? b=some o->H b=none->H' b=none)
 (there:∀b o,b∉ch->s.heap.get? b=some o->∃o',h'.get? b=some o')
 (tups:∀b xs,H b=some (.tup xs)->H' b=some (.tup xs)) (frzs:∀b o u,H b=some (.frz o u)->H' b=some (.frz o u)) (tbls:∀b ps,H b=some (.tbl ps)->∃more,H' b=some (.tbl (ps++more)))
 (ns:∀m,s.heap.Ns X.env.locals m->h'.Ns X.env.locals m) (hok:HOk X.prog X.w H' h') (hg:AllBare g') :
 Inv X tf σ H' { s with heap:=h',gens:=g',drawn:=d',toks:=t' }:=by
 have neL:∀b o,X.s₀.heap.get? b=some o->b≠X.env.locals:=fun b o e=>Yt (Ym (Yw e) I.ok.above);have neC:∀b o,X.s₀.heap.get? b=some o->b∉X.ex->b∉ch:=fun b o e hx hb=>by
  rcases (hch b hb).1 with z | z
  . exact hx z
  . exact absurd (Ym (Yw e) z) (Y5 _)
 have cellK:∀x c,X.env.cells.lookup x=some c->∀v,s.heap.IsCell c v->h'.IsCell c v:=fun x c e v ⟨o,ho,hd⟩=>by
  have nch:c∉ch:=fun z=>(hch c z).2.2.1 x c e rfl;by_cases hc:c∈X.fs
  . obtain ⟨sl,q⟩:=slot c o (I.cne x c e) hc nch ho (I.freeC x c e);exact ⟨_,q,hd⟩
  . exact ⟨o,keep c o (I.cne x c e) hc nch ho (I.freeC x c e),hd⟩
 refine ⟨I.ok,I.os,hg,⟨fun b o e n hb hx=>?_,fun b o e n hb hx=>?_,fun b o e n hx=>?_,fun b o e hx=>?_,fun b xs e=>tups b xs (I.base.tups b xs e),fun b o xs e=>frzs b o xs (I.base.frzs b o xs e),fun b ps e=>?_⟩,?_,fun x c e=>?_,?_,fun x c e=>?_,fun p hp=>?_,hok,I.len⟩
 . exact keep b o (neL b o e) hb (neC b o e hx) (I.base.keep b o e n hb hx) (I.base.free b o e n hx)
 . obtain ⟨sl,e1⟩:=I.base.slot b o e n hb hx;obtain ⟨sl',e2⟩:=slot b _ (neL b o e) hb (neC b o e hx) e1 (I.base.free b o e n hx);exact ⟨sl',e2⟩
 . obtain ⟨o',e1⟩:=I.base.there b o e hx;exact free b o' (neC b o e hx) e1 (I.base.free b o e n hx)
 . obtain ⟨o',e1⟩:=I.base.there b o e hx;exact there b o' (neC b o e hx) e1
 . obtain ⟨m1,e1⟩:=I.base.tbls b ps e;obtain ⟨m2,e2⟩:=tbls b _ e1;exact ⟨m1++m2,by rw [e2,Array.append_assoc]⟩
 . obtain ⟨m,hn,hl⟩:=I.loc;refine ⟨m,ns m hn,fun i x v e1 e2 e3=>?_⟩;obtain ⟨u,r,l⟩:=hl i x v e1 e2 e3;refine ⟨u,r,?_⟩;rcases l with l | ⟨k,c,e,z⟩
   . exact .inl l
   . exact .inr ⟨k,c,e,cellK x c e _ z⟩
 . obtain ⟨v,z⟩:=I.cell x c e;exact ⟨v,cellK x c e v z⟩
 . obtain ⟨m,⟨o,_,_,ho,_⟩,_⟩:=I.loc;exact free _ o (fun z=>(hch _ z).2.1 rfl) ho I.free
 . obtain ⟨v,o,ho,hd⟩:=I.cell x c e;exact free c o (fun z=>(hch c z).2.2.1 x c e rfl) ho (I.freeC x c e)
 . obtain ⟨e,n,ne,nf,d⟩:=I.pin p hp;have nch:p.1∉ch:=fun z=>(hch p.1 z).2.2.2 p hp rfl;exact ⟨keep p.1 p.2 ne nf nch e n,free p.1 p.2 nch e n,ne,nf,d⟩
theorem Inv.un {t':Nat} (I:Inv X tf σ H s) (u:Un X.fs [] H H' s.heap h') (hok:HOk X.prog X.w H' h'):Inv X tf σ H' { s with heap:=h',toks:=t' }:=by
 obtain ⟨m,⟨o,es,ep,ho,r⟩,_⟩:=id I.loc;obtain ⟨sl,hL⟩:=u.any ho I.free (by simp);exact I.step (g':=s.gens) (d':=s.drawn) (ch:=[]) (fun _ z=>nomatch z) (fun b o _ hb _ e n=>u.keep b o e n hb (by simp)) (fun b o _ hb _ e n=>u.slot b o e n hb (by simp)) (fun b o _ e n=>u.free b o e n (by simp)) (fun b o _ e=>u.there b o e (by simp)) u.tups u.frzs u.tbls (fun m' hm=>by obtain ⟨o',es',ep',ho',r'⟩:=hm;rw [ho] at ho';cases ho';exact ⟨_,es',ep',hL,r'⟩) hok I.bare
theorem Inv.call {g':Array GenState} {t':Nat} {d':Drawn} {ch:List Addr} (I:Inv X tf σ H s) (u:Un (frs X.stack) ch H H' s.heap h') (hok:HOk X.prog X.w H' h') (hg:AllBare g')
 (hch:∀b∈ch,(b∈X.ex\/X.s₀.heap.objs.size<=b)/\b≠X.env.locals/\(∀x c,X.env.cells.lookup x=some c->c≠b)/\∀p∈X.pn++tf,p.1≠b) :
 Inv X tf σ H' { s with heap:=h',gens:=g',drawn:=d',toks:=t' }:=by
 obtain ⟨m,⟨o,es,ep,ho,r⟩,_⟩:=id I.loc;obtain ⟨sl,hL⟩:=u.any ho I.free fun z=>(hch _ z).2.1 rfl;exact I.step (ch:=ch) hch (fun b o hL hb hc e n=>u.keep b o e n (fun z=>(Yq.mp (I.stkSub b z)).elim hL hb) hc) (fun b o _ _ hc e n=>u.any e n hc) (fun b o hc e n=>u.free b o e n hc) (fun b o hc e=>u.there b o e hc) u.tups u.frzs u.tbls (fun m' hm=>by obtain ⟨o',es',ep',ho',r'⟩:=hm;rw [ho] at ho';cases ho';exact ⟨_,es',ep',hL,r'⟩) hok hg
theorem Inv.turned {t':Nat} {it:Addr} (I:Inv X tf σ H s) (k:∀b o,b≠it->s.heap.get? b=some o->h'.get? b=some o) (hn:H it=none) (hL:it≠X.env.locals)
 (h1:it∈X.ex\/X.s₀.heap.objs.size<=it) (h2:∀x c,X.env.cells.lookup x=some c->c≠it) (h3:∀p∈X.pn++tf,p.1≠it):Inv X tf σ H { s with heap:=h',toks:=t' }:=by
 have nit:∀b u,H b=some u->b≠it:=fun b u e z=>by rw [z,hn] at e;cases e
 refine I.step (g':=s.gens) (d':=s.drawn) (ch:=[it]) (fun b hb=>?_) (fun b o _ _ hc e _=>k b o (fun z=>hc (by simp [z])) e) (fun b o _ _ hc e _=>⟨o.slots,k b o (fun z=>hc (by simp [z])) e⟩) (fun _ _ _ _ n=>n)
  (fun b o hc e=>⟨o,k b o (fun z=>hc (by simp [z])) e⟩) (fun _ _ e=>e) (fun _ _ _ e=>e) (fun b ps e=>⟨#[],by rw [e];simp⟩) (fun m hm=>?_) (fun b u e=>?_) I.bare
 . have e:b=it:=by simpa using hb
   subst e;exact ⟨h1,hL,h2,h3⟩
 . obtain ⟨o,es,ep,ho,r⟩:=hm;exact ⟨o,es,ep,k _ o (Ne.symm hL) ho,r⟩
 . refine (I.hok b u e).stay (fun c v hc q=>k c v ?_ q) (fun _ q=>q) fun _ _ q=>q;rcases hc with z | z
   . rw [z];exact nit b u e
   . exact nit c _ z
theorem Inv.tok (I:Inv X tf σ H s) (t:Nat):Inv X tf σ H { s with toks:=t }:=I.un (h':=s.heap) (t':=t) Un.refl I.hok
theorem Inv.kept {t':Nat} (I:Inv X tf σ H s) (k:∀b u,s.heap.get? b=some u->h'.get? b=some u):Inv X tf σ H { s with heap:=h',toks:=t' }:=I.un (Un.kept k) (I.hok.kept k)
theorem Inv.laid {a:Addr} {o:HO} {t':Nat} (I:Inv X tf σ H s) (k:∀b u,s.heap.get? b=some u->h'.get? b=some u) (hp:s.heap.objs.size<=a) (new:ObjOk X.prog X.w (upd H a o) h' a o) :
 Inv X tf σ (upd H a o) { s with heap:=h',toks:=t' }:=I.un (Un.laid k hp (I.hok.fresh hp)) (I.hok.laid k hp new)
theorem Inv.write {x e:Addr} {o:HO} {t':Nat} (I:Inv X tf σ H s) (mu:Mut (H x)) (he:e=x\/H e=some (.own x)) (k:∀b u,b≠e->s.heap.get? b=some u->h'.get? b=some u) (heo:∃u,h'.get? e=some u)
 (new:ObjOk X.prog X.w (upd H x o) h' x o):Inv X tf σ (upd H x o) { s with heap:=h',toks:=t' }:=I.un (Un.write mu he k heo) (I.hok.write mu he k heo new)
theorem Inv.weak {σ':List (Option V)} (I:Inv X tf σ H s) (hl:σ'.length=σ.length) (w:∀(i:Nat) v,σ'[i]?=some (some v)->σ[i]?=some (some v)):Inv X tf σ' H s:=⟨I.ok,I.os,I.bare,I.base,let ⟨m,hn,hl'⟩:=I.loc;⟨m,hn,fun i x v e1 e2 e3=>hl' i x v e1 (w i v e2) e3⟩,I.cell,I.free,I.freeC,I.pin,I.hok,hl.trans I.len⟩
theorem Inv.pins_of {pins':List (Addr×Obj)} (I:Inv X tf σ H s) (h:∀p∈pins',s.heap.get? p.1=some p.2/\H p.1=none/\p.1≠X.env.locals/\p.1∉X.fs/\∀v,p.2.data≠.cell v):Inv X pins' σ H s:=⟨I.ok,I.os,I.bare,I.base,I.loc,I.cell,I.free,I.freeC,fun p hp=>(Y7.mp hp).elim (fun z=>I.pin p (Y9 _ z)) (h p),I.hok,I.len⟩
theorem Qq {N:List Str} (hN:N.Nodup) {i j:Nat} {x:Str} (a:N[i]?=some x) (b:N[j]?=some x):i=j:=by obtain ⟨h1,e1⟩:=Yh.mp a;obtain ⟨h2,e2⟩:=Yh.mp b;exact (List.getElem_inj hN).mp (e1.trans e2.symm)
theorem jdU {M:Model} {A:Around} {E:Value->Shared->Prop} {i:Nat} {x:Str} {v:V} {u:Value} {Q:Unit->Shared->Prop} (I:Inv X tf σ H s) (hN:X.N.Nodup) (hi:X.N[i]?=some x) (hx:Loc X.env.scope x) (r:RelV v u)
 (h:∀s',Inv X tf (σ.set i (some v)) H s'->(∃a,Heap.SameBut a s.heap s'.heap/\(a=X.env.locals\/X.env.cells.lookup x=some a))->Q () s') (hf:autoParam ‹"N"› QA.a0._auto_1):wpAny M A (storeName X.env x u) Q E s:=by
 obtain ⟨m,hn,hl⟩:=id I.loc;have hcls:(X.env.scope.kind == .class || (X.env.scope.kind == .module && X.env.locals != X.env.globals))=false:=by rw [I.ok.kind];rfl
 have hiσ:i<σ.length:=by rw [I.len];exact (Yh.mp hi).1
 have cne:=I.cne;have tracked:∀{a:Addr} {h':Heap},(∃o,s.heap.get? a=some o/\H a=none)->Heap.SameBut a s.heap h'->HOk X.prog X.w H h':=fun {a h'} ha hs b ob e=>by
  obtain ⟨_,_,hfree⟩:=ha;refine (I.hok b ob e).stay (fun c w' hc q=>(hs.2 c ?_).trans q) (fun _ q=>q) fun _ _ q=>q;rintro rfl;rcases hc with rfl | hc
  . rw [hfree] at e;cases e
  . rw [hfree] at hc;cases hc
 rcases hx with hk | hk
 . refine wpAny_storeName_local hk hn (fun h' hn' hs=>?_) hcls;obtain ⟨oL,_,_,hoL,_⟩:=id hn;refine h _ ⟨I.ok,I.os,I.bare,⟨fun b o e n hb hx=>?_,fun b o e n hb hx=>?_,I.base.free,fun b o e hx=>?_,I.base.tups,I.base.frzs,I.base.tbls⟩,⟨_,hn',fun j y v' e1 e2 e3=>?_⟩,fun y c e=>?_,I.free,I.freeC,fun p hp=>?_,tracked ⟨oL,hoL,I.free⟩ hs,by simpa using I.len⟩ ⟨_,hs,.inl rfl⟩
   . exact (hs.2 b (Yt (Ym (Yw e) I.ok.above))).trans (I.base.keep b o e n hb hx)
   . obtain ⟨sl,e1⟩:=I.base.slot b o e n hb hx;exact ⟨sl,(hs.2 b (Yt (Ym (Yw e) I.ok.above))).trans e1⟩
   . obtain ⟨o',e1⟩:=I.base.there b o e hx;exact ⟨o',(hs.2 b (Yt (Ym (Yw e) I.ok.above))).trans e1⟩
   . by_cases hj:j=i
     . subst hj;rw [hi] at e1;cases e1;rw [Y1 hiσ] at e2;cases e2;exact ⟨u,r,.inl ⟨hk,by simp⟩⟩
     . rw [YQ (Ne.symm hj)] at e2;obtain ⟨u',r',q⟩:=hl j y v' e1 e2 e3;refine ⟨u',r',?_⟩;rcases q with ⟨k,e⟩ | ⟨k,c,e,z⟩
       . refine .inl ⟨k,?_⟩;have:y≠x:=fun e=>hj (Qq hN e1 (e ▸ hi));simp [this,e]
       . exact .inr ⟨k,c,e,z.sameBut hs (cne y c e)⟩
   . obtain ⟨w',z⟩:=I.cell y c e;exact ⟨w',z.sameBut hs (cne y c e)⟩
   . obtain ⟨e,n,ne,nf,d⟩:=I.pin p hp;exact ⟨(hs.2 p.1 ne).trans e,n,ne,nf,d⟩
 . have hfn:X.fn x=true:=by
    rcases hf with z | z
    . exact z
    . rw [z] at hk;cases hk
   obtain ⟨c,hc⟩:=I.ok.has x (.inl hk);obtain ⟨w',z⟩:=I.cell x c hc;refine wpAny_storeName_cell I.ok.kind hk hc z (fun h' hc' hs=>?_);obtain ⟨oc,hoc,hocd⟩:=id z;refine h { s with heap:=h' } ⟨I.ok,I.os,I.bare,⟨fun b o e n hb hx=>?_,fun b o e n hb hx=>?_,I.base.free,fun b o e hx=>?_,I.base.tups,I.base.frzs,I.base.tbls⟩,⟨m,hn.sameBut hs (Ne.symm (cne x c hc)),fun j y v' e1 e2 e3=>?_⟩,fun y c' e=>?_,I.free,I.freeC,fun p hp=>?_,tracked ⟨oc,hoc,I.freeC x c hc⟩ hs,by simpa using I.len⟩ ⟨c,hs,.inr hc⟩
   . exact (hs.2 b (Yt (Ym (Yw e) (I.ok.cab x c hfn hc)))).trans (I.base.keep b o e n hb hx)
   . obtain ⟨sl,e1⟩:=I.base.slot b o e n hb hx;exact ⟨sl,(hs.2 b (Yt (Ym (Yw e) (I.ok.cab x c hfn hc)))).trans e1⟩
   . obtain ⟨o',e1⟩:=I.base.there b o e hx;exact ⟨o',(hs.2 b (Yt (Ym (Yw e) (I.ok.cab x c hfn hc)))).trans e1⟩
   . by_cases hj:j=i
     . subst hj;rw [hi] at e1;cases e1;rw [Y1 hiσ] at e2;cases e2;exact ⟨u,r,.inr ⟨.inl hk,c,hc,hc'⟩⟩
     . rw [YQ (Ne.symm hj)] at e2;obtain ⟨u',r',q⟩:=hl j y v' e1 e2 e3;refine ⟨u',r',?_⟩;rcases q with q | ⟨k,c',e,z'⟩
       . exact .inl q
       . refine .inr ⟨k,c',e,z'.sameBut hs ?_⟩;rintro rfl;exact hj (Qq hN e1 (I.ok.inj _ _ _ e hc ▸ hi))
   . by_cases hcc:c'=c
     . subst hcc;exact ⟨_,hc'⟩
     . obtain ⟨w2,z2⟩:=I.cell y c' e;exact ⟨w2,z2.sameBut hs hcc⟩
   . obtain ⟨e,n,ne,nf,d⟩:=I.pin p hp;refine ⟨(hs.2 p.1 ?_).trans e,n,ne,nf,d⟩;intro q;rw [q,hoc] at e;have q':oc=p.2:=Option.some.inj e;exact d w' (by rw [<-q'];exact hocd)
theorem jcG {M:Model} {A:Around} {E:Value->Shared->Prop} {i:Nat} {x:Str} {v:V} {u:Value} {Q:Unit->Shared->Prop} (I:Inv X tf σ H s) (hN:X.N.Nodup) (hi:X.N[i]?=some x) (hx:Loc X.env.scope x) (r:RelV v u)
 (h:∀s',Inv X tf (σ.set i (some v)) H s'->Q () s') (hf:autoParam ‹"N"› QA.a0._auto_1):wpAny M A (storeName X.env x u) Q E s:=
 jdU I hN hi hx r (fun s' I' _=>h s' I') hf
theorem Inv.call' {s':Shared} {ch:List Addr} (I:Inv X tf σ H s) (ho:s'.os=s.os) (u:Un (frs X.stack) ch H H' s.heap s'.heap) (hok:HOk X.prog X.w H' s'.heap) (hg:AllBare s'.gens)
 (hch:∀b∈ch,(b∈X.ex\/X.s₀.heap.objs.size<=b)/\b≠X.env.locals/\(∀x c,X.env.cells.lookup x=some c->c≠b)/\∀p∈X.pn++tf,p.1≠b):Inv X tf σ H' s':=by
 obtain ⟨h',g',d',t',o'⟩:=s';have e:o'=s.os:=ho;subst e;exact I.call (g':=g') (t':=t') (d':=d') u hok hg hch
end
abbrev XK:=Value->Option Addr->Hp->Prop
abbrev St:=List (Option V)
abbrev VK:=V->Hp->Prop
abbrev TE:=St->Hp->VK->Prop
abbrev TT:=St->Hp->(Bool->Hp->Prop)->Prop
abbrev TA:=St->Hp->(List V->Hp->Prop)->Prop
structure Ends where
 nx:St->Hp->Prop
 rt:VK
 bk:St->Hp->Prop:=fun _ _=>False
 ct:St->Hp->Prop:=fun _ _=>False
abbrev TS:=Ends->St->Hp->Prop
def EP (X:Cx) (tf:List (Addr×Obj)) (σ:St) (Q:VK) (u:Value) (s':Shared):Prop:=∃v H',Inv X tf σ H' s'/\RelV v u/\Q v H'
def TP (X:Cx) (tf:List (Addr×Obj)) (σ:St) (Q:Bool->Hp->Prop) (b:Bool) (s':Shared):Prop:=∃H',Inv X tf σ H' s'/\Q b H'
def AP (X:Cx) (tf:List (Addr×Obj)) (σ:St) (Q:List V->Hp->Prop) (us:List Value) (s':Shared):Prop:=∃vs H',Inv X tf σ H' s'/\Vals vs us/\Q vs H'
def SP (X:Cx) (tf:List (Addr×Obj)) (D:Ends) (f:Flow) (s':Shared):Prop:=
 match f with
 | .next=>∃σ' H',Inv X tf σ' H' s'/\D.nx σ' H'
 | .brk=>∃σ' H',Inv X tf σ' H' s'/\D.bk σ' H'
 | .cont=>∃σ' H',Inv X tf σ' H' s'/\D.ct σ' H'
 | .ret u=>∃v σ' H',Inv X tf σ' H' s'/\RelV v u/\D.rt v H'
def PE (X:Cx) (e:Expr) (t:TE):Prop:=∀(tf:List (Addr×Obj)) (s:Shared) (σ:St) (H:Hp) (Q:VK),Inv X tf σ H s->t σ H Q->wpAny ‹"h"› X.A (eval e X.env) (EP X tf σ Q) X.xe s
def PT (X:Cx) (e:Expr) (t:TT):Prop:=∀(tf:List (Addr×Obj)) (s:Shared) (σ:St) (H:Hp) (Q:Bool->Hp->Prop),Inv X tf σ H s->t σ H Q->wpAny ‹"h"› X.A (isTrue e X.env (eval e X.env)) (TP X tf σ Q) X.xe s
def PW (X:Cx) (e:Expr) (t:TT):Prop:=∀(whole:Sem Value) (tf:List (Addr×Obj)) (s:Shared) (σ:St) (H:Hp) (Q:Bool->Hp->Prop),Inv X tf σ H s->t σ H Q->wpAny ‹"h"› X.A (isTrue e X.env whole) (TP X tf σ Q) X.xe s
theorem PW.pt {X:Cx} {e:Expr} {t:TT} (h:PW X e t):PT X e t:=h _
def PA (X:Cx) (es:List Expr) (t:TA):Prop:=∀(pos:Pos) (tf:List (Addr×Obj)) (s:Shared) (σ:St) (H:Hp) (Q:List V->Hp->Prop),Inv X tf σ H s->t σ H Q->wpAny ‹"h"› X.A (spliced (backTo pos (starEach es X.env))) (AP X tf σ Q) X.xe s
def PS (X:Cx) (st:Stmt) (t:TS):Prop:=∀(tf:List (Addr×Obj)) (s:Shared) (σ:St) (H:Hp) (D:Ends),Inv X tf σ H s->t D σ H->wpAny ‹"h"› X.A (exec st X.env) (SP X tf D) X.xe s
def PSs (X:Cx) (st:List Stmt) (t:TS):Prop:=∀(tf:List (Addr×Obj)) (s:Shared) (σ:St) (H:Hp) (D:Ends),Inv X tf σ H s->t D σ H->wpAny ‹"h"› X.A (execs st X.env) (SP X tf D) X.xe s
theorem qD {α:Type} {t:Sem α} {Q Q':α->Shared->Prop} {M:Model} {A:Around} {E:Value->Shared->Prop} {s:Shared} (h:wpAny M A t Q E s) (hQ:∀a s,Q a s->Q' a s):wpAny M A t Q' E s:=yr h hQ fun _ _ x=>x
end L2
namespace L2
open PySem PySem.Spec PyProof.Rows
section
variable {X:Cx}
theorem bin {a b:Expr} {ta tb:TE} (ha:PE X a ta) (hb:PE X b tb) {tf:List (Addr×Obj)} {s:Shared} {σ:St} {H:Hp} {R:V->V->Hp->Prop} (I:Inv X tf σ H s) (h:ta σ H fun x H1=>tb σ H1 fun y H2=>R x y H2)
 {α:Type} {Q:α->Shared->Prop} {f:Value->Value->Sem α}
 (hf:∀v u s2 x y H2,Inv X tf σ H2 s2->RelV x v->RelV y u->R x y H2->wpAny ‹"h"› X.A (f v u) Q X.xe s2) :
 wpAny ‹"h"› X.A (eval a X.env) ‹"a7"› X.xe s:=by
 refine qD ‹"ac"› fun v s1 zz=>?_;obtain ⟨x,H1,I1,r1,q1⟩:=zz;refine qD (hb tf s1 σ H1 _ I1 q1) fun u s2 zz=>?_;obtain ⟨y,H2,I2,r2,q2⟩:=zz;exact hf v u s2 x y H2 I2 r1 r2 q2
def jeg (i:Nat):TE:=fun σ H Q=>∃v,σ[i]?=some (some v)/\Q v H
def tC (v:V):TE:=fun _ H Q=>Q v H
theorem Zr {i:Nat} {x:Str} {pos:Pos} (hN:X.N[i]?=some x) (hv:Vis X.env.scope x) (hd:‹"q"›=false:=by decide) (hcd:(x == ("__classdict__":Str))=false:=by decide):PE X (.Name x pos) (jeg i):=by
 intro tf s σ H Q I h;obtain ⟨v,e,h⟩:=h;obtain ⟨m,hn,hl⟩:=I.loc;obtain ⟨u,r,l⟩:=hl i x v hN e hv;have fin:EP X tf σ Q u s:=⟨v,H,I,r,h⟩;rcases l with ⟨hk,hm⟩ | ⟨hk,c,hc,hcell⟩
 . exact wpAny_Name (wpAny_loadName_local I.ok.kind hk hn hm fin) hd
 . rcases hk with hk | hk
   . exact wpAny_Name (wpAny_loadName_cell I.ok.kind hk hc hcell fin) hd
   . exact wpAny_Name (wpAny_loadName_free I.ok.kind hk hc hcell fin hcd) hd
theorem jn5 {i j pos}:PE X (.Constant (.int i) j pos) (tC (.int i)):=fun _ _ _ H _ I h=>wpAny_Constant_int ⟨.int i,H,I.tok _,⟨_,rfl⟩,h⟩
theorem jpx {b j pos}:PE X (.Constant (.bool b) j pos) (tC (.bl b)):=fun _ _ _ H _ I h=>Constant_bool ⟨.bl b,H,I,rfl,h⟩
theorem jpc {j pos}:PE X (.Constant .none j pos) (tC .non):=fun _ _ _ H _ I h=>Constant_none ⟨.non,H,I,rfl,h⟩
def Gl (X:Cx) (x:Str):Prop:=X.env.kindOf x=some .globalImplicit
theorem jhw {E:Value->Shared->Prop} {tf:List (Addr×Obj)} {s:Shared} {σ:St} {H:Hp} {x:Str} {u:Value} {pos:Pos} {Q:Value->Shared->Prop} (I:Inv X tf σ H s) (hg:Gl X x) (hm:X.mg x=some u) (h:Q u s)
 (hd:‹"q"›=false:=by decide):wpAny ‹"h"› X.A (eval (.Name x pos) X.env) Q E s:=
 Calls.Name_function_global I.ok.kind hg (Calls.loadGlobal_global (by rw [I.ok.glob];exact I.mod.glob.keeps I.bk) hm h) hd
theorem Qh {E:Value->Shared->Prop} {tf:List (Addr×Obj)} {s:Shared} {σ:St} {H:Hp} {x:Str} {u:Value} {pos:Pos} {Q:Value->Shared->Prop} (I:Inv X tf σ H s) (hg:Gl X x) (hm:X.mg x=none) (hv:bootBuiltins x=some u) (h:Q u s)
 (hn:x ≠ "__name__":=by decide) (hd:‹"q"›=false:=by decide):wpAny ‹"h"› X.A (eval (.Name x pos) X.env) Q E s:=by
 obtain ⟨mb,h1,h2⟩:=I.mod.blt;exact Calls.Name_function_global I.ok.kind hg (Calls.loadGlobal_builtin (by rw [I.ok.glob];exact I.mod.glob.keeps I.bk) hm (by rw [I.ok.blt];exact h1.keeps I.bk) ((h2 x hn).trans hv) h) hd
theorem jlP {x:Str} {v:V} {u:Value} {pos:Pos} (hg:Gl X x) (hm:X.mg x=some u) (r:RelV v u) (hd:‹"q"›=false:=by decide):PE X (.Name x pos) (tC v):=fun _ _ _ H _ I h=>jhw I hg hm ⟨v,H,I,r,h⟩ hd
theorem jlM {x:Str} {v:V} {u:Value} {pos:Pos} (hg:Gl X x) (hm:X.mg x=none) (hv:bootBuiltins x=some u) (r:RelV v u) (hn:x ≠ "__name__":=by decide) (hd:‹"q"›=false:=by decide):PE X (.Name x pos) (tC v):=fun _ _ _ H _ I h=>Qh I hg hm hv ⟨v,H,I,r,h⟩ hn hd
variable {a b:Expr} {ta tb:TE} {pos:Pos}
def PC (X:Cx) (op:CmpOp) (a b:Expr) (t:TE):Prop:=
 ∀(tf:List (Addr×Obj)) (s:Shared) (σ:St) (H:Hp) (Q:VK),Inv X tf σ H s->t σ H Q->
   wpAny ‹"h"› X.A (eval a X.env) (fun v s₁=>wpAny ‹"h"› X.A (eval b X.env) (fun u s₂=>wpAny ‹"h"› X.A (compareOp op v u) (EP X tf σ Q) X.xe s₂) X.xe s₁) X.xe s
theorem nobehind (b:Expr) {op:CmpOp} (h:op≠.In) (h2:op≠.NotIn):behindInMarks op b=false:=by
 have e1:(op == CmpOp.In)=false:=by cases op <;> first | rfl | exact absurd rfl h
 have e2:(op == CmpOp.NotIn)=false:=by cases op <;> first | rfl | exact absurd rfl h2
 cases b <;> simp [behindInMarks,e1,e2]
def jqh (ta:TE):TE:=fun σ H Q=>ta σ H fun x H1=>Q (.bl (decide (x=.non))) H1
def jmY (ta:TE):TE:=fun σ H Q=>ta σ H fun x H1=>Q (.bl (!decide (x=.non))) H1
theorem RelV.none_iff {x:V} {v:Value} (r:RelV x v):(v == Value.none)=decide (x=.non):=by
 cases x with
 | non=>cases r;rfl
 | bl _=>cases r;rfl
 | int _=>obtain ⟨t,rfl⟩:=r;rfl
 | str _=>obtain ⟨t,rfl⟩:=r;rfl
 | byt _=>obtain ⟨t,rfl⟩:=r;rfl
 | flt _=>obtain ⟨t,rfl⟩:=r;rfl
 | ref _=>cases r;rfl
 | ty _=>cases r;rfl
theorem jo8 {j pos'} (ha:PE X a ta):PC X .Is a (.Constant .none j pos') (jqh ta):=by intro tf s σ H Q I h;refine qD ‹"ac"› fun v s1 zz=>?_;obtain ⟨x,H1,I1,r1,q1⟩:=zz;exact Constant_none (is_none_gen ⟨.bl _,H1,I1,by rw [r1.none_iff];rfl,q1⟩)
theorem jlD {j pos'} (ha:PE X a ta):PC X .IsNot a (.Constant .none j pos') (jmY ta):=by intro tf s σ H Q I h;refine qD ‹"ac"› fun v s1 zz=>?_;obtain ⟨x,H1,I1,r1,q1⟩:=zz;exact Constant_none (isnot_none_gen ⟨.bl _,H1,I1,by rw [r1.none_iff];rfl,q1⟩)
def tB (t:TE):TT:=fun σ H Q=>t σ H fun x H1=>∃c,x=.bl c/\Q c H1
theorem jjN {op:CmpOp} {t:TE} (h:PC X op a b t) (h1:autoParam (behindInMarks op b=false) QA.a2._auto_1):PT X (.Compare a [op] [b] pos) (tB t):=by intro tf s σ H Q I hw;refine wpAny_isTrue_Compare1 (qD (h tf s σ H _ I hw) fun v s1 h1=>qD h1 fun u s2 h2=>qD h2 fun c s3 zz=>?_) h1;obtain ⟨x,H1,I1,r1,q1⟩:=zz;obtain ⟨d,rfl,q⟩:=q1;cases r1;exact yN ⟨H1,I1,q⟩
theorem jnz {e:Expr} {t:TE} (h:PE X e t) (he:∀whole,isTrue e X.env whole=(do let v <- whole;standAt e.pos;holding [v] (truthy v)):=by intro _;rfl):PT X e (tB t):=by intro tf s σ H Q I hw;refine isTrue_plain (qD (h tf s σ H _ I hw) fun v s1 zz=>?_) (he _);obtain ⟨x,H1,I1,r1,q1⟩:=zz;obtain ⟨d,rfl,q⟩:=q1;cases r1;exact yN ⟨H1,I1,q⟩
variable {tA tB':TT} {jda:List Expr}
def jqS (t u:TT):TT:=fun σ H Q=>t σ H fun c H1=>if c=true then u σ H1 Q else Q false H1
def tOr (t u:TT):TT:=fun σ H Q=>t σ H fun c H1=>if c=true then Q true H1 else u σ H1 Q
def jpM (t:TT):TT:=fun σ H Q=>t σ H fun c H1=>Q (!c) H1
theorem jma (ha:PT X a tA):PW X (.BoolOp .And [a] pos) tA:=by
 intro wh tf s σ H Q I h;refine isTrue_and (qD (ha tf s σ H Q I h) fun c s1 e=>?_);cases c with
 | true=>exact isTrue_and_nil e
 | false=>exact e
theorem joR (ha:PT X a tA):PW X (.BoolOp .Or [a] pos) tA:=by
 intro wh tf s σ H Q I h;refine isTrue_or (qD (ha tf s σ H Q I h) fun c s1 e=>?_);cases c with
 | false=>exact isTrue_or_nil e
 | true=>exact e
theorem jnN (ha:PT X a tA) (hb:PW X (.BoolOp .And (b::jda) pos) tB'):PW X (.BoolOp .And (a::b::jda) pos) (jqS tA tB'):=by
 intro wh tf s σ H Q I h;refine isTrue_and (qD ‹"ac"› fun c s1 zz=>?_);obtain ⟨H1,I1,q1⟩:=zz;cases c with
 | true=>exact hb wh tf s1 σ H1 Q I1 q1
 | false=>exact ⟨H1,I1,q1⟩
theorem jqG (ha:PT X a tA) (hb:PW X (.BoolOp .Or (b::jda) pos) tB'):PW X (.BoolOp .Or (a::b::jda) pos) (tOr tA tB'):=by
 intro wh tf s σ H Q I h;refine isTrue_or (qD ‹"ac"› fun c s1 zz=>?_);obtain ⟨H1,I1,q1⟩:=zz;cases c with
 | true=>exact ⟨H1,I1,q1⟩
 | false=>exact hb wh tf s1 σ H1 Q I1 q1
theorem jon (ha:PT X a tA):PT X (.UnaryOp .Not a pos) (jpM tA):=by intro tf s σ H Q I h;exact isTrue_not (ha tf s σ H (fun c H1=>Q (!c) H1) I h)
def jm5 (ta tb:TE):TE:=fun σ H Q=>ta σ H fun x H1=>∃c,x=.bl c/\if c=true then tb σ H1 Q else Q (.bl false) H1
def jmE (ta:TE):TE:=fun σ H Q=>ta σ H fun x H1=>∃c,x=.bl c/\Q (.bl (!c)) H1
theorem jn3 {op} {t:TE} (h:PE X a t):PE X (.BoolOp op [a] pos) t:=fun tf s σ H Q I hw=>BoolOp_one (h tf s σ H Q I hw)
theorem jno (ha:PE X a ta) (hb:PE X (.BoolOp .And (b::jda) pos) tb):PE X (.BoolOp .And (a::b::jda) pos) (jm5 ta tb):=by
 intro tf s σ H Q I h;refine BoolOp_and (qD ‹"ac"› fun v s1 zz=>?_);obtain ⟨x,H1,I1,r1,q1⟩:=zz;obtain ⟨c,rfl,q1⟩:=q1;cases r1;refine yN ?_;cases c with
 | true=>exact hb tf s1 σ H1 Q I1 q1
 | false=>exact ⟨.bl false,H1,I1,rfl,q1⟩
theorem jnL (ha:PE X a ta):PE X (.UnaryOp .Not a pos) (jmE ta):=by intro tf s σ H Q I h;refine UnaryOp_ (qD ‹"ac"› fun v s1 zz=>?_);obtain ⟨x,H1,I1,r1,q1⟩:=zz;obtain ⟨c,rfl,q1⟩:=q1;cases r1;exact not_of (yN ⟨.bl (!c),H1,I1,rfl,q1⟩)
def tIf (t:TT) (ta tb:TE):TE:=fun σ H Q=>t σ H fun c H1=>if c=true then ta σ H1 Q else tb σ H1 Q
theorem jjH {c:Expr} (hc:PT X c tA) (ha:PE X a ta) (hb:PE X b tb):PE X (.IfExp c a b pos) (tIf tA ta tb):=by
 intro tf s σ H Q I h;refine wpAny_IfExp (qD (hc tf s σ H _ I h) fun d s1 zz=>?_);obtain ⟨H1,I1,q1⟩:=zz;cases d with
 | true=>exact ha tf s1 σ H1 Q I1 q1
 | false=>exact hb tf s1 σ H1 Q I1 q1
end
end L2
namespace L2
open PySem PySem.Spec PyProof.Rows
def Jn (K:PySem.W.Frag) (H:Hp) (a:Addr) (xs:List V):Prop:=
 Rd H a (.lst xs) \/
   ∃(o:Obj) (tu:Array Value) (n:Nat),K.lookup a=some o ∧ o.cls=.type "list" ∧ o.dict=none ∧ o.data=.seq tu n ∧ tu.size ≤ sizeLine ∧ Vals xs tu.toList
def SqT (K:PySem.W.Frag) (H:Hp) (a:Addr) (xs:List V):Prop:=
 Rd H a (.tup xs) \/
   ∃(o:Obj) (tu:Array Value) (n:Nat),K.lookup a=some o ∧ o.cls=.type "tuple" ∧ o.data=.seq tu n ∧ tu.size ≤ sizeLine ∧ Vals xs tu.toList
def jrH:Value->Option V
 | .none=>some .non
 | .bool b=>some (.bl b)
 | .int i _=>some (.int i)
 | .str x _=>some (.str x)
 | .bytes b _=>some (.byt b)
 | .float b _=>some (.flt b)
 | .ref a=>some (.ref a)
 | .type n=>some (.ty n)
 | _=>none
theorem RelV.abs {x:V} {u:Value} (r:RelV x u):jrH u=some x:=by
 cases x with
 | non=>cases r;rfl
 | bl _=>cases r;rfl
 | int _=>obtain ⟨t,rfl⟩:=r;rfl
 | str _=>obtain ⟨t,rfl⟩:=r;rfl
 | byt _=>obtain ⟨t,rfl⟩:=r;rfl
 | flt _=>obtain ⟨t,rfl⟩:=r;rfl
 | ref _=>cases r;rfl
 | ty _=>cases r;rfl
theorem RelV.inj {x y:V} {u:Value} (r:RelV x u) (q:RelV y u):x=y:=Option.some.inj (r.abs.symm.trans q.abs)
theorem Vals.inj:∀{xs ys:List V} {us:List Value},Vals xs us->Vals ys us->xs=ys:=fun {xs ys us} h=>by
 induction h generalizing ys with
 | nil=>intro h;cases h;rfl
 | cons r _ ih=>intro h;cases h with | cons q t=>rw [r.inj q,ih t]
section
variable {X:Cx} {tf:List (Addr×Obj)} {σ:St} {H:Hp} {s:Shared} {a:Addr} {xs ys:List V}
theorem SqT.of {K:PySem.W.Frag} (h:H a=some (.tup xs)):SqT K H a xs:=.inl (.inl h)
theorem Inv.list (I:Inv X tf σ H s) (h:Jn X.K H a xs):∃tu:List Value,Vals xs tu/\PlainL s.heap a tu.toArray/\xs.length<=sizeLine:=by
 rcases h with h | ⟨o,tu,n,hk,hc,hd,hs,hz,r⟩
 . obtain ⟨z,tu,n,r,e⟩:=h.ok I.hok;exact ⟨tu,r,⟨_,n,e,rfl,rfl,rfl⟩,z⟩
 . refine ⟨tu.toList,r,⟨o,n,I.kIn a o hk,hc,hd,by simpa using hs⟩,?_⟩;have e:=r.length;simp only [yx] at e;omega
theorem Inv.tuple (I:Inv X tf σ H s) (h:SqT X.K H a xs):∃tu:List Value,Vals xs tu/\IsTup s.heap a tu.toArray/\xs.length<=sizeLine:=by
 rcases h with h | ⟨o,tu,n,hk,hc,hs,hz,r⟩
 . obtain ⟨z,tu,r,p⟩:=h.ok I.hok;exact ⟨tu,r,p,z⟩
 . refine ⟨tu.toList,r,⟨o,I.kIn a o hk,hc,n,by simpa using hs⟩,?_⟩;have e:=r.length;simp only [yx] at e;omega
theorem Inv.list_inj (I:Inv X tf σ H s) (h:Jn X.K H a xs) (h':Jn X.K H a ys):xs=ys:=by
 obtain ⟨tu,r,⟨o,n,e,_,_,d⟩,_⟩:=I.list h;obtain ⟨its',r',⟨o',n',e',_,_,d'⟩,_⟩:=I.list h';rw [e] at e';cases e';rw [d] at d';injection d' with d1 _;have:tu=its':=by simpa using congrArg Array.toList d1
 subst this;exact r.inj r'
theorem Inv.tuple_inj (I:Inv X tf σ H s) (h:SqT X.K H a xs) (h':SqT X.K H a ys):xs=ys:=by
 obtain ⟨tu,r,⟨o,e,_,n,d⟩,_⟩:=I.tuple h;obtain ⟨its',r',⟨o',e',_,n',d'⟩,_⟩:=I.tuple h';rw [e] at e';cases e';rw [d] at d';injection d' with d1 _;have:tu=its':=by simpa using congrArg Array.toList d1
 subst this;exact r.inj r'
end
abbrev Cx.wish (X:Cx) (E:Value->Shared->Prop):Cx:={ X with xe:=E }
abbrev Cx.nox (X:Cx):Cx:=X.wish fun _ _=>False
theorem Cx.Ok.wish {X:Cx} (ok:X.Ok) (E:Value->Shared->Prop):(X.wish E).Ok:=⟨ok.mod,ok.kind,ok.glob,ok.blt,ok.above,ok.inj,ok.has,ok.cab,ok.hd,ok.frames,ok.stk,ok.exf,ok.bs,ok.bsz,ok.noex,ok.exfs,ok.funs,ok.frf⟩
theorem Cx.Ok.unwish {X:Cx} {E:Value->Shared->Prop} (ok:(X.wish E).Ok):X.Ok:=⟨ok.mod,ok.kind,ok.glob,ok.blt,ok.above,ok.inj,ok.has,ok.cab,ok.hd,ok.frames,ok.stk,ok.exf,ok.bs,ok.bsz,ok.noex,ok.exfs,ok.funs,ok.frf⟩
section
variable {X:Cx} {tf:List (Addr×Obj)} {σ:St} {H:Hp} {s:Shared} {E:Value->Shared->Prop}
theorem Inv.wish (I:Inv X tf σ H s) (E:Value->Shared->Prop):Inv (X.wish E) tf σ H s:=⟨I.ok.wish E,I.os,I.bare,I.base,I.loc,I.cell,I.free,I.freeC,I.pin,I.hok,I.len⟩
theorem Inv.unwish (I:Inv (X.wish E) tf σ H s):Inv X tf σ H s:=⟨I.ok.unwish,I.os,I.bare,I.base,I.loc,I.cell,I.free,I.freeC,I.pin,I.hok,I.len⟩
theorem SP.unwish {D:Ends} {f:Flow} {s':Shared} (h:SP (X.wish E) tf D f s'):SP X tf D f s':=by
 cases f with
 | next=>obtain ⟨σ',H',I,q⟩:=h;exact ⟨σ',H',I.unwish,q⟩
 | brk=>obtain ⟨σ',H',I,q⟩:=h;exact ⟨σ',H',I.unwish,q⟩
 | cont=>obtain ⟨σ',H',I,q⟩:=h;exact ⟨σ',H',I.unwish,q⟩
 | ret u=>obtain ⟨v,σ',H',I,r,q⟩:=h;exact ⟨v,σ',H',I.unwish,r,q⟩
theorem PSs.nox {st:List Stmt} {t:TS} (h:PSs X.nox st t):PSs X st t:=fun tf s σ H D I hw=>yr (h tf s σ H D (I.wish _) hw) (fun _ _ q=>q.unwish) fun _ _ z=>False.elim z
end
section
variable {X:Cx} {st:Stmt} {jda:List Stmt} {t u:TS} {e:Expr} {te:TE} {pos:Pos}
def jnh:TS:=fun D σ H=>D.nx σ H
def jpv (t u:TS):TS:=fun D σ H=>t { D with nx:=u D } σ H
theorem jlC:PSs X [] jnh:=fun _ _ σ H _ I h=>K7 ⟨σ,H,I,h⟩
theorem jjt (h1:PS X st t) (h2:PSs X jda u):PSs X (st::jda) (jpv t u):=by
 intro tf s σ H D I h;refine wpAny_execs_cons (qD (h1 tf s σ H { D with nx:=u D } I h) fun f s1 q=>?_);cases f with
 | next=>obtain ⟨σ',H',I',q⟩:=q;exact h2 tf s1 σ' H' D I' q
 | ret v=>exact q
 | brk=>exact q
 | cont=>exact q
theorem jlk (h1:PS X st t):PSs X [st] t:=by
 intro tf s σ H D I h;refine wpAny_execs_cons (qD (h1 tf s σ H D I h) fun f s1 q=>?_);cases f with
 | next=>exact K7 q
 | ret v=>exact q
 | brk=>exact q
 | cont=>exact q
theorem Inv.quiet {tf:List (Addr×Obj)} {σ:St} {H:Hp} {s:Shared} (I:Inv X tf σ H s):interactive X.env=false:=by simp [interactive,I.ok.kind]
def jko (te:TE):TS:=fun D σ H=>te σ H fun _ H1=>D.nx σ H1
theorem jhT (he:PE X e te) (hs:swapsWith e none pos.line X.env=pure false:=by rfl):PS X (.Expr e pos) (jko te):=by intro tf s σ H D I h;exact wpAny_Expr_any (qD (he tf s σ H _ I h) fun v s1 ⟨x,H1,I1,r1,q1⟩=>⟨σ,H1,I1,q1⟩) I.quiet hs
def jlj (te:TE):TS:=fun D σ H=>te σ H D.rt
theorem jgs (he:PE X e te):PS X (.Return (some e) pos) (jlj te):=by intro tf s σ H D I h;exact wpAny_Return_some (qD (he tf s σ H _ I h) fun v s1 ⟨x,H1,I1,r1,q1⟩=>⟨x,σ,H1,I1,r1,q1⟩)
def jqU (c:TT) (t u:TS):TS:=fun D σ H=>c σ H fun b H1=>if b=true then t D σ H1 else u D σ H1
theorem jqv {c:Expr} {a b:List Stmt} {tc:TT} (hc:PT X c tc) (ha:PSs X a t) (hb:PSs X b u):PS X (.If c a b pos) (jqU tc t u):=by
 intro tf s σ H D I h;refine wpAny_If (qD (hc tf s σ H _ I h) fun d s1 zz=>?_);obtain ⟨H1,I1,q1⟩:=zz;cases d with
 | true=>exact ha tf s1 σ H1 D I1 q1
 | false=>exact hb tf s1 σ H1 D I1 q1
end
abbrev TG:=V->St->Hp->(St->Hp->Prop)->Prop
abbrev TGs:=List V->St->Hp->(St->Hp->Prop)->Prop
def PG (X:Cx) (target:Expr) (t:TG):Prop:=
 ∀(tf:List (Addr×Obj)) (s:Shared) (σ:St) (H:Hp) (v:V) (u:Value) (Q:St->Hp->Prop),Inv X tf σ H s->RelV v u->t v σ H Q->
   wpAny ‹"h"› X.A (assign target X.env u) (fun _ s'=>∃σ' H',Inv X tf σ' H' s'/\Q σ' H') X.xe s
def PGs (X:Cx) (ts:List Expr) (t:TGs):Prop:=
 ∀(tf:List (Addr×Obj)) (s:Shared) (σ:St) (H:Hp) (vs:List V) (us:List Value) (Q:St->Hp->Prop),Inv X tf σ H s->Vals vs us->t vs σ H Q->
   wpAny ‹"h"› X.A (assignInOrder ((assignEach ts X.env).map (·.2)) us) (fun _ s'=>∃σ' H',Inv X tf σ' H' s'/\Q σ' H') X.xe s
abbrev jjC:=V->V->V->Hp->(Hp->Prop)->Prop
def joj (X:Cx) (t:jjC):Prop:=
 ∀(tf:List (Addr×Obj)) (s:Shared) (σ:St) (H:Hp) (o i v:V) (ov iv u:Value) (Q:Hp->Prop),Inv X tf σ H s->RelV o ov->RelV i iv->RelV v u->t o i v H Q->
   wpAny ‹"h"› X.A (setItem ov iv u) (fun _ s'=>∃H',Inv X tf σ H' s'/\Q H') X.xe s
abbrev TIp:=V->V->Hp->VK->Prop
def PIp (X:Cx) (op:Operator) (t:TIp):Prop:=
 ∀(tf:List (Addr×Obj)) (s:Shared) (σ:St) (H:Hp) (x y:V) (v u:Value) (Q:VK),Inv X tf σ H s->RelV x v->RelV y u->t x y H Q->
   wpAny ‹"h"› X.A (inplaceOp op v u) (EP X tf σ Q) X.xe s
section
variable {X:Cx} {pos:Pos}
def ZR (i:Nat):TG:=fun v σ H Q=>Q (σ.set i (some v)) H
theorem jej {i:Nat} {x:Str} (hN:X.N.Nodup) (hi:X.N[i]?=some x) (hx:Loc X.env.scope x) (hf:autoParam ‹"N"› QA.a0._auto_1):PG X (.Name x pos) (ZR i):=by intro tf s σ H v u Q I r h;exact wpAny_assign_Name (jcG I hN hi hx r (fun s' I'=>⟨_,H,I',h⟩) hf)
def joN:TGs:=fun vs σ H Q=>vs=[]/\Q σ H
def jmR (t:TG) (u:TGs):TGs:=fun vs σ H Q=>∃v r,vs=v::r/\t v σ H fun σ' H'=>u r σ' H' Q
theorem jhO:PGs X [] joN:=by intro tf s σ H vs us Q I r h;obtain ⟨e,h⟩:=h;subst e;cases r;exact assignInOrder_nil ⟨σ,H,I,h⟩
theorem jf3 {e:Expr} {es:List Expr} {t:TG} {u:TGs} (h1:PG X e t) (h2:PGs X es u)
 (hs:(assignEach (e::es) X.env).map (·.2)=assign e X.env::(assignEach es X.env).map (·.2):=by rfl):PGs X (e::es) (jmR t u):=by
 intro tf s σ H vs us Q I r h;obtain ⟨v,vr,e1,h⟩:=h;subst e1;cases r with
 | cons r rr=>rw [hs];refine assignInOrder_cons (qD (h1 tf s σ H _ _ _ I r h) fun _ s1 zz=>?_);obtain ⟨σ1,H1,I1,q1⟩:=zz;exact h2 tf s1 σ1 H1 _ _ Q I1 rr q1
def jl9 (K:PySem.W.Frag) (n:Nat) (t:TGs):TG:=fun v σ H Q=>∃a xs,v=.ref a/\SqT K H a xs/\xs.length=n/\t xs σ H Q
theorem jkn {es:List Expr} {k:Nat} {t:TGs} {n:Nat} (hc:X.calm=true) (h:PGs X es t)
 (hn:(assignEach es X.env).length=n:=by rfl) (hst:(assignEach es X.env).findIdx? (·.1)=none:=by rfl):PG X (.Tuple es k pos) (jl9 X.K n t):=by
 intro tf s σ H v u Q I r hw;obtain ⟨a,xs,e1,hq,hl,hw⟩:=hw;subst e1;cases r;obtain ⟨tu,rv,ht,hz⟩:=I.tuple hq;refine assign_Tuple_tuple (I.ok.hd hc) ht (by simp [hn,<- hl,rv.length]) hst fun h' hx=>?_;have I1:Inv X tf σ H { s with heap:=h' }:=I.kept (t':=s.toks) fun b o e=>hx b o (Yt (Yw e)) e;exact h tf _ σ H xs _ Q I1 (by simpa using rv) hw
def jqp (to ti:TE) (t:jjC):TG:=fun v σ H Q=>to σ H fun o H1=>ti σ H1 fun i H2=>t o i v H2 fun H3=>Q σ H3
theorem jn6 {o i:Expr} {to ti:TE} {t:jjC} (ho:PE X o to) (hi:PE X i ti) (hs:joj X t)
 (ha:autoParam (∀v,assign (.Subscript o i pos) X.env v=(do
  let ov <- holding [v] (eval o X.env)
  let iv <- holding [v,ov] (eval i X.env)
  standAt pos
  holding [v,ov,iv] (setItem ov iv v)
  release [v,ov,iv] [])) QA.a3._auto_1):PG X (.Subscript o i pos) (jqp to ti t):=by
 intro tf s σ H v u Q I r h;rw [ha];refine Yb (yn (qD (ho tf s σ H _ I h) fun ov s1 zz=>?_));obtain ⟨x,H1,I1,r1,q1⟩:=zz;refine Yb (yn (qD (hi tf s1 σ H1 _ I1 q1) fun iv s2 zz=>?_));obtain ⟨y,H2,I2,r2,q2⟩:=zz;refine Yb (wpAny_standAt (Yb (yn (qD (hs tf s2 σ H2 x y v ov iv u _ I2 r1 r2 r q2) fun _ s3 zz=>?_))));obtain ⟨H3,I3,q3⟩:=zz;exact wpAny_release ⟨σ,H3,I3,q3⟩
def jdr (te:TE) (g:TG):TS:=fun D σ H=>te σ H fun x H1=>g x σ H1 D.nx
theorem jjP {tg e:Expr} {te:TE} {g:TG} (he:PE X e te) (hg:PG X tg g) (hs:swapsWithSole [tg] e pos.line X.env=pure false:=by rfl) (hw:swappedStores [tg] e X.env=pure none:=by rfl)
 (h1:(assignEach [tg] X.env).map (·.2)=[assign tg X.env]:=by rfl):PS X (.Assign [tg] e pos) (jdr te g):=by
 intro tf s σ H D I h;refine wpAny_Assign_stores (qD (he tf s σ H _ I h) fun v s1 zz=>?_) hs hw;obtain ⟨x,H1,I1,r1,q1⟩:=zz;rw [h1];exact qD (hg tf s1 σ H1 x v _ I1 r1 q1) fun _ s2 q=>q
theorem jgW {i:Nat} {x:Str} {e:Expr} {te:TE} {pos':Pos} (hN:X.N.Nodup) (hi:X.N[i]?=some x) (hx:Loc X.env.scope x) (he:PE X e te) (hs:swapsWith e (some (.Name x pos')) pos.line X.env=pure false:=by rfl) (hf:autoParam ‹"N"› QA.a0._auto_1) :
 PS X (.Assign [.Name x pos'] e pos) (jdr te (ZR i)):=by
 intro tf s σ H D I h;refine wpAny_Assign_Name (qD (he tf s σ H _ I h) fun v s1 zz=>?_) hs;obtain ⟨y,H1,I1,r1,q1⟩:=zz;exact jcG I1 hN hi hx r1 (fun s2 I2=>⟨_,H1,I2,q1⟩) hf
def jpS (i:Nat) (te:TE) (ti:TIp):TS:=fun D σ H=>∃x,σ[i]?=some (some x)/\te σ H fun y H1=>ti x y H1 fun z H2=>D.nx (σ.set i (some z)) H2
theorem jnV {i:Nat} {x:Str} {e:Expr} {te:TE} {op:Operator} {ti:TIp} {pos':Pos} (hN:X.N.Nodup) (hi:X.N[i]?=some x) (hx:Loc X.env.scope x) (he:PE X e te) (ho:PIp X op ti) (hf:autoParam ‹"N"› QA.a0._auto_1) :
 PS X (.AugAssign (.Name x pos') op e pos) (jpS i te ti):=by
 intro tf s σ H D I h;obtain ⟨v,e1,h⟩:=h;obtain ⟨m,hn,hl⟩:=I.loc;have vis:Vis X.env.scope x:=by rcases hx with k | k;exact .inl k;exact .inr (.inl k)
 obtain ⟨u,r,l⟩:=hl i x v hi e1 vis;refine wpAny_AugAssign_Name ?_;have go:wpAny ‹"h"› X.A (eval e X.env) (fun w s₂=>wpAny ‹"h"› X.A (inplaceOp op u w) (fun r s₃=>wpAny ‹"h"› X.A (storeName X.env x r) (fun _=>SP X tf D .next) X.xe s₃) X.xe s₂) X.xe s:=by refine qD (he tf s σ H _ I h) fun w s1 zz=>?_;obtain ⟨y,H1,I1,r1,q1⟩:=zz;refine qD (ho tf s1 σ H1 v y u w _ I1 r r1 q1) fun z s2 zz=>?_;obtain ⟨zv,H2,I2,r2,q2⟩:=zz;exact jcG I2 hN hi hx r2 (fun s3 I3=>⟨_,H2,I3,q2⟩) hf
 rcases l with ⟨hk,hm⟩ | ⟨hk,c,hc,hcell⟩
 . exact wpAny_loadName_local I.ok.kind hk hn hm go
 . rcases hk with hk | hk
   . exact wpAny_loadName_cell I.ok.kind hk hc hcell go
   . rcases hx with k | k
     . have:X.env.scope.names.lookup x=some .free:=hk;rw [k] at this;cases this
     . have:X.env.scope.names.lookup x=some .free:=hk;rw [k] at this;cases this
def jm2 (to ti te:TE) (tget:V->V->Hp->VK->Prop) (tip:TIp) (tset:jjC):TS:=fun D σ H=>to σ H fun o H1=>ti σ H1 fun i H2=>tget o i H2 fun x H3=>te σ H3 fun y H4=>tip x y H4 fun z H5=>tset o i z H5 fun H6=>D.nx σ H6
def jpK (X:Cx) (t:V->V->Hp->VK->Prop):Prop:=
 ∀(tf:List (Addr×Obj)) (s:Shared) (σ:St) (H:Hp) (o i:V) (ov iv:Value) (Q:VK),Inv X tf σ H s->RelV o ov->RelV i iv->t o i H Q->
   wpAny ‹"h"› X.A (getItem ov iv) (EP X tf σ Q) X.xe s
theorem jmA {o i e:Expr} {to ti te:TE} {tget:V->V->Hp->VK->Prop} {tip:TIp} {tset:jjC} {op:Operator} {tpos:Pos} (ho:PE X o to) (hi:PE X i ti) (hg:jpK X tget) (he:PE X e te) (hp:PIp X op tip) (hs:joj X tset)
 (ha:∀ov iv new,augStore i ov iv new=(do holding [new,ov,iv] (setItem ov iv new);release [new,ov,iv] [];pure .next):=by intros;rfl):PS X (.AugAssign (.Subscript o i tpos) op e pos) (jm2 to ti te tget tip tset):=by
 intro tf s σ H D I h;refine wpAny_AugAssign_SubscriptAny (qD (ho tf s σ H _ I h) fun ov s1 zz=>?_) ha;obtain ⟨x1,H1,I1,r1,q1⟩:=zz;refine qD (hi tf s1 σ H1 _ I1 q1) fun iv s2 zz=>?_;obtain ⟨x2,H2,I2,r2,q2⟩:=zz;refine qD (hg tf s2 σ H2 x1 x2 ov iv _ I2 r1 r2 q2) fun old s3 zz=>?_;obtain ⟨x3,H3,I3,r3,q3⟩:=zz;refine qD (he tf s3 σ H3 _ I3 q3) fun v s4 zz=>?_;obtain ⟨x4,H4,I4,r4,q4⟩:=zz;refine qD (hp tf s4 σ H4 x3 x4 old v _ I4 r3 r4 q4) fun new s5 zz=>?_;obtain ⟨x5,H5,I5,r5,q5⟩:=zz;exact qD (hs tf s5 σ H5 x1 x2 x5 ov iv new _ I5 r1 r2 r5 q5) fun _ s6 ⟨H6,I6,q6⟩=>⟨σ,H6,I6,q6⟩
def ipI (f:Int->Int->Int):TIp:=fun x y H Q=>∃i j,x=.int i/\y=.int j/\Q (.int (f i j)) H
theorem joJ:PIp X .Add (ipI fun i j=>i+j):=by intro tf s σ H x y v u Q I r1 r2 h;obtain ⟨i,j,e1,e2,q⟩:=h;subst e1;subst e2;obtain ⟨t,rfl⟩:=r1;obtain ⟨t',rfl⟩:=r2;exact iadd_int ⟨.int _,H,I.tok _,⟨_,rfl⟩,q⟩
theorem jnx:PIp X .Sub (ipI fun i j=>i-j):=by intro tf s σ H x y v u Q I r1 r2 h;obtain ⟨i,j,e1,e2,q⟩:=h;subst e1;subst e2;obtain ⟨t,rfl⟩:=r1;obtain ⟨t',rfl⟩:=r2;exact isub_int ⟨.int _,H,I.tok _,⟨_,rfl⟩,q⟩
end
section
variable {X:Cx} {pos:Pos}
def jgI (c:TT) (tb:TS):TS:=fun D σ H=>∃W:Nat->St->Hp->Prop,(∃m,W m σ H)/\∀m σ H,W m σ H->
 c σ H fun b H1=>if b=true then ∃N:St->Hp->Prop,(∀σ' H',N σ' H'->∃m',m'<m/\W m' σ' H')/\tb { D with nx:=N,ct:=N,bk:=D.nx } σ H1 else D.nx σ H1
theorem jlf {c:Expr} {body:List Stmt} {tc:TT} {tb:TS} (hp:PassesOwn ‹"h"› X.A X.env X.xe) (hc:PT X c tc) (hb:PSs X body tb):PS X (.While c body [] pos) (jgI tc tb):=by
 intro tf s σ H D I h;obtain ⟨W,⟨m0,w0⟩,turn⟩:=h;refine wpAny_While (codeAny_whileLoop (fun n s'=>∃σ' H',Inv X tf σ' H' s'/\W n σ' H') ?_ m0 ⟨σ,H,I,w0⟩);rintro n s1 ⟨σ1,H1,I1,w1⟩;refine yY hp (qD (hc tf s1 σ1 H1 _ I1 (turn n σ1 H1 w1)) fun b s2 zz=>?_);obtain ⟨H2,I2,q2⟩:=zz;cases b with
 | true=>
   obtain ⟨N,hN,q2⟩:=q2;rw [if_pos rfl];refine yY hp (qD (hb tf s2 σ1 H2 _ I2 q2) fun f s3 q3=>?_);cases f with
   | next=>obtain ⟨σ3,H3,I3,n3⟩:=q3;obtain ⟨m',hm,w3⟩:=hN σ3 H3 n3;exact ⟨m',hm,σ3,H3,I3,w3⟩
   | cont=>obtain ⟨σ3,H3,I3,n3⟩:=q3;obtain ⟨m',hm,w3⟩:=hN σ3 H3 n3;exact ⟨m',hm,σ3,H3,I3,w3⟩
   | brk=>exact q3
   | ret v=>exact q3
 | false=>rw [if_neg Yo];exact K7 ⟨σ1,H2,I2,q2⟩
end
structure It where
 go:Nat->Hp->Prop
 yld:Nat->Hp->V->Hp->Prop
 stop:Nat->Hp->Prop
def jcN (X:Cx) (tf:List (Addr×Obj)) (H:Hp) (b:Addr):Prop:=H b=none/\b≠X.env.locals/\b∉X.fs/\(b∈X.ex\/X.s₀.heap.objs.size<=b)/\(∀x c,X.env.cells.lookup x=some c->c≠b)/\∀p∈X.pn++tf,p.1≠b
theorem Inv.fpOk {X:Cx} {tf:List (Addr×Obj)} {σ:St} {H H':Hp} {s:Shared} {b:Addr} (I:Inv X tf σ H s) (hb:s.heap.objs.size<=b) (hn:H' b=none):jcN X tf H' b:=by
 refine ⟨hn,yp (Ym I.lt hb),I.nofs hb,.inr (Y2 I.sz hb),fun x c e z=>?_,fun p hp z=>?_⟩
 . obtain ⟨v,q⟩:=I.cell x c e;exact absurd (Ym q.lt (by rw [z];exact hb)) (Y5 _)
 . exact absurd (Ym (Yw (I.pin p hp).1) (by rw [z];exact hb)) (Y5 _)
structure Turn (P:Program) (w:World) (K:PySem.W.Frag) (tg:Expr) (J:It) (fp:List Addr) (it:Addr) (tn:Nat->Heap->Prop):Prop where
 mem:it∈fp
 obj:∀i h,tn i h->∀b∈fp,∃o,h.get? b=some o/\∀v,o.data≠.cell v
 keep:∀i h h',tn i h->(∀b∈fp,∀o,h.get? b=some o->h'.get? b=some o)->tn i h'
 item:∀(X:Cx),X.prog=P->X.w=w->X.K=K->X.calm=true->∀(i:Nat) (tf:List (Addr×Obj)) (s:Shared) (σ:St) (H:Hp) (E:Value->Shared->Prop),Inv X tf σ H s->(∀b∈fp,jcN X tf H b)->tn i s.heap->J.go i H->
  wpAny (model P w) X.A (pyNext (.ref it)) (fun r s1=>∃u,r=some u /\
   wpAny (model P w) X.A (letOwnedTupleGo tg (.ref it) u) (fun _ s2=>∃x H',Inv X tf σ H' s2/\RelV x u/\J.yld i H x H'/\tn (i+1) s2.heap/\∀b∈fp,H' b=none) E s1) E s
 done:∀(X:Cx),X.prog=P->X.w=w->X.K=K->X.calm=true->∀(i:Nat) (tf:List (Addr×Obj)) (s:Shared) (σ:St) (H:Hp) (E:Value->Shared->Prop),Inv X tf σ H s->(∀b∈fp,jcN X tf H b)->tn i s.heap->J.stop i H->
  wpAny (model P w) X.A (pyNext (.ref it)) (fun r s1=>r=none/\Inv X tf σ H s1) E s
 self:∀(A:Around) (i:Nat) (s:Shared) (Q:Value->Shared->Prop) (E:Value->Shared->Prop),tn i s.heap->Q (.ref it) s->wpAny (model P w) A (pyIter (.ref it)) Q E s
abbrev TI:=St->Hp->(It->Hp->Prop)->Prop
def PIE (X:Cx) (tf:List (Addr×Obj)) (σ:St) (tg:Expr) (R:It->Hp->Prop) (itv:Value) (s2:Shared):Prop:=∃(it:Addr) (fp:List Addr) (tn:Nat->Heap->Prop) (J:It) (H':Hp),itv=.ref it/\Inv X tf σ H' s2/\Turn X.prog X.w X.K tg J fp it tn/\tn 0 s2.heap/\(∀b∈fp,jcN X tf H' b)/\R J H'
def PI (X:Cx) (tg iter:Expr) (wi:TI):Prop:=
 ∀(tf:List (Addr×Obj)) (s:Shared) (σ:St) (H:Hp) (R:It->Hp->Prop),Inv X tf σ H s->wi σ H R->
   wpAny ‹"h"› X.A (eval iter X.env) (fun v s1=>wpAny ‹"h"› X.A (pyIter v) (PIE X tf σ tg R) X.xe s1) X.xe s
theorem jhH {M:Model} {A:Around} {E:Value->Shared->Prop} {s:Shared} {tg:Expr} {it:Addr} {u:Value} {o:Obj} {n:String} {vs:Array Value} {Q:Unit->Shared->Prop} (ho:s.heap.get? it=some o) (hc:o.cls=.type n) (hd:o.data=.fields vs)
 (hn:["enumerate","zip","dict_itemiterator","dict_reverseitemiterator","odict_iterator","itertools.zip_longest","itertools.pairwise"].contains n=false) (hQ:Q () s):wpAny M A (letOwnedTupleGo tg (.ref it) u) Q E s:=by
 unfold letOwnedTupleGo;cases tg <;> first
  | exact Yk hQ
  | (cases u <;> first
      | exact Yk hQ
      | (refine Yb (wpAny_load ho ?_)
         rw [hc,hd];show wpAny M A (if (["enumerate","zip","dict_itemiterator","dict_reverseitemiterator","odict_iterator","itertools.zip_longest","itertools.pairwise"].contains n && vs[0]? == some (rawInt _))=true then _ else _) Q E s;rw [if_neg (by intro h;rw [hn,Bool.false_and] at h;cases h)];exact Yk hQ))
def Itl (K:PySem.W.Frag) (a:Addr):It:=⟨fun i H=>∃xs x,Jn K H a xs/\xs[i]?=some x,fun i H x H'=>H'=H/\∀xs,Jn K H a xs->xs[i]?=some x,fun i H=>∃xs,Jn K H a xs/\xs.length<=i⟩
def Itt (K:PySem.W.Frag) (a:Addr):It:=⟨fun i H=>∃xs x,SqT K H a xs/\xs[i]?=some x,fun i H x H'=>H'=H/\∀xs,SqT K H a xs->xs[i]?=some x,fun i H=>∃xs,SqT K H a xs/\xs.length<=i⟩
def Itr (lo:Int) (n:Nat):It:=⟨fun i _=>i<n,fun i H x H'=>H'=H/\x=.int (lo+i),fun i _=>n<=i⟩
theorem jjd {P:Program} {w:World} {K:PySem.W.Frag} {tg:Expr} (a it:Addr):Turn P w K tg (Itl K a) [it] it (fun i h=>h.IsListIter it a i) where
 mem:=by simp
 obj:=fun i h st b hb=>by
  have e:b=it:=by simpa using hb
  subst e;obtain ⟨o,e,c,d⟩:=st;exact ⟨o,e,fun v z=>by rw [d] at z;cases z⟩
 keep:=fun i h h' st k=>st.at fun o e=>k it (by simp) o e
 item:=by intro X hP hw hK hc i tf s σ H E I hf st hg;subst hP hw hK;obtain ⟨xs,x,hq,hx⟩:=hg;obtain ⟨tu,rv,p,hz⟩:=I.list hq;obtain ⟨u,hu,ru⟩:=rv.get hx;obtain ⟨f0,f1,f2,f3,f4,f5⟩:=hf it (by simp);refine wpAny_pyNext_list_item st p.isList (x:=u) (by simpa using hu) fun h' st' sb=>?_;have I1:Inv X tf σ H { s with heap:=h' }:=I.turned (t':=s.toks) (fun b o hb e=>(sb.2 b hb).trans e) f0 f1 f3 f4 f5;obtain ⟨o,e,c,d⟩:=id st';exact ⟨u,rfl,jhH (s:={ s with heap:=h' }) e c d (by decide) ⟨x,H,I1,ru,⟨rfl,fun ys hy=>by rw [I.list_inj hy hq];exact hx⟩,st',fun b hb=>(hf b hb).1⟩⟩
 done:=by intro X hP hw hK hc i tf s σ H E I hf st hg;subst hP hw hK;obtain ⟨xs,hq,hx⟩:=hg;obtain ⟨tu,rv,p,hz⟩:=I.list hq;obtain ⟨f0,f1,f2,f3,f4,f5⟩:=hf it (by simp);have hl:=rv.length;exact wpAny_pyNext_list_end (I.ok.hd hc) st p.isList (by simp;omega) fun h' eb=>⟨rfl,I.turned (t':=s.toks) (fun b o hb e=>eb b o hb e) f0 f1 f3 f4 f5⟩
 self:=fun _ _ _ _ _ st h=>wpAny_pyIter_listiter st h
theorem jgw {P:Program} {w:World} {K:PySem.W.Frag} {tg:Expr} (a it:Addr):Turn P w K tg (Itt K a) [it] it (fun i h=>h.IsTupleIter it a i) where
 mem:=by simp
 obj:=fun i h st b hb=>by
  have e:b=it:=by simpa using hb
  subst e;obtain ⟨o,e,c,d⟩:=st;exact ⟨o,e,fun v z=>by rw [d] at z;cases z⟩
 keep:=fun i h h' st k=>st.at fun o e=>k it (by simp) o e
 item:=by intro X hP hw hK hc i tf s σ H E I hf st hg;subst hP hw hK;obtain ⟨xs,x,hq,hx⟩:=hg;obtain ⟨tu,rv,p,hz⟩:=I.tuple hq;obtain ⟨u,hu,ru⟩:=rv.get hx;obtain ⟨f0,f1,f2,f3,f4,f5⟩:=hf it (by simp);refine wpAny_pyNext_tuple_item st (show s.heap.IsTuple a tu.toArray from p) (x:=u) (by simpa using hu) fun h' st' sb=>?_;have I1:Inv X tf σ H { s with heap:=h' }:=I.turned (t':=s.toks) (fun b o hb e=>(sb.2 b hb).trans e) f0 f1 f3 f4 f5;obtain ⟨o,e,c,d⟩:=id st';exact ⟨u,rfl,jhH (s:={ s with heap:=h' }) e c d (by decide) ⟨x,H,I1,ru,⟨rfl,fun ys hy=>by rw [I.tuple_inj hy hq];exact hx⟩,st',fun b hb=>(hf b hb).1⟩⟩
 done:=by intro X hP hw hK hc i tf s σ H E I hf st hg;subst hP hw hK;obtain ⟨xs,hq,hx⟩:=hg;obtain ⟨tu,rv,p,hz⟩:=I.tuple hq;obtain ⟨f0,f1,f2,f3,f4,f5⟩:=hf it (by simp);have hl:=rv.length;exact wpAny_pyNext_tuple_end (I.ok.hd hc) st (show s.heap.IsTuple a tu.toArray from p) (by simp;omega) fun h' eb=>⟨rfl,I.turned (t':=s.toks) (fun b o hb e=>eb b o hb e) f0 f1 f3 f4 f5⟩
 self:=fun _ _ _ _ _ st h=>wpAny_pyIter_tupleiter st h
theorem jhc {P:Program} {w:World} {K:PySem.W.Frag} {tg:Expr} (it:Addr) (lo:Int) (n:Nat):Turn P w K tg (Itr lo n) [it] it (fun i h=>IsRangeIter h it (lo+(i:Nat)*1) ((n:Int)-(i:Nat)) 1) where
 mem:=by simp
 obj:=fun i h st b hb=>by
  have e:b=it:=by simpa using hb
  subst e;exact ⟨_,st,fun v z=>by have z':Data.fields _=Data.cell v:=z;cases z'⟩
 keep:=fun i h h' st k=>k it (by simp) _ st
 item:=by intro X hP hw hK hc i tf s σ H E I hf st hg;subst hP hw hK;obtain ⟨f0,f1,f2,f3,f4,f5⟩:=hf it (by simp);have W:=Walks.range (prog:=X.prog) (w:=X.w) (I.ok.hd hc) it lo 1 n;refine W.item i s _ _ hg st fun v h' tk hv st' kk=>?_;obtain ⟨t,rfl⟩:=hv;have I1:Inv X tf σ H { s with heap:=h',toks:=tk }:=I.turned (fun b o hb e=>kk b o (by simpa using hb) e) f0 f1 f3 f4 f5;refine ⟨_,rfl,jhH (s:={ s with heap:=h',toks:=tk }) (n := "range_iterator") st' rfl rfl (by decide) ⟨.int (lo+i),H,I1,⟨t,?_⟩,⟨rfl,rfl⟩,st',fun b hb=>(hf b hb).1⟩⟩;rw [Int.mul_one]
 done:=by intro X hP hw hK hc i tf s σ H E I hf st hg;subst hP hw hK;obtain ⟨f0,f1,f2,f3,f4,f5⟩:=hf it (by simp);exact wpAny_pyNext_range_end (I.ok.hd hc) st (by have:n<=i:=hg;omega) fun h' eb=>⟨rfl,I.turned (t':=s.toks) (fun b o hb e=>eb b o hb e) f0 f1 f3 f4 f5⟩
 self:=fun _ _ _ _ _ st h=>wpAny_pyIter_rangeiter st h
end L2
namespace L2
open PySem PySem.Spec PyProof.Rows
section
variable {X:Cx} {tg:Expr}
def jfv (K:PySem.W.Frag) (tl:TE):TI:=fun σ H R=>tl σ H fun x H1=>∃a,x=.ref a/\(∃xs,Jn K H1 a xs)/\R (Itl K a) H1
def jnC (K:PySem.W.Frag) (tl:TE):TI:=fun σ H R=>tl σ H fun x H1=>∃a,x=.ref a/\(∃xs,SqT K H1 a xs)/\R (Itt K a) H1
theorem jhx {l:Expr} {tl:TE} (hl:PE X l tl):PI X tg l (jfv X.K tl):=by
 intro tf s σ H R I h;refine qD (hl tf s σ H _ I h) fun v s1 zz=>?_;obtain ⟨x,H1,I1,r1,q1⟩:=zz;obtain ⟨a,e,⟨xs,hq⟩,q⟩:=q1;subst e;cases r1;obtain ⟨tu,rv,p,hz⟩:=I1.list hq;refine wpAny_pyIter_list p.isList ?_;refine ⟨s1.heap.objs.size,[s1.heap.objs.size],_,_,H1,rfl,I1.kept (t':=s1.toks) fun b o e=>Yl _ e,jjd a _,⟨_,Yx _ rfl,rfl,rfl⟩,fun b hb=>?_,q⟩;have e:b=s1.heap.objs.size:=by simpa using hb
 subst e;exact I1.fpOk (Ys _) (I1.hok.fresh (Ys _))
theorem jof {l:Expr} {tl:TE} (hl:PE X l tl):PI X tg l (jnC X.K tl):=by
 intro tf s σ H R I h;refine qD (hl tf s σ H _ I h) fun v s1 zz=>?_;obtain ⟨x,H1,I1,r1,q1⟩:=zz;obtain ⟨a,e,⟨xs,hq⟩,q⟩:=q1;subst e;cases r1;obtain ⟨tu,rv,p,hz⟩:=I1.tuple hq;refine wpAny_pyIter_tuple (show s1.heap.IsTuple a tu.toArray from p) ?_;refine ⟨s1.heap.objs.size,[s1.heap.objs.size],_,_,H1,rfl,I1.kept (t':=s1.toks) fun b o e=>Yl _ e,jgw a _,⟨_,Yx _ rfl,rfl,rfl⟩,fun b hb=>?_,q⟩;have e:b=s1.heap.objs.size:=by simpa using hb
 subst e;exact I1.fpOk (Ys _) (I1.hok.fresh (Ys _))
theorem jkG {tf:List (Addr×Obj)} {σ:St} {H:Hp} {s:Shared} {R:It->Hp->Prop} {E:Value->Shared->Prop} {lo hi:Int} {t u v:Tok} {tk:Nat} (I:Inv X tf σ H s) (h1:-(2 ^ 62)<=lo) (h2:lo<2 ^ 62) (h3:-(2 ^ 62)<=hi) (h4:hi<2 ^ 62)
 (q:R (Itr lo (hi-lo).toNat) H):wpAny ‹"h"› X.A (pyIter (.ref s.heap.objs.size)) (PIE X tf σ tg R) E { s with heap:=s.heap.push { cls:=.type "range",data:=.fields #[.int lo t,.int hi u,.int 1 v] },toks:=tk }:=by
 refine wpAny_pyIter_range (IsRange.new ..) (small_one h1 h2 h3 h4) ?_;have I1:Inv X tf σ H { s with heap:=s.heap.push { cls:=.type "range",data:=.fields #[.int lo t,.int hi u,.int 1 v] },toks:=tk }:=I.kept fun b o e=>Yl _ e;refine ⟨‹"W"›.objs.size,[‹"W"›.objs.size],_,_,H,rfl,
  I1.kept (t':=tk) fun b o e=>Yl _ e,jhc _ lo (hi-lo).toNat,?_,fun b hb=>?_,q⟩
 . have e1:lo+((0:Nat):Int)*1=lo:=by simp
   have e2:(((hi-lo).toNat:Nat):Int)-((0:Nat):Int)=Builtin.Range.rangeSize lo hi 1:=by rw [rangeSize_one];split <;> omega
   show IsRangeIter _ _ (lo+((0:Nat):Int)*1) ((((hi-lo).toNat:Nat):Int)-((0:Nat):Int)) 1;rw [e1,e2];exact Yx _ rfl
 . have e:b=‹"W"›.objs.size:=by simpa using hb
   subst e;exact I1.fpOk (Ys _) (I1.hok.fresh (Ys _))
def jmQ (ta:TA):TI:=fun σ H R=>ta σ H fun vs H1=>∃j:Int,vs=[.int j] /\ -(2 ^ 62)<=j/\j<2 ^ 62/\R (Itr 0 j.toNat) H1
theorem jiR {a:Expr} {ta:TA} {p pos:Pos} (hg:Gl X "range") (hm:X.mg "range"=none) (ha:PA X [a] ta) (hs:starEach [a] X.env=[(false,eval a X.env)]:=by rfl):PI X tg (.Call (.Name "range" p) [a] [] pos) (jmQ ta):=by
 intro tf s σ H R I h;refine Call_ (Qh I hg hm boot_range (YY (qD (ha pos tf s σ H _ I h) fun us s1 zz=>?_) hs rfl));obtain ⟨vs,H1,I1,r1,q1⟩:=zz;obtain ⟨j,e,q1,q2,q⟩:=q1;subst e;cases r1 with
 | cons r rr=>cases rr;obtain ⟨t,rfl⟩:=r;exact call_range_1 (jkG I1 (by omega) (by omega) q1 q2 (by simpa using q))
def jpt (wi:TI) (g:TG) (tb:TS):TS:=fun D σ H=>wi σ H fun J H1=>∃W:Nat->Nat->St->Hp->Prop,(∃m,W 0 m σ H1)/\∀i m σ H,W i m σ H->
 (J.stop i H/\D.nx σ H)\/(J.go i H/\∃N:St->Hp->Prop,(∀σ' H',N σ' H'->∃m',m'<m/\W (i+1) m' σ' H')/\∀x H',J.yld i H x H'->g x σ H' fun σ2 H2=>tb { D with nx:=N,ct:=N,bk:=D.nx } σ2 H2)
def jcV (fp:List Addr) (h:Heap):List (Addr×Obj):=fp.filterMap fun b=>(h.get? b).map fun o=>(b,o)
theorem QG {fp:List Addr} {h:Heap} {b:Addr} {o:Obj} (hb:b∈fp) (e:h.get? b=some o):(b,o)∈jcV fp h:=List.mem_filterMap.mpr ⟨b,hb,by rw [e];rfl⟩
theorem jiO {fp:List Addr} {h:Heap} {p:Addr×Obj} (hp:p∈jcV fp h):p.1∈fp/\h.get? p.1=some p.2:=by
 obtain ⟨b,hb,e⟩:=List.mem_filterMap.mp hp;cases q:h.get? b with
 | none=>rw [q] at e;cases e
 | some o=>rw [q] at e;have e':(b,o)=p:=Option.some.inj e;subst e';exact ⟨hb,q⟩
theorem Inv.pinned {tf:List (Addr×Obj)} {σ:St} {H:Hp} {s:Shared} {fp:List Addr} (I:Inv X tf σ H s) (hf:∀b∈fp,jcN X tf H b) (ho:∀b∈fp,∃o,s.heap.get? b=some o/\∀v,o.data≠.cell v):Inv X (tf++jcV fp s.heap) σ H s:=
 I.pins_of fun p hp=>(Y7.mp hp).elim (fun z=>I.pin p (YI _ z)) fun z=>by obtain ⟨hb,e⟩:=jiO z;obtain ⟨f0,f1,f2,_⟩:=hf p.1 hb;obtain ⟨o,e',d⟩:=ho p.1 hb;rw [e] at e';cases e';exact ⟨e,f0,f1,f2,d⟩
theorem Inv.unpinned {tf pl:List (Addr×Obj)} {σ:St} {H:Hp} {s:Shared} (I:Inv X (tf++pl) σ H s):Inv X tf σ H s:=I.pins_of fun p hp=>I.pin p (YI _ (Y9 _ hp))
theorem jn1 {iter:Expr} {body:List Stmt} {wi:TI} {g:TG} {tb:TS} {pos:Pos} (hp:PassesOwn ‹"h"› X.A X.env X.xe) (hc:X.calm=true) (hi:PI X tg iter wi) (hg:PG X tg g) (hb:PSs X body tb)
 (hs:∀x,foldedSetIterable iter X.env x=pure x:=by intro _;rfl):PS X (.For tg iter body [] pos) (jpt wi g tb):=by
 intro tf s σ H D I h;refine wpAny_For (qD (hi tf s σ H _ I h) fun v s1 h1=>qD h1 fun itv s2 h2=>?_) hs;obtain ⟨it,fp,tn,J,H2,e,I2,T,st2,f2,W,⟨m0,w0⟩,turn⟩:=h2;subst e
 -- what stays true of the iterator's objects through the loop
 have stat:∀{H':Hp},(∀b∈fp,H' b=none)->∀b∈fp,jcN X tf H' b:=fun hn b hb=>⟨hn b hb,(f2 b hb).2⟩;refine codeAny_forLoop_any (fun n s'=>∃i σ' H',Inv X tf σ' H' s'/\tn i s'.heap/\(∀b∈fp,H' b=none)/\W i n σ' H') ?_ m0 ⟨0,σ,H2,I2,st2,fun b hb=>(f2 b hb).1,w0⟩;rintro n s3 ⟨i,σ3,H3,I3,st3,fr3,w3⟩;rcases turn i n σ3 H3 w3 with ⟨stop,qn⟩ | ⟨go,N,hN,step⟩
 . refine yY hp (qD (T.done X rfl rfl rfl hc i tf s3 σ3 H3 X.xe I3 (stat fr3) st3 stop) fun r s4 zz=>?_);obtain ⟨hr,I4⟩:=zz;subst hr;exact K7 ⟨σ3,H3,I4,qn⟩
 . refine yY hp (qD (T.item X rfl rfl rfl hc i tf s3 σ3 H3 X.xe I3 (stat fr3) st3 go) fun r s4 zz=>?_);obtain ⟨u,hr,h4⟩:=zz;subst hr;refine yY hp (qD h4 fun _ s5 zz=>?_);obtain ⟨x,H5,I5,r5,y5,st5,fr5⟩:=zz;have I5':=I5.pinned (stat fr5) (T.obj _ _ st5);refine yY hp (qD (hg _ s5 σ3 H5 x u _ I5' r5 (step x H5 y5)) fun _ s6 zz=>?_);obtain ⟨σ6,H6,I6,q6⟩:=zz;refine yY hp (qD (hb _ s6 σ6 H6 _ I6 q6) fun f s7 q7=>?_);have again:∀{σ7:St} {H7:Hp},Inv X (tf++jcV fp s5.heap) σ7 H7 s7->N σ7 H7->∃m,m<n/\∃i σ' H',Inv X tf σ' H' s7/\tn i s7.heap/\(∀b∈fp,H' b=none)/\W i m σ' H':=fun {σ7 H7} I7 n7=>by obtain ⟨m',hm,w7⟩:=hN σ7 H7 n7;refine ⟨m',hm,i+1,σ7,H7,I7.unpinned,T.keep _ _ _ st5 fun b hb o e=>(I7.pin (b,o) (YI _ (YI _ (QG hb e)))).1,fun b hb=>?_,w7⟩;obtain ⟨o,e,d⟩:=T.obj _ _ st5 b hb;exact (I7.pin (b,o) (YI _ (YI _ (QG hb e)))).2.1
   cases f with
   | next=>obtain ⟨σ7,H7,I7,n7⟩:=q7;exact again I7 n7
   | cont=>obtain ⟨σ7,H7,I7,n7⟩:=q7;exact again I7 n7
   | brk=>obtain ⟨σ7,H7,I7,q7⟩:=q7;exact ⟨σ7,H7,I7.unpinned,q7⟩
   | ret v=>obtain ⟨x7,σ7,H7,I7,r7,q7⟩:=q7;exact ⟨x7,σ7,H7,I7.unpinned,r7,q7⟩
end
theorem jfG {c:TT} {tb:TS} {D:Ends} {σ:St} {H:Hp} (Pv:St->Hp->Prop) (μ:St->Hp->Nat) (h0:Pv σ H)
 (hs:∀σ H,Pv σ H->c σ H fun b H1=>if b=true then tb { D with nx:=fun σ' H'=>Pv σ' H'/\μ σ' H'<μ σ H,ct:=fun σ' H'=>Pv σ' H'/\μ σ' H'<μ σ H,bk:=D.nx } σ H1 else D.nx σ H1)
 (mono:∀σ H Q Q',(∀b H1,Q b H1->Q' b H1)->c σ H Q->c σ H Q'):jgI c tb D σ H:=by
 refine ⟨fun m σ H=>m=μ σ H/\Pv σ H,⟨_,rfl,h0⟩,?_⟩;rintro m σ H ⟨rfl,p⟩;refine mono σ H _ _ (fun b H1 q=>?_) (hs σ H p);cases b with
 | true=>exact ⟨_,fun σ' H' ⟨p',l⟩=>⟨_,l,rfl,p'⟩,q⟩
 | false=>exact q
end L2
namespace L2
open PySem PySem.Spec PyProof.Rows
abbrev R2:=V->V->Hp->VK->Prop
def OpR (X:Cx) (f:Value->Value->Sem Value) (r:R2):Prop:=
 ∀(tf:List (Addr×Obj)) (s:Shared) (σ:St) (H:Hp) (x y:V) (v u:Value) (Q:VK),Inv X tf σ H s->RelV x v->RelV y u->r x y H Q->
   wpAny ‹"h"› X.A (f v u) (EP X tf σ Q) X.xe s
def UnR (X:Cx) (f:Value->Sem Value) (r:V->Hp->VK->Prop):Prop:=
 ∀(tf:List (Addr×Obj)) (s:Shared) (σ:St) (H:Hp) (x:V) (v:Value) (Q:VK),Inv X tf σ H s->RelV x v->r x H Q->
   wpAny ‹"h"› X.A (f v) (EP X tf σ Q) X.xe s
def CallR (X:Cx) (f:Value) (r:List V->Hp->VK->Prop):Prop:=
 ∀(tf:List (Addr×Obj)) (s:Shared) (σ:St) (H:Hp) (xs:List V) (us:List Value) (Q:VK),Inv X tf σ H s->Vals xs us->r xs H Q->
   wpAny ‹"h"› X.A (call f us) (EP X tf σ Q) X.xe s
def tOp (r:R2) (ta tb:TE):TE:=fun σ H Q=>ta σ H fun x H1=>tb σ H1 fun y H2=>r x y H2 Q
def tUn (r:V->Hp->VK->Prop) (ta:TE):TE:=fun σ H Q=>ta σ H fun x H1=>r x H1 Q
def rI (C:Int->Int->Prop) (g:Int->Int->V):R2:=fun x y H Q=>∃i j,x=.int i/\y=.int j/\C i j/\Q (g i j) H
def rI0 (g:Int->Int->V):R2:=fun x y H Q=>∃i j,x=.int i/\y=.int j/\Q (g i j) H
def rU (g:Int->V):V->Hp->VK->Prop:=fun x H Q=>∃i,x=.int i/\Q (g i) H
section
variable {X:Cx} {a b c:Expr} {ta tb tc:TE} {pos:Pos}
theorem jnT (ha:PE X a ta) (hb:PE X b tb) {tf:List (Addr×Obj)} {s:Shared} {σ:St} {H:Hp} {R:V->V->Hp->Prop} (I:Inv X tf σ H s)
 (h:ta σ H fun x H1=>tb σ H1 fun y H2=>R x y H2) {Q:Value->Shared->Prop} {f:Value->Value->Sem Value}
 (hf:∀v u s2 x y H2,Inv X tf σ H2 s2->RelV x v->RelV y u->R x y H2->wpAny ‹"h"› X.A (f v u) Q X.xe s2) :
 wpAny ‹"h"› X.A (eval a X.env) ‹"a7"› X.xe s:=by
 refine qD ‹"ac"› fun v s1 zz=>?_;obtain ⟨x,H1,I1,r1,q1⟩:=zz;refine qD (hb tf s1 σ H1 _ I1 q1) fun u s2 zz=>?_;obtain ⟨y,H2,I2,r2,q2⟩:=zz;exact hf v u s2 x y H2 I2 r1 r2 q2
theorem jkR {op:Operator} {r:R2} (ho:OpR X (binaryOp op) r) (ha:PE X a ta) (hb:PE X b tb):PE X (.BinOp a op b pos) (tOp r ta tb):=by intro tf s σ H Q I h;exact wpAny_BinOp (jnT ha hb I h fun v u s2 x y H2 I2 rx ry q=>ho tf s2 σ H2 x y v u Q I2 rx ry q)
theorem jpz {op:UnaryOp} {r:V->Hp->VK->Prop} (ho:UnR X (unaryOp op) r) (ha:PE X a ta):PE X (.UnaryOp op a pos) (tUn r ta):=by intro tf s σ H Q I h;exact UnaryOp_ (qD ‹"ac"› fun v s1 ⟨x,H1,I1,r1,q1⟩=>ho tf s1 σ H1 x v Q I1 r1 q1)
theorem opI {f:Value->Value->Sem Value} {C:Int->Int->Prop} {g:Int->Int->Int}
 (rule:∀(i j:Int) (t u:Tok) (s:Shared) (Q:Value->Shared->Prop) (E:Value->Shared->Prop),C i j->Q (.int (g i j) s.toks) { s with toks:=s.toks+1 }->wpAny ‹"h"› X.A (f (.int i t) (.int j u)) Q E s) :
 OpR X f (rI C fun i j=>.int (g i j)):=by
 intro tf s σ H x y v u Q I rx ry h;obtain ⟨i,j,rfl,rfl,hc,q⟩:=h;obtain ⟨t,rfl⟩:=rx;obtain ⟨t',rfl⟩:=ry;exact rule i j t t' s _ _ hc ⟨.int (g i j),H,I.tok _,⟨_,rfl⟩,q⟩
theorem jqa {f:Value->Value->Sem Value} {g:Int->Int->Int}
 (rule:∀(i j:Int) (t u:Tok) (s:Shared) (Q:Value->Shared->Prop) (E:Value->Shared->Prop),Q (.int (g i j) s.toks) { s with toks:=s.toks+1 }->wpAny ‹"h"› X.A (f (.int i t) (.int j u)) Q E s) :
 OpR X f (rI0 fun i j=>.int (g i j)):=by
 intro tf s σ H x y v u Q I rx ry h;obtain ⟨i,j,rfl,rfl,q⟩:=h;obtain ⟨t,rfl⟩:=rx;obtain ⟨t',rfl⟩:=ry;exact rule i j t t' s _ _ ⟨.int (g i j),H,I.tok _,⟨_,rfl⟩,q⟩
theorem jlS {f:Value->Value->Sem Value} {g:Int->Int->Bool}
 (rule:∀(i j:Int) (t u:Tok) (s:Shared) (Q:Value->Shared->Prop) (E:Value->Shared->Prop),Q (.bool (g i j)) s->wpAny ‹"h"› X.A (f (.int i t) (.int j u)) Q E s) :
 OpR X f (rI0 fun i j=>.bl (g i j)):=by
 intro tf s σ H x y v u Q I rx ry h;obtain ⟨i,j,rfl,rfl,q⟩:=h;obtain ⟨t,rfl⟩:=rx;obtain ⟨t',rfl⟩:=ry;exact rule i j t t' s _ _ ⟨.bl (g i j),H,I,rfl,q⟩
def jc7 (i j:Int):Prop:=0<=j/\j<=1000000/\i.natAbs<2 ^ 64
def CMul (i j:Int):Prop:=(-(2 ^ 64)<i/\i<2 ^ 64)\/(-(2 ^ 64)<j/\j<2 ^ 64)
theorem CMul.ok {i j:Int} (h:CMul i j):IntMulOk i j:=by
 rcases h with ⟨h1,h2⟩ | ⟨h1,h2⟩
 . exact .of_left (intBits_le_64 h1 h2)
 . exact .of_right (intBits_le_64 h1 h2)
theorem jnw:OpR X (binaryOp .Add) (rI0 fun i j=>.int (i+j)):=jqa fun _ _ _ _ _ _ _ q=>add_int q
theorem jnX:OpR X (binaryOp .Sub) (rI0 fun i j=>.int (i-j)):=jqa fun _ _ _ _ _ _ _ q=>sub_int q
theorem jnG:OpR X (binaryOp .Mod) (rI (fun _ j=>0<j) fun i j=>.int (i%j)):=opI fun i j _ _ _ _ _ hc q=>by have h1:(0:Int)<j:=hc;exact mod_int' (by omega) (by rw [Int.fmod_eq_emod_of_nonneg i (by omega)];exact q)
theorem jnJ:OpR X (binaryOp .Pow) (rI jc7 fun i j=>.int (i ^ j.toNat)):=opI fun _ _ _ _ _ _ _ hc q=>pow_int_small hc.1 hc.2.1 hc.2.2 q
theorem unI {f:Value->Sem Value} {g:Int->Int}
 (rule:∀(i:Int) (t:Tok) (s:Shared) (Q:Value->Shared->Prop) (E:Value->Shared->Prop),Q (.int (g i) s.toks) { s with toks:=s.toks+1 }->wpAny ‹"h"› X.A (f (.int i t)) Q E s) :
 UnR X f (rU fun i=>.int (g i)):=by
 intro tf s σ H x v Q I rx h;obtain ⟨i,rfl,q⟩:=h;obtain ⟨t,rfl⟩:=rx;exact rule i t s _ _ ⟨.int (g i),H,I.tok _,⟨_,rfl⟩,q⟩
theorem jpb:UnR X (unaryOp .USub) (rU fun i=>.int (-i)):=unI fun _ _ _ _ _ q=>neg_int q
end
def joG:V->V->Bool
 | .non,.non=>true | .non,.int _=>true | .int _,.non=>true | .non,.bl _=>true | .bl _,.non=>true | .non,.str _=>true | .str _,.non=>true
 | .int _,.int _=>true | .bl _,.bl _=>true | .str _,.str _=>true | .byt _,.byt _=>true
 | .int _,.str _=>true | .str _,.int _=>true | .bl _,.str _=>true | .str _,.bl _=>true
 | _,_=>false
def rEq:R2:=fun x y H Q=>joG x y=true/\Q (.bl (decide (x=y))) H
def rNe:R2:=fun x y H Q=>joG x y=true/\Q (.bl (!decide (x=y))) H
theorem jhS {i j:Int}:decide (V.int i=V.int j)=(i == j):=by rw [kj];simp
theorem jku {i j:Bool}:decide (V.bl i=V.bl j)=(i == j):=by rw [kj];simp
theorem jh5 {i j:Str}:decide (V.str i=V.str j)=(i == j):=by rw [kj];simp
theorem jip {i j:Array UInt8}:decide (V.byt i=V.byt j)=(i.toList == j.toList):=by rw [kj];cases i;cases j;simp
section
variable {X:Cx} {a b c:Expr} {ta tb tc:TE} {pos:Pos}
theorem qe {tf:List (Addr×Obj)} {σ:St} {H:Hp} {s:Shared} {Q:VK} {k k':Bool} (I:Inv X tf σ H s) (q:Q (.bl k) H) (e:k=k'):EP X tf σ Q (.bool k') s:=by subst e;exact ⟨.bl k,H,I,rfl,q⟩
theorem jpy:OpR X (compareOp .Eq) rEq:=by
 intro tf s σ H x y v u Q I rx ry h;obtain ⟨hs,q⟩:=h;cases x with
 | non=>
   cases rx;cases y with
   | non=>cases ry;exact PySem.EqNone.eq_none_none ‹"I"›
   | bl j=>cases ry;exact PySem.EqNone.eq_none_bool ‹"I"›
   | int j=>obtain ⟨t',rfl⟩:=ry;exact PySem.EqNone.eq_none_int ‹"I"›
   | str j=>obtain ⟨t',rfl⟩:=ry;exact PySem.EqNone.eq_none_str ‹"I"›
   | _=>exact absurd (show false=true from hs) Yo
 | bl i=>
   cases rx;cases y with
   | non=>cases ry;exact PySem.EqNone.eq_bool_none ‹"I"›
   | bl j=>cases ry;exact eq_bool (qe I q jku)
   | str j=>obtain ⟨t',rfl⟩:=ry;exact PySem.EqMixed.eq_bool_str ‹"I"›
   | _=>exact absurd (show false=true from hs) Yo
 | int i=>
   obtain ⟨t,rfl⟩:=rx;cases y with
   | non=>cases ry;exact PySem.EqNone.eq_int_none ‹"I"›
   | int j=>obtain ⟨t',rfl⟩:=ry;exact eq_int (qe I q jhS)
   | str j=>obtain ⟨t',rfl⟩:=ry;exact PySem.EqMixed.eq_int_str ‹"I"›
   | _=>exact absurd (show false=true from hs) Yo
 | str i=>
   obtain ⟨t,rfl⟩:=rx;cases y with
   | non=>cases ry;exact PySem.EqNone.eq_str_none ‹"I"›
   | bl j=>cases ry;exact PySem.EqMixed.eq_str_bool ‹"I"›
   | int j=>obtain ⟨t',rfl⟩:=ry;exact PySem.EqMixed.eq_str_int ‹"I"›
   | str j=>obtain ⟨t',rfl⟩:=ry;exact eq_str (qe I q jh5)
   | _=>exact absurd (show false=true from hs) Yo
 | byt i=>
   obtain ⟨t,rfl⟩:=rx;cases y with
   | byt j=>obtain ⟨t',rfl⟩:=ry;exact PySem.W.eq_bytes (qe I q jip)
   | _=>exact absurd (show false=true from hs) Yo
 | _=>cases y <;> exact absurd (show false=true from hs) Yo
theorem jpG:OpR X (compareOp .NotEq) rNe:=by
 intro tf s σ H x y v u Q I rx ry h;obtain ⟨hs,q⟩:=h;cases x with
 | non=>
   cases rx;cases y with
   | non=>cases ry;exact PySem.EqNone.ne_none_none ‹"I"›
   | bl j=>cases ry;exact PySem.EqNone.ne_none_bool ‹"I"›
   | int j=>obtain ⟨t',rfl⟩:=ry;exact PySem.EqNone.ne_none_int ‹"I"›
   | str j=>obtain ⟨t',rfl⟩:=ry;exact PySem.EqNone.ne_none_str ‹"I"›
   | _=>exact absurd (show false=true from hs) Yo
 | bl i=>
   cases rx;cases y with
   | non=>cases ry;exact PySem.EqNone.ne_bool_none ‹"I"›
   | bl j=>cases ry;exact ne_bool (qe I q (congrArg not jku))
   | str j=>obtain ⟨t',rfl⟩:=ry;exact PySem.EqMixed.ne_bool_str ‹"I"›
   | _=>exact absurd (show false=true from hs) Yo
 | int i=>
   obtain ⟨t,rfl⟩:=rx;cases y with
   | non=>cases ry;exact PySem.EqNone.ne_int_none ‹"I"›
   | int j=>obtain ⟨t',rfl⟩:=ry;exact ne_int (qe I q (congrArg not jhS))
   | str j=>obtain ⟨t',rfl⟩:=ry;exact PySem.EqMixed.ne_int_str ‹"I"›
   | _=>exact absurd (show false=true from hs) Yo
 | str i=>
   obtain ⟨t,rfl⟩:=rx;cases y with
   | non=>cases ry;exact PySem.EqNone.ne_str_none ‹"I"›
   | bl j=>cases ry;exact PySem.EqMixed.ne_str_bool ‹"I"›
   | int j=>obtain ⟨t',rfl⟩:=ry;exact PySem.EqMixed.ne_str_int ‹"I"›
   | str j=>obtain ⟨t',rfl⟩:=ry;exact ne_str (qe I q (congrArg not jh5))
   | _=>exact absurd (show false=true from hs) Yo
 | byt i=>
   obtain ⟨t,rfl⟩:=rx;cases y with
   | byt j=>obtain ⟨t',rfl⟩:=ry;exact PySem.W.ne_bytes (qe I q (congrArg not jip))
   | _=>exact absurd (show false=true from hs) Yo
 | _=>cases y <;> exact absurd (show false=true from hs) Yo
theorem jqt:OpR X (compareOp .Lt) (rI0 fun i j=>.bl (decide (i<j))):=jlS fun _ _ _ _ _ _ _ q=>lt_int q
theorem jqW:OpR X (compareOp .LtE) (rI0 fun i j=>.bl (decide (i<=j))):=jlS fun _ _ _ _ _ _ _ q=>le_int q
theorem jqC:OpR X (compareOp .Gt) (rI0 fun i j=>.bl (decide (j<i))):=jlS fun _ _ _ _ _ _ _ q=>gt_int q
theorem jpl:OpR X (compareOp .GtE) (rI0 fun i j=>.bl (decide (j<=i))):=jlS fun _ _ _ _ _ _ _ q=>ge_int q
theorem nomark (b:Expr) {op:CmpOp} (h:op≠.In:=by decide) (h2:op≠.NotIn:=by decide):behindInMarks op b=false:=by
 have e1:(op == CmpOp.In)=false:=by cases op <;> first | rfl | exact absurd rfl h
 have e2:(op == CmpOp.NotIn)=false:=by cases op <;> first | rfl | exact absurd rfl h2
 cases b <;> simp [behindInMarks,e1,e2]
theorem jlI {op:CmpOp} {r:R2} (ho:OpR X (compareOp op) r) (ha:PE X a ta) (hb:PE X b tb) (hm:behindInMarks op b=false):PE X (.Compare a [op] [b] pos) (tOp r ta tb):=by intro tf s σ H Q I h;exact wpAny_Compare1 (jnT ha hb I h fun v u s2 x y H2 I2 rx ry q=>ho tf s2 σ H2 x y v u Q I2 rx ry q) hm
def jni (t:TE):TT:=fun σ H Q=>t σ H fun x H'=>∃k,x=.bl k/\Q k H'
theorem jmb {op:CmpOp} {r:R2} (ho:OpR X (compareOp op) r) (ha:PE X a ta) (hb:PE X b tb) (hm:behindInMarks op b=false):PT X (.Compare a [op] [b] pos) (jni (tOp r ta tb)):=by
 intro tf s σ H Q I h;refine wpAny_isTrue_Compare1 (qD ‹"ac"› fun v s1 ⟨x,H1,I1,r1,q1⟩=>qD (hb tf s1 σ H1 _ I1 q1) fun u s2 ⟨y,H2,I2,r2,q2⟩=>qD (ho tf s2 σ H2 x y v u _ I2 r1 r2 q2) fun c s3 ⟨z,H3,I3,r3,k,e,q3⟩=>?_) hm
 subst e;cases r3;exact yN ⟨H3,I3,q3⟩
def jkC (r r':R2) (ta tb tc:TE):TE:=fun σ H Q=>ta σ H fun x H1=>tb σ H1 fun y H2=>r x y H2 fun z H3=>∃k,z=.bl k /\
 (if k=true then tc σ H3 fun w' H4=>r' y w' H4 Q else Q (.bl false) H3)
theorem jj6 {op op':CmpOp} {r r':R2} (ho:OpR X (compareOp op) r) (ho':OpR X (compareOp op') r') (ha:PE X a ta) (hb:PE X b tb) (hc:PE X c tc)
 (hm:autoParam (lastMarks [op,op'] [b,c]=false) QA.a6._auto_1):PE X (.Compare a [op,op'] [b,c] pos) (jkC r r' ta tb tc):=by
 intro tf s σ H Q I h;refine Compare_chain (qD ‹"ac"› fun v s1 ⟨x,H1,I1,r1,q1⟩=>chain_link (qD (hb tf s1 σ H1 _ I1 q1) fun u s2 ⟨y,H2,I2,r2,q2⟩=>qD (ho tf s2 σ H2 x y v u _ I2 r1 r2 q2) fun d s3 ⟨z,H3,I3,r3,k,e,q3⟩=>?_)) hm
 subst e;cases r3;refine yN ?_;cases k with
 | false=>exact ite_ff ⟨.bl false,H3,I3,rfl,q3⟩
 | true=>exact ite_tt (chain_last (qD (hc tf s3 σ H3 _ I3 q3) fun w' s4 ⟨z',H4,I4,r4,q4⟩=>ho' tf s4 σ H4 y z' u w' Q I4 r2 r4 q4))
theorem Z8:(sizeLine:Nat)<2 ^ 63:=by rw [sizeLine_eq];decide
theorem jbC {x:V} {us:List Value} (r:Vals [x] us):∃u,us=[u]/\RelV x u:=by
 cases r with
 | cons r1 r2=>cases r2;exact ⟨_,rfl,r1⟩
theorem jjp {x y:V} {us:List Value} (r:Vals [x,y] us):∃u w',us=[u,w']/\RelV x u/\RelV y w':=by
 cases r with
 | cons r1 r2=>
   cases r2 with
   | cons r3 r4=>cases r4;exact ⟨_,_,rfl,r1,r3⟩
theorem jiZ (hc:X.calm=true):CallR X (.builtin "max") (fun xs H Q=>∃i j,xs=[.int i,.int j] ∧ Q (.int (if j>i then j else i)) H):=by
 intro tf s σ H xs us Q I r h;obtain ⟨i,j,rfl,q⟩:=h;obtain ⟨u,w',rfl,⟨t,rfl⟩,⟨t',rfl⟩⟩:=jjp r;refine max_two_ints (I.ok.hd hc) fun h' tk k=>⟨_,H,I.kept k,?_,q⟩;by_cases hj:j>i
 . rw [if_pos hj,if_pos hj];exact ⟨_,rfl⟩
 . rw [if_neg hj,if_neg hj];exact ⟨_,rfl⟩
theorem jiT (hc:X.calm=true):CallR X (.builtin "min") (fun xs H Q=>∃i j,xs=[.int i,.int j] ∧ Q (.int (if j<i then j else i)) H):=by
 intro tf s σ H xs us Q I r h;obtain ⟨i,j,rfl,q⟩:=h;obtain ⟨u,w',rfl,⟨t,rfl⟩,⟨t',rfl⟩⟩:=jjp r;refine min_two_ints (I.ok.hd hc) fun h' tk k=>⟨_,H,I.kept k,?_,q⟩;by_cases hj:j<i
 . rw [if_pos hj,if_pos hj];exact ⟨_,rfl⟩
 . rw [if_neg hj,if_neg hj];exact ⟨_,rfl⟩
theorem jjb:CallR X (.type "int") (fun xs H Q=>(∃i,xs=[.int i] ∧ Q (.int i) H) ∨ ∃k,xs=[.bl k] ∧ Q (.int (if k then 1 else 0)) H):=by
 intro tf s σ H xs us Q I r h;rcases h with ⟨i,rfl,q⟩ | ⟨k,rfl,q⟩
 . obtain ⟨u,rfl,t,rfl⟩:=jbC r;exact call_int_int ⟨.int i,H,I,⟨_,rfl⟩,q⟩
 . obtain ⟨u,rfl,r1⟩:=jbC r;cases r1;exact call_int_bool ⟨.int (if k then 1 else 0),H,I.tok _,⟨_,rfl⟩,q⟩
end
end L2
namespace L2
open PySem PySem.Spec PyProof.Rows
structure ObjM (h:Heap) (x dx C:Addr) (mA:Str->Option Value):Prop where
 obj:h.get? x=some (PySem.W.instObj C dx)
 ns:h.Ns1 dx mA
 ne:dx≠x
theorem jiw {h:Heap} {dx:Addr} {mA:Str->Option Value} (n:h.Ns1 dx mA):∃od,h.get? dx=some od/\∀name,PySem.W.lookIn name od=some (mA name):=by
 obtain ⟨o,es,ep,ho,hd,hk,_,hm⟩:=n;refine ⟨o,ho,fun name=>?_⟩;have e:=hm name;unfold nsFind findBy at e;rw [<-Array.find?_toList] at e;unfold PySem.W.lookIn;rw [hd];dsimp only;split
 . rename_i y q;rw [q] at e;exact congrArg some e
 . rename_i q;rw [q] at e;have a:es.toList.any (·.refKey)=false:=by rw [List.any_eq_false];intro y hy;obtain ⟨z,t,hkey⟩:=hk y (Array.mem_toList_iff.mp hy);simp [DictEntry.refKey,hkey]
   have a':¬es.toList.any (·.refKey)=true:=by rw [a];exact Yo
   rw [if_neg a'];exact congrArg some e
theorem ObjM.look {h:Heap} {x dx C:Addr} {mA:Str->Option Value} (I:ObjM h x dx C mA):∃od,PySem.W.InstAt h x (PySem.W.instObj C dx) C (some od)/\∀name,PySem.W.lookIn name od=some (mA name):=
 let ⟨od,ho,hl⟩:=jiw I.ns
 ⟨od,⟨I.obj,rfl,rfl,ho⟩,hl⟩
section
variable {prog:Program} {w:World} {A:Around} {E:Value->Shared->Prop} {s:Shared} {K:PySem.W.Frag} {x dx C f:Addr} {mA:Str->Option Value} {name:Str} {v:Value}
end
theorem RelO.some_of {v:V} {o:Option Value} (r:RelO (some v) o):∃u,o=some u/\RelV v u:=by
 cases o with
 | none=>exact (show False from r).elim
 | some u=>exact ⟨u,rfl,r⟩
section
variable {P:Program} {w:World} {H H':Hp} {h h':Heap} {a C dx:Addr} {fs fs':List (Str×V)}
theorem jl2 (hok:HOk P w H h) (e:H a=some (.ins C dx fs)):∃mA,ObjM h a dx C mA/\(∀f,RelO (fs.lookup f) (mA f))/\PySem.Within mA (fs.map (·.1))/\fs.length<=1000/\H dx=some (.own a):=by obtain ⟨d,z,ne,ob,mA,n,r,q⟩:=(show ObjOk P w H h a (.ins C dx fs) from hok a _ e);exact ⟨mA,⟨ob,n,ne⟩,r,q,z,d⟩
end
structure Cls (K:PySem.W.Frag) (C:Addr):Prop where
 pg:PySem.W.plainGet K C Str.empty=true
 hd:PySem.W.hasDictIn K C=true
 po:PySem.W.plainOver K C=true
 sa:PySem.W.findIn K (.ref C) "__setattr__"=some (some (.builtin "object.__setattr__"))
theorem Cls.get {K:PySem.W.Frag} {C:Addr} (c:Cls K C) (f:Str):PySem.W.plainGet K C f=true:=c.pg
section
variable {X:Cx} {tf:List (Addr×Obj)} {σ:St} {H:Hp} {s:Shared} {a C dx:Addr} {fs:List (Str×V)} {f:Str} {v:V} {A:Around} {E:Value->Shared->Prop}
end
section
variable {X:Cx} {o e value:Expr} {f:Str} {pos pos' tpos:Pos} {ta tv:TE}
end
section
variable {X:Cx} {tf:List (Addr×Obj)} {σ:St} {H:Hp} {s:Shared} {A:Around} {E:Value->Shared->Prop} {Q:Value->Shared->Prop} {c:Value} {b:Bool}
inductive TyOf (K:PySem.W.Frag) (H:Hp):V->Value->Prop where
 | non:TyOf K H .non (.type "NoneType")
 | bl (x:Bool):TyOf K H (.bl x) (.type "bool")
 | int (i:Int):TyOf K H (.int i) (.type "int")
 | str (x:Str):TyOf K H (.str x) (.type "str")
 | flt (x:UInt64):TyOf K H (.flt x) (.type "float")
 | lst {a:Addr} {xs:List V} (e:H a=some (.lst xs)):TyOf K H (.ref a) (.type "list")
 | frz {a:Addr} {o:Obj} {xs:List V} (e:H a=some (.frz o (.lst xs))):TyOf K H (.ref a) (.type "list")
 | tup {a:Addr} {xs:List V} (e:H a=some (.tup xs)):TyOf K H (.ref a) (.type "tuple")
 | dK {a:Addr} {kvs:List (zw×V)} (e:H a=some (.dK kvs)):TyOf K H (.ref a) (.type "dict")
 | dT {a:Addr} {kvs:List (List zw×V)} (e:H a=some (.dT kvs)):TyOf K H (.ref a) (.type "dict")
 | ins {a C dx:Addr} {fs:List (Str×V)} (e:H a=some (.ins C dx fs)) (cl:Cls K C) (ha:PySem.W.findIn K (.ref C) "__class__"=some (some (.builtin "object.__class__")))
  (hn:PySem.W.specialIn K (.builtin "object.__class__") "__get__"=some (some (.builtin "getset_descriptor.__get__"))) (htk:PySem.W.takesIn K (.builtin "object.__class__")=some true)
  (hm:PySem.W.mroIn K C (.type "object")=some true):TyOf K H (.ref a) (.ref C)
theorem jiE {x:V} {u t:Value} (I:Inv X tf σ H s) (rx:RelV x u) (ty:TyOf X.K H x t) (e:PySem.W.kitOne X.K t c=some b) (h:∀tk,Q (.bool b) { s with toks:=tk }) :
 wpAny ‹"h"› A (call (.builtin "isinstance") [u,c]) Q E s:=by
 cases ty with
 | non=>cases (show u=Value.none from rx);exact yu PySem.W.kitx_none I.kIn True.intro e (fun z=>nomatch z) h
 | bl y=>cases (show u=Value.bool y from rx);exact yu PySem.W.kitx_bool I.kIn True.intro e (fun z=>nomatch z) h
 | int i=>obtain ⟨t,q⟩:=(show ∃t,u=Value.int i t from rx);cases q;exact yu PySem.W.kitx_int I.kIn True.intro e (fun z=>nomatch z) h
 | str y=>obtain ⟨t,q⟩:=(show ∃t,u=Value.str y t from rx);cases q;exact yu PySem.W.kitx_str I.kIn True.intro e (fun z=>nomatch z) h
 | flt y=>obtain ⟨t,q⟩:=(show ∃t,u=Value.float y t from rx);cases q;exact yu PySem.W.kitx_float I.kIn True.intro e (fun z=>nomatch z) h
 | @lst a xs ea=>cases (show u=Value.ref a from rx);obtain ⟨_,_,n,_,h1⟩:=(show ObjOk X.prog X.w H s.heap a (.lst xs) from I.hok a _ ea);exact yu PySem.W.kitx_list I.kIn ⟨_,h1,rfl⟩ e (fun z=>nomatch z) h
 | @frz a ob xs ea=>cases (show u=Value.ref a from rx);obtain ⟨_,_,_,n,_,h1⟩:=(show ObjOk X.prog X.w H s.heap a (.frz ob (.lst xs)) from I.hok a _ ea);exact yu PySem.W.kitx_list I.kIn ⟨_,h1,rfl⟩ e (fun z=>nomatch z) h
 | @tup a xs ea=>cases (show u=Value.ref a from rx);obtain ⟨_,_,_,p⟩:=(show ObjOk X.prog X.w H s.heap a (.tup xs) from I.hok a _ ea);obtain ⟨o,h1,h2,_⟩:=p;exact yu PySem.W.kitx_tuple I.kIn ⟨o,h1,h2⟩ e (fun z=>nomatch z) h
 | @dK a kvs ea=>cases (show u=Value.ref a from rx);obtain ⟨_,_,vs,_,p⟩:=(show ObjOk X.prog X.w H s.heap a (.dK kvs) from I.hok a _ ea);obtain ⟨o,es,ep,h1,h2,_⟩:=p;exact yu PySem.W.kitx_dict I.kIn ⟨o,h1,h2.1⟩ e (fun z=>nomatch z) h
 | @dT a kvs ea=>cases (show u=Value.ref a from rx);obtain ⟨_,_,xs,_,o,es,ep,h1,h2,_⟩:=(show ObjOk X.prog X.w H s.heap a (.dT kvs) from I.hok a _ ea);exact yu PySem.W.kitx_dict I.kIn ⟨o,h1,h2.1⟩ e (fun z=>nomatch z) h
 | @ins a C dx fs ea cl ha hn htk hm=>cases (show u=Value.ref a from rx);obtain ⟨mA,O,_⟩:=jl2 I.hok ea;obtain ⟨od,J,_⟩:=O.look;exact yu (PySem.W.kitx_own (cl.get _) cl.hd ha hn htk hm) I.kIn J e (fun z=>nomatch z) h
end
end L2
namespace L2
open PySem PySem.Spec PyProof.Rows
structure Room (k:Nat) (A:Around):Prop where
 hd:A.handled=none
 dp:A.depth+3*k+5<recursionLimit
 un:A.units+16*k+200<cLine
theorem Room.mono {j k:Nat} {A:Around} (r:Room k A) (h:j<=k):Room j A:=⟨r.hd,by have:=r.dp;omega,by have:=r.un;omega⟩
theorem Room.deeper {k:Nat} {A:Around} (r:Room (k+1) A) (env:Env):Room k (A.deeper env):=⟨r.hd,by have:=r.dp;show A.depth+1+3*k+5<_;omega,by have:=r.un;show A.units+3+16*k+200<_;omega⟩
theorem Room.depth {k:Nat} {A:Around} (r:Room k A):A.depth<recursionLimit:=by have:=r.dp;omega
theorem Room.units {k:Nat} {A:Around} (r:Room k A):A.units+64<cLine:=by have:=r.un;omega
def jiB:TA:=fun _ H Q=>Q [] H
def jdf (ta:TE) (tr:TA):TA:=fun σ H Q=>ta σ H fun x H1=>tr σ H1 fun xs H2=>Q (x::xs) H2
section
variable {X:Cx} {e:Expr} {es:List Expr} {te:TE} {t:TA} {pos:Pos}
theorem jcf:PA X [] jiB:=fun _ _ _ _ H Q I h=>K1 ⟨[],H,I,.nil,h⟩
theorem Zv (ha:PE X e te) (hr:PA X es t) (hs:starEach (e::es) X.env=(false,eval e X.env)::starEach es X.env:=by rfl):PA X (e::es) (jdf te t):=by intro pos tf s σ H Q I h;rw [hs];show wpAny _ _ (spliced ((false,eval e X.env)::backTo pos (starEach es X.env))) _ _ s;refine KQ (qD ‹"ac"› fun u s1 zz=>?_);obtain ⟨x,H1,I1,r1,q1⟩:=zz;exact qD (hr pos tf s1 σ H1 _ I1 q1) fun us s2 ⟨xs,H2,I2,r2,q2⟩=>⟨x::xs,H2,I2,.cons r1 r2,q2⟩
def jqe (t:TA):TE:=fun σ H Q=>t σ H fun xs H1=>xs.length<=sizeLine/\∀p,H1 p=none->Q (.ref p) (upd H1 p (.tup xs))
def jqn (t:TA):TE:=fun σ H Q=>t σ H fun xs H1=>xs.length<=sizeLine/\∀p,H1 p=none->Q (.ref p) (upd H1 p (.lst xs))
theorem jnS {x1} (h:PA X es t):PE X (.Tuple es x1 pos) (jqe t):=by intro tf s σ H Q I hq;refine wpAny_Tuple_spliced ‹"aF"›;have hf:H1 s1.heap.objs.size=none:=I1.hok.fresh (Ys _);refine ⟨.ref s1.heap.objs.size,upd H1 s1.heap.objs.size (.tup xs),I1.laid (t':=s1.toks) (fun b u e=>Yl _ e) (Ys _) ?_,rfl,q _ hf⟩;exact ⟨z,us,r,⟨_,Yx _ rfl,rfl,_,rfl⟩⟩
theorem joO (h:PA X es t):PE X (.List es pos) (jqn t):=by intro tf s σ H Q I hq;refine wpAny_List_spliced ‹"aF"›;have hf:H1 s1.heap.objs.size=none:=I1.hok.fresh (Ys _);refine ⟨.ref s1.heap.objs.size,upd H1 s1.heap.objs.size (.lst xs),I1.laid (t':=s1.toks) (fun b u e=>Yl _ e) (Ys _) ?_,rfl,q _ hf⟩;exact ⟨z,us,0,r,Yx _ rfl⟩
end
abbrev Sp:=List V->Hp->VK->XK->Prop
abbrev CXT:=List Env->Hp->Shared->XK->Value->Shared->Prop
structure Env0 (P:Program) (w:World) (K:PySem.W.Frag) (mg:Str->Option Value) (base:Heap) (A:Around) (outer:List Env) (s:Shared) (H:Hp):Prop where
 frames:A.frames=some outer
 mod:Mod K mg base
 bs:∀b o,base.get? b=some o->s.heap.get? b=some o/\H b=none
 bsz:base.objs.size<=s.heap.objs.size
 funs:s.heap.FunFrames base outer
 frf:∀b∈frs outer,H b=none
 hok:HOk P w H s.heap
 bare:AllBare s.gens
def CE (outer:List Env) (P:Program) (w:World) (H:Hp) (s:Shared) (Q:VK) (u:Value) (s':Shared):Prop:=∃v H',s'.os=s.os/\AllBare s'.gens/\Un (frs outer) [] H H' s.heap s'.heap/\HOk P w H' s'.heap/\RelV v u/\Q v H'
def CR (CX:CXT) (outer:List Env) (P:Program) (w:World) (H:Hp) (s:Shared) (Q:VK) (E:XK) (r:Result) (s':Shared):Prop:=
 match r with
 | .ok (.ret u)=>CE outer P w H s Q u s'
 | .ok _=>False
 | .error e=>CX outer H s E e s'
structure FnOk (P:Program) (w:World) (K:PySem.W.Frag) (mg:Str->Option Value) (base:Heap) (CX:CXT) (k:Nat) (f:Addr) (fd:FuncData) (ps:List Str) (sp:Sp):Prop where
 len:∀vs H Q E,sp vs H Q E->vs.length=ps.length
 run:∀(A:Around) (outer:List Env) (s:Shared) (H:Hp) (args:Args) (us:List Value) (vs:List V) (Q:VK) (E:XK),Room k A->Env0 P w K mg base A outer s H->BindsTo s fd args (ps.zip us)->Vals vs us->sp vs H Q E->
  codeAny (model P w) A (.call (.ref f) args) (CR CX outer P w H s Q E) s
theorem FnOk.mono {P:Program} {w:World} {K:PySem.W.Frag} {mg:Str->Option Value} {base:Heap} {CX:CXT} {j k:Nat} {f:Addr} {fd:FuncData} {ps:List Str} {sp:Sp} (F:FnOk P w K mg base CX j f fd ps sp) (h:j<=k) :
 FnOk P w K mg base CX k f fd ps sp:=⟨F.len,fun A outer s H args us vs Q E hr=>F.run A outer s H args us vs Q E (hr.mono h)⟩
theorem FnOk.imp {P:Program} {w:World} {K:PySem.W.Frag} {mg:Str->Option Value} {base:Heap} {CX:CXT} {k:Nat} {f:Addr} {fd:FuncData} {ps:List Str} {sp sp':Sp} (F:FnOk P w K mg base CX k f fd ps sp)
 (h:∀vs H Q E,sp' vs H Q E->sp vs H Q E):FnOk P w K mg base CX k f fd ps sp':=
 ⟨fun vs H Q E q=>F.len vs H Q E (h _ _ _ _ q),fun A outer s H args us vs Q E hr he hb hv hs=>F.run A outer s H args us vs Q E hr he hb hv (h _ _ _ _ hs)⟩
section
variable {X:Cx} {tf:List (Addr×Obj)} {σ:St} {H:Hp} {s s':Shared}
theorem Inv.env0 (I:Inv X tf σ H s):Env0 X.prog X.w X.K X.mg X.base X.A X.stack s H:=⟨I.ok.frames,I.ok.mod,I.bs,Y2 I.ok.bsz I.sz,I.stack,I.stkFree,I.hok,I.bare⟩
theorem Inv.after {Q:VK} {u:Value} (I:Inv X tf σ H s) (h:CE X.stack X.prog X.w H s Q u s'):EP X tf σ Q u s':=by obtain ⟨v,H',os,bare,un,hok,r,q⟩:=h;obtain ⟨hh,g,d,t,os'⟩:=s';obtain rfl:os'=s.os:=os;exact ⟨v,H',I.call (h':=hh) (g':=g) (d':=d) (t':=t) (ch:=[]) un hok bare (fun b z=>absurd z (by simp)),r,q⟩
end
def jjQ (sp:Sp) (dvs:List V) (E:XK) (t:TA):TE:=fun σ H Q=>t σ H fun vs H1=>sp (vs++dvs) H1 Q E
def Binds (K:PySem.W.Frag) (fd:FuncData) (ps:List Str) (ds:List Value):Prop:=∀(s:Shared) (us:List Value),K.In s.heap->(us++ds).length=ps.length->BindsTo s fd ⟨us,[]⟩ (ps.zip (us++ds))
theorem Binds.all {K:PySem.W.Frag} {fd:FuncData} {ps:List Str} (h:∀us:List Value,us.length=ps.length->bindArgs fd ⟨us,[]⟩=pure (ps.zip us)):Binds K fd ps []:=fun s us _ hl=>by rw [Kd] at hl ⊢;exact .of_eq (h us hl)
def jgx (CX:CXT) (X:Cx) (E:XK):Prop:=∀(tf:List (Addr×Obj)) (σ:St) (H:Hp) (s:Shared) (e:Value) (s':Shared),Inv X tf σ H s->CX X.stack H s E e s'->X.xe e s'
section
variable {X:Cx} {CX:CXT} {k:Nat} {f C:Addr} {fd:FuncData} {ps:List Str} {sp:Sp} {dvs:List V} {ds:List Value} {E:XK} {x m:Str} {p pos apos:Pos} {e o:Expr} {es:List Expr} {ta:TE} {t:TA}
theorem jnq {tf:List (Addr×Obj)} {σ:St} {H:Hp} {s:Shared} {Q:VK} {us:List Value} {vs:List V} (F:FnOk X.prog X.w X.K X.mg X.base CX k f fd ps sp) (hr:Room k X.A) (hb:Binds X.K fd ps ds) (hd:Vals dvs ds) (hx:jgx CX X E)
 (I:Inv X tf σ H s) (r:Vals vs us) (h:sp (vs++dvs) H Q E):wpAny ‹"h"› X.A (call (.ref f) us) (EP X tf σ Q) X.xe s:=by
 have r2:Vals (vs++dvs) (us++ds):=r.append hd;have hl:(us++ds).length=ps.length:=by rw [<-r2.length];exact F.len _ _ _ _ h
 refine wpAny_call (km (F.run X.A X.stack s H ⟨us,[]⟩ (us++ds) (vs++dvs) Q E hr I.env0 (hb s us I.kIn hl) r2 h) fun r s' hq=>?_);cases r with
 | error e=>exact hx tf σ H s e s' I hq
 | ok fl=>
   cases fl with
   | ret u=>exact I.after hq
   | next=>exact False.elim hq
   | brk=>exact False.elim hq
   | cont=>exact False.elim hq
theorem jhI (F:FnOk X.prog X.w X.K X.mg X.base CX k f fd ps sp) (hr:Room k X.A) (hg:Gl X x) (hm:X.mg x=some (.ref f)) (hk:PySem.W.keepIn X.K (.ref f)=true) (hb:Binds X.K fd ps ds) (hd:Vals dvs ds) (hx:jgx CX X E)
 (ha:PA X (e::es) t) (hdb:‹"q"›=false:=by decide) (he:starEach (e::es) X.env=(false,eval e X.env)::starEach es X.env:=by rfl) (hpl:(backTo pos (starEach es X.env)).any (·.1)=false:=by rfl) :
 PE X ‹"E"› (jjQ sp dvs E t):=by
 intro tf s σ H Q I h;refine wpAny_Call_Name_kw (jhw I hg hm ?_ hdb);refine PySem.W.callWith_K (h₀:=X.base) I.ok.mod.kin hk (qD (ha pos tf s σ H _ I h) fun us s1 ⟨vs,H1,I1,r,q⟩=>⟨I1.kIn,?_⟩) he hpl;exact jnq F hr hb hd hx I1 r q
end
section
variable {X:Cx} {CX:CXT} {k:Nat} {f C:Addr} {fd:FuncData} {ps ks:List Str} {sp:Sp} {E:XK} {x m:Str} {p pos apos kpos:Pos} {e o:Expr} {es:List Expr} {kws:List Keyword} {te ta:TE} {t tk:TA} {nm:Option Str}
variable {g:List Value->List Value->List Value} {gV:List V->List V->List V}
end
structure FnScope (N P:List Str) (sc:Scope):Prop where
 kind:sc.kind=.function
 co:sc.isCoroutine=false
 gen:sc.isGenerator=false
 nd:N.Nodup
 pre:N.take P.length=P
 par:∀x∈P,sc.names.lookup x=some .local\/sc.names.lookup x=some .cell
 nofree:∀y∈sc.names,y.2≠.free
theorem jdR {kindOf:Str->Option NameKind} {x:Str}:∀{binds:List (Str×Value)} {m:Str->Option Value},(∀v,(x,v)∉binds)->bindL kindOf binds m x=m x
 | [],_,_=>rfl
 | (n,v)::r,m,h=>by
   unfold bindL;rw [jdR fun w hw=>h w (Yj _ hw)];split
   . have:x≠n:=by rintro rfl;exact h v Yf
     simp [this]
   . rfl
theorem jdS {kindOf:Str->Option NameKind} {x:Str}:∀{binds:List (Str×Value)} {m:Str->Option Value},(∀v,(x,v)∉binds)->bindC kindOf binds m x=m x
 | [],_,_=>rfl
 | (n,v)::r,m,h=>by
   unfold bindC;rw [jdS fun w hw=>h w (Yj _ hw)];split
   . rfl
   . have:x≠n:=by rintro rfl;exact h v Yf
     simp [this]
theorem jdZ {kindOf:Str->Option NameKind} {x:Str} {v:Value}:∀{P:List Str} {vs:List Value} {i:Nat} {m:Str->Option Value},P.Nodup->P[i]?=some x->vs[i]?=some v->kindOf x=some .local->
 bindL kindOf (P.zip vs) m x=some v
 | [],_,_,_,_,h,_,_=>by simp at h
 | _::_,[],_,_,_,_,h,_=>by simp at h
 | p::P,w::vs,0,m,nd,h1,h2,hk=>by simp at h1 h2;subst h1;subst h2;show bindL kindOf ((p,w)::P.zip vs) m p=_;unfold bindL;rw [jdR fun v hv=>(ye.mp nd).1 (KO hv).1,if_pos hk];simp
 | p::P,w::vs,i+1,m,nd,h1,h2,hk=>by show bindL kindOf ((p,w)::P.zip vs) m x=_;unfold bindL;exact jdZ (i:=i) (ye.mp nd).2 (by simpa using h1) (by simpa using h2) hk
theorem jd6 {kindOf:Str->Option NameKind} {x:Str} {v:Value}:∀{P:List Str} {vs:List Value} {i:Nat} {m:Str->Option Value},P.Nodup->P[i]?=some x->vs[i]?=some v->kindOf x≠some .local->
 bindC kindOf (P.zip vs) m x=some v
 | [],_,_,_,_,h,_,_=>by simp at h
 | _::_,[],_,_,_,_,h,_=>by simp at h
 | p::P,w::vs,0,m,nd,h1,h2,hk=>by simp at h1 h2;subst h1;subst h2;show bindC kindOf ((p,w)::P.zip vs) m p=_;unfold bindC;rw [jdS fun v hv=>(ye.mp nd).1 (KO hv).1,if_neg hk];simp
 | p::P,w::vs,i+1,m,nd,h1,h2,hk=>by show bindC kindOf ((p,w)::P.zip vs) m x=_;unfold bindC;exact jd6 (i:=i) (ye.mp nd).2 (by simpa using h1) (by simpa using h2) hk
def Z0 (N:List Str) (vs:List V):St:=vs.map some++List.replicate (N.length-vs.length) none
def jg0 (CX:CXT) (P:Program) (w:World) (K:PySem.W.Frag) (mg:Str->Option Value) (base:Heap) (N:List Str) (qual:Str) (scope:Scope) (f:Addr) (cd:Value) (A:Around) (outer:List Env) (s:Shared) (H:Hp) (E:XK):Cx where
 prog:=P
 w:=w
 K:=K
 mg:=mg
 base:=base
 A:=A.deeper ‹"6"›
 N:=N
 s₀:=s
 H₀:=H
 env:=envOfC qual scope s.heap.objs.size f cd
 outer:=outer
 stack:=envOfC qual scope s.heap.objs.size f cd::outer
 ex:=[]
 calm:=true
 fn:=fun _=>true
 pn:=[]
 xe:=fun e s'=>wpAny (model P w) (A.deeper ‹"6"›) (leaving ‹"6"› e) (fun _ s''=>CX outer H s E e s'') (fun e' s''=>CX outer H s E e' s'') s'
theorem jfN {sc:Scope} {n:Nat} {x:Str} (h:sc.names.lookup x=some .cell):∃c,(cellsFrom n sc.names []).lookup x=some c:=by have q:=PySem.W.cellsFrom_some sc.names n [] (.inl h);exact Option.isSome_iff_exists.mp q
theorem jis {CX:CXT} {P:Program} {w:World} {K:PySem.W.Frag} {mg:Str->Option Value} {base:Heap} {N ps:List Str} {qual:Str} {scope:Scope} {f:Addr} {cd:Value} {A:Around} {outer:List Env} {s s1:Shared} {H:Hp} {E:XK} {us:List Value} {vs:List V}
 (S:FnScope N ps scope) (hd:A.handled=none) (e0:Env0 P w K mg base A outer s H) (hl:vs.length=ps.length) (r:Vals vs us)
 (x:InCallC s s.heap.objs.size (bindL ‹"6"›.kindOf (ps.zip us) fun _=>none) (cellsFrom (s.heap.objs.size+1) scope.names []) (bindC ‹"6"›.kindOf (ps.zip us) fun _=>none) s1) :
 Inv (jg0 CX P w K mg base N qual scope f cd A outer s H E) [] (Z0 N vs) H s1:=by
 have hpl:ps.length<=N.length:=by have:=congrArg List.length S.pre;rw [K5] at this;omega
 obtain ⟨h1,tk,rfl,hk⟩:=x.done;have noA:∀b:Addr,b∉(jg0 CX P w K mg base N qual scope f cd A outer s H E).ex:=fun b z=>absurd (show b∈([]:List Addr) from z) (by simp);refine ⟨⟨e0.mod,S.kind,rfl,rfl,Ys _,fun y z c h1 h2=>?_,fun y hy=>?_,fun y c _ h=>?_,fun _=>hd,Around.frames_deeper e0.frames,.inr ⟨rfl,rfl⟩,fun b z=>absurd z (noA b),e0.bs,e0.bsz,fun b _ _=>noA b,fun b z=>absurd z (noA b),e0.funs,e0.frf⟩,
  rfl,e0.bare,Un.kept hk,⟨_,x.toInCall.ns,fun i y v h1 h2 h3=>?_⟩,fun y c h=>⟨_,x.cell y c h⟩,e0.hok.fresh (Ys _),fun y c h=>?_,fun p hp=>absurd (show p∈([]:List (Addr×Obj)) from hp) (by simp),e0.hok.kept hk,?_⟩
 . exact name_of_addr x.apart (Kg h1) (Kg h2)
 . have hy:scope.names.lookup y=some .cell\/scope.names.lookup y=some .free:=hy;rcases hy with hy | hy
   . exact jfN hy
   . exact absurd rfl (S.nofree _ (Kg hy))
 . exact yL (x.above y c (Kg h))
 . have hi:i<vs.length:=by
    unfold Z0 at h2;by_cases hi:i<vs.length
    . exact hi
    . rw [YC ‹"an"›] at h2;rw [List.getElem?_replicate] at h2;split at h2 <;> cases h2
   have ha:vs[i]?=some v:=by
    unfold Z0 at h2;rw [YB ‹"an"›,List.getElem?_map] at h2;cases e:vs[i]? with
    | none=>rw [e] at h2;cases h2
    | some a=>rw [e] at h2;cases h2;rfl
   obtain ⟨u,hu,rv⟩:=r.get ha;have hp:ps[i]?=some y:=by rw [<-S.pre,List.getElem?_take_of_lt (by omega)];exact h1
   have ndP:ps.Nodup:=by rw [<-S.pre];exact S.nd.sublist (List.take_sublist _ _)
   refine ⟨u,rv,?_⟩;rcases S.par y (YE hp) with k | k
   . exact .inl ⟨k,jdZ ndP hp hu k⟩
   . obtain ⟨c,e⟩:=jfN (n:=s.heap.objs.size+1) k;refine .inr ⟨.inl k,c,e,?_⟩;have q:=x.cell y c e;rw [jd6 ndP hp hu (by show scope.names.lookup y≠_;rw [k];decide)] at q;exact q
 . exact e0.hok.fresh (yL (x.above y c (Kg h)))
 . unfold Z0;show _=N.length;rw [YU,Yc,List.length_replicate];omega
theorem jpk {CX:CXT} {P:Program} {w:World} {K:PySem.W.Frag} {mg:Str->Option Value} {base:Heap} {k:Nat} {f:Addr} {name qual:Str} {params:Arguments} {body:List Stmt} {scope:Scope} {dV kV doc pm cdv ct oc:Value} {an od:Option Addr}
 {osl:Array (Option Value)} {N ps:List Str} {sp:Sp} (lk:K.lookup f=some ⟨oc,od,.func (PySem.W.fnOf name qual params body scope dV kV doc pm an cdv ct),osl⟩) (hcd:PySem.W.codeIn K cdv qual=true) (S:FnScope N ps scope)
 (len:∀vs H Q E,sp vs H Q E->vs.length=ps.length)
 (hbody:∀(A:Around) (outer:List Env) (s:Shared) (H:Hp) (vs:List V) (Q:VK) (E:XK),Room k (A.deeper (envOfC qual scope s.heap.objs.size f cdv))->sp vs H Q E->
  ∃t,PSs (jg0 CX P w K mg base N qual scope f cdv A outer s H E) body t/\t { nx:=fun _ H'=>Q .non H',rt:=Q } (Z0 N vs) H) :
 FnOk P w K mg base CX (k+1) f (PySem.W.fnOf name qual params body scope dV kV doc pm an cdv ct) ps sp:=by
 refine ⟨len,fun A outer s H args us vs Q E hr e0 hb r hsp=>?_⟩;have hl:=len _ _ _ _ hsp;have KX:K.In s.heap:=e0.mod.kin.keeps fun b o e=>(e0.bs b o e).1;have lim:s.heap.NoLimit:=e0.mod.nolimit.keeps fun b o e=>(e0.bs b o e).1;have hkind:∀y∈ps.zip us,scope.names.lookup y.1=some .local\/(scope.names.lookup y.1=some .cell/\((cellsFrom (s.heap.objs.size+1) scope.names []).lookup y.1).isSome=true):=fun ⟨n,v⟩ hy=>by
  rcases S.par n (KO hy).1 with q | q
  . exact .inl q
  . exact .inr ⟨q,PySem.W.cellsFrom_some _ _ _ (.inl q)⟩
 refine codeAny_call_function hr.depth (KX _ _ lk) rfl S.co S.gen rfl (PySem.W.codeRec_of KX hcd) (hb _ _ _ _ ?_);refine wpAny_newFunctionEnv_cells S.kind hkind fun env he s1 x=>?_;subst he;refine ⟨lim.keeps x.toInCall.keep,codeAny_func ?_⟩;obtain ⟨t,ht,hq⟩:=hbody A outer s H vs Q E (hr.deeper _) hsp;have I:Inv (jg0 CX P w K mg base N qual scope f cdv A outer s H E) [] (Z0 N vs) H s1:=jis S hr.hd e0 hl r x;refine yr (ht [] s1 (Z0 N vs) H _ I hq) (fun fl s' hs=>?_) fun e s' hs=>hs;have fin:∀{σ':St} {H':Hp} {v:V} {u:Value},Inv (jg0 CX P w K mg base N qual scope f cdv A outer s H E) [] σ' H' s'->RelV v u->Q v H'->CE outer P w H s Q u s':=fun {σ' H' v u} J rv q=>⟨v,H',J.os,J.bare,J.base,J.hok,rv,q⟩
 cases fl with
 | ret u=>obtain ⟨v,σ',H',J,rv,q⟩:=hs;exact fin J rv q
 | next=>obtain ⟨σ',H',J,q⟩:=hs;exact fin (v:=V.non) (u:=Value.none) J rfl q
 | brk=>obtain ⟨_,_,_,q⟩:=hs;exact False.elim q
 | cont=>obtain ⟨_,_,_,q⟩:=hs;exact False.elim q
end L2
namespace L2
open PySem PySem.Spec PyProof.Rows
section
variable {X:Cx} {x:Str} {p pos:Pos} {e:Expr} {es:List Expr} {t:TA} {id T:String} {r:List V->Hp->VK->Prop}
def tCB (r:List V->Hp->VK->Prop) (t:TA):TE:=fun σ H Q=>t σ H fun vs H1=>r vs H1 Q
theorem jaK (hc:CallR X (.builtin id) r) (hg:Gl X x) (hm:X.mg x=none) (hv:bootBuiltins x=some (.builtin id)) (ha:PA X (e::es) t) (hn:x ≠ "__name__":=by decide) (hdb:‹"q"›=false:=by decide)
 (he:starEach (e::es) X.env=(false,eval e X.env)::starEach es X.env:=by rfl) (hpl:(backTo pos (starEach es X.env)).any (·.1)=false:=by rfl):PE X ‹"E"› (tCB r t):=by
 intro tf s σ H Q I h;refine wpAny_Call_Name_kw (Qh I hg hm hv ?_ hn hdb);exact PyProof.Rows.callWith_builtin1 ‹"aM"› he hpl
theorem Zy (hc:CallR X (.type T) r) (hg:Gl X x) (hm:X.mg x=none) (hv:bootBuiltins x=some (.type T)) (ha:PA X (e::es) t) (hn:x ≠ "__name__":=by decide) (hdb:‹"q"›=false:=by decide)
 (he:starEach (e::es) X.env=(false,eval e X.env)::starEach es X.env:=by rfl) (hpl:(backTo pos (starEach es X.env)).any (·.1)=false:=by rfl):PE X ‹"E"› (tCB r t):=by
 intro tf s σ H Q I h;refine wpAny_Call_Name_kw (Qh I hg hm hv ?_ hn hdb);exact YY ‹"aM"› he hpl
end
end L2
namespace HT
open PySem PyProof.Rows
section
open PySem.SeqAt
open PySem.AutoSeq1 (wpAny_loadPart')
open PySem.MeetsSeq PySem.MeetsSeq2 PySem.MeetsSeq3
end
section
variable {prog:Program} {w:World} {A:Around} {E:Value->Shared->Prop} {s:Shared}
def sIx (n d:Nat):Option Int->Nat
 | none=>d
 | some v=>if v<0 then (v+(n:Int)).toNat else min v.toNat n
theorem sIx_none (n d:Nat):sIx n d none=d:=rfl
theorem sIx_nat (n d k:Nat):sIx n d (some (k:Int))=min k n:=by show (if (k:Int)<0 then ((k:Int)+(n:Int)).toNat else min (k:Int).toNat n)=min k n;rw [if_neg (by omega),Yp]
end
end HT
namespace L2
open PySem PySem.Spec PyProof.Rows
abbrev TO:=St->Hp->(Option Int->Hp->Prop)->Prop
def PO (X:Cx) (e:Option Expr) (t:TO):Prop:=
 ∀(tf:List (Addr×Obj)) (s:Shared) (σ:St) (H:Hp) (Q:Option Int->Hp->Prop),Inv X tf σ H s->t σ H Q->
   wpAny ‹"h"› X.A (evalPart e X.env) (fun u s'=>∃o H',Inv X tf σ H' s'/\IsPart u o/\Q o H') X.xe s
def jhG:TO:=fun _ H Q=>Q none H
def jnb (t:TE):TO:=fun σ H Q=>t σ H fun x H1=>∃i,x=.int i/\Q (some i) H1
theorem jac {ns:List Int}:∀{us:List Value},Vals (ns.map V.int) us->IntsAre us ns:=by
 induction ns with
 | nil=>intro us r;rw [yD] at r;cases r;exact .nil
 | cons n ns ih=>
   intro us r;rw [List.map_cons] at r;cases r with
   | cons r1 r2=>obtain ⟨t,e⟩:=r1;subst e;exact .cons n t (ih r2)
section
variable {X:Cx} {e:Expr} {te:TE} {lo hi:Option Expr} {tl th:TO} {pos p2:Pos}
theorem jlV:PO X none jhG:=by intro tf s σ H Q I h;rw [evalPart_none];exact Yk ⟨none,H,I,.none,h⟩
theorem jls (h:PE X e te):PO X (some e) (jnb te):=by intro tf s σ H Q I hw;rw [evalPart_some];refine qD (h tf s σ H _ I hw) fun u s1 zz=>?_;obtain ⟨x,H1,I1,r1,q1⟩:=zz;obtain ⟨i,rfl,q⟩:=q1;obtain ⟨t,rfl⟩:=r1;exact ⟨some i,H1,I1,.int i t,q⟩
def SlR (X:Cx) (r:V->Option Int->Option Int->Hp->VK->Prop):Prop:=
 ∀(tf:List (Addr×Obj)) (s:Shared) (σ:St) (H:Hp) (x:V) (v vl vu:Value) (lo hi:Option Int) (sl:Addr) (Q:VK),Inv X tf σ H s->RelV x v->s.heap.IsSliceOf sl vl vu .none->IsPart vl lo->IsPart vu hi->r x lo hi H Q->
   ∃T id,typeLookup (.type T) "__getitem__"=pure (some (.builtin id)) ∧ s.TypeIs v T ∧ wpAny ‹"h"› X.A (getItem v (.ref sl)) (EP X tf σ Q) X.xe s
def tSl (r:V->Option Int->Option Int->Hp->VK->Prop) (te:TE) (tl th:TO):TE:=fun σ H Q=>te σ H fun x H1=>tl σ H1 fun l H2=>th σ H2 fun u H3=>r x l u H3 Q
theorem jkD {r:V->Option Int->Option Int->Hp->VK->Prop} (hr:SlR X r) (he:PE X e te) (hl:PO X lo tl) (hu:PO X hi th):PE X (.Subscript e (.Slice lo hi none p2) pos) (tSl r te tl th):=by intro tf s σ H Q I h;refine Subscript_ (qD (he tf s σ H _ I h) fun v s1 zz=>?_);obtain ⟨x,H1,I1,r1,q1⟩:=zz;refine wpAny_Slice (qD (hl tf s1 σ H1 _ I1 q1) fun vl s2 ⟨l,H2,I2,pl,q2⟩=>qD (hu tf s2 σ H2 _ I2 q2) fun vu s3 zz=>?_);obtain ⟨u,H3,I3,pu,q3⟩:=zz;rw [evalPart_none];refine Yk ?_;have I4:Inv X tf σ H3 { s3 with heap:=s3.heap.push { cls:=.type "slice",data:=.fields #[vl,vu,.none] } }:=I3.kept (t':=s3.toks) fun b ob q=>Yl _ q;obtain ⟨T,id,hT,ht,hg⟩:=hr tf { s3 with heap:=s3.heap.push { cls:=.type "slice",data:=.fields #[vl,vu,.none] } } σ H3 x v vl vu l u s3.heap.objs.size Q I4 r1 (Heap.IsSliceOf.new ..) pl pu q3;show wpAny ‹"h"› X.A (subscriptTail e (.Slice lo hi none p2) v (.ref s3.heap.objs.size)) (EP X tf σ Q) X.xe { s3 with heap:=s3.heap.push { cls:=.type "slice",data:=.fields #[vl,vu,.none] } };exact tail_any (ops:=[.ref s3.heap.objs.size,v]) ht hT hg (by with_unfolding_all rfl)
def jiU (xs:List V) (lo hi:Option Int):List V:=(xs.drop (HT.sIx xs.length 0 lo)).take ‹"aI"›
theorem jgm (xs:List V) (lo hi:Option Int):(jiU xs lo hi).length<=xs.length:=by unfold jiU;rw [K5,List.length_drop];omega
end
end L2
namespace L2
open PySem PySem.Spec PyProof.Rows
def ixN (n:Nat) (i:Int):Option Nat:=if 0<=i then (if i<n then some i.toNat else none) else if -(n:Int)<=i then some (i+n).toNat else none
def atI {α:Type} (xs:List α) (i:Int):Option α:=(ixN xs.length i).bind fun j=>xs[j]?
theorem jik {n:Nat} {i:Int} {j:Nat} (h:ixN n i=some j):seqIndex? i n=some j/\j<n /\ -(n:Int)<=i/\i<n:=by
 unfold ixN at h;by_cases h0:0<=i
 . rw [if_pos h0] at h;by_cases h1:i<n
   . rw [if_pos h1] at h;have e:i.toNat=j:=Option.some.inj h;exact ⟨by rw [seqIndex_of h0 h1,e],by omega,by omega,h1⟩
   . rw [if_neg h1] at h;cases h
 . rw [if_neg h0] at h;by_cases h1:-(n:Int)<=i
   . rw [if_pos h1] at h;have e:(i+n).toNat=j:=Option.some.inj h;exact ⟨by rw [seqIndex_neg (by omega) h1,e],by omega,h1,by omega⟩
   . rw [if_neg h1] at h;cases h
theorem jeh {α:Type} {xs:List α} {i:Int} {v:α} (h:atI xs i=some v):∃j,seqIndex? i xs.length=some j/\xs[j]?=some v/\j<xs.length /\ -(xs.length:Int)<=i/\i<xs.length:=by
 unfold atI at h;cases e:ixN xs.length i with
 | none=>rw [e] at h;cases h
 | some j=>rw [e] at h;obtain ⟨h1,h2,h3,h4⟩:=jik e;exact ⟨j,h1,h,h2,h3,h4⟩
def jeF (b:Expr):Prop:=∀o i,subscripted b false o i=operate [o,i] (getItem o i)
def IxR (X:Cx) (r:R2):Prop:=
 ∀(value slice:Expr) (tf:List (Addr×Obj)) (s:Shared) (σ:St) (H:Hp) (x y:V) (v u:Value) (Q:VK),Inv X tf σ H s->RelV x v->RelV y u->r x y H Q->
   subscripted slice false v u=operate [v,u] (getItem v u)->wpAny ‹"h"› X.A (subscriptTail value slice v u) (EP X tf σ Q) X.xe s
def MtR (X:Cx) (id:String) (r:V->List V->Hp->VK->Prop):Prop:=
 ∀(tf:List (Addr×Obj)) (s:Shared) (σ:St) (H:Hp) (x:V) (xs:List V) (v:Value) (us:List Value) (Q:VK),Inv X tf σ H s->RelV x v->Vals xs us->r x xs H Q->
   wpAny ‹"h"› X.A (call (.builtin id) (v::us)) (EP X tf σ Q) X.xe s
section
variable {X:Cx} {a b:Expr} {ta tb:TE} {pos:Pos}
theorem IxR.or {r r':R2} (h:IxR X r) (h':IxR X r'):IxR X (fun x y H Q=>r x y H Q\/r' x y H Q):=by
 intro value slice tf s σ H x y v u Q I rx ry q hs;rcases q with q | q
 . exact h value slice tf s σ H x y v u Q I rx ry q hs
 . exact h' value slice tf s σ H x y v u Q I rx ry q hs
theorem jmO {r:R2} (hr:IxR X r) (ha:PE X a ta) (hb:PE X b tb) (hs:jeF b):PE X (.Subscript a b pos) (tOp r ta tb):=by intro tf s σ H Q I h;exact Subscript_ (jnT ha hb I h fun v u s2 x y H2 I2 rx ry q=>hr a b tf s2 σ H2 x y v u Q I2 rx ry q (hs _ _))
def jpm (K:PySem.W.Frag):R2:=fun x y H Q=>∃p xs i v,x=.ref p/\y=.int i/\Jn K H p xs/\atI xs i=some v/\Q v H
def jpr (K:PySem.W.Frag):R2:=fun x y H Q=>∃p xs i v,x=.ref p/\y=.int i/\SqT K H p xs/\atI xs i=some v/\Q v H
def jqi:R2:=fun x y H Q=>∃z i c,x=.str z/\y=.int i/\z.length<=sizeLine/\atI z.cps.toList i=some c/\Q (.str ⟨#[c]⟩) H
theorem ix_list:IxR X (jpm X.K):=by
 intro value slice tf s σ H x y v u Q I rx ry h hs;obtain ⟨p,xs,i,z,rfl,rfl,hq,he,q⟩:=h;cases rx;obtain ⟨t,rfl⟩:=ry;obtain ⟨tu,r,pl,hz⟩:=I.list hq;obtain ⟨j,h1,h2,h3,h4,h5⟩:=jeh he;obtain ⟨w,ew,rw'⟩:=r.get h2;have hl:=r.length;have hn:=Z8;have fin:EP X tf σ Q w s:=⟨z,H,I,rw',q⟩;by_cases h0:0<=i
 . have hj:i.toNat=j:=by rw [seqIndex_of h0 h5] at h1;exact Option.some.inj h1
   exact item_listR pl.isList h0 (by omega) (by rw [hj];simpa using ew) fin hs
 . have hj:(i+(tu.toArray.size:Int)).toNat=j:=by rw [seqIndex_neg (by omega) h4] at h1;rw [YD,<- hl];exact Option.some.inj h1
   exact subscriptTail_builtinR (x:=w) pl.isList.typeIs slot_list_getitem.lookup
    (wpAny_getItem_list_neg (Q:=fun r s'=>r=w/\EP X tf σ Q r s') pl.isList (by omega) (by rw [YD] <;> omega) (by omega) (by rw [hj];simpa using ew) ⟨rfl,fin⟩) hs
theorem ix_tup:IxR X (jpr X.K):=by
 intro value slice tf s σ H x y v u Q I rx ry h hs;obtain ⟨p,xs,i,z,rfl,rfl,hq,he,q⟩:=h;cases rx;obtain ⟨t,rfl⟩:=ry;obtain ⟨tu,r,pl,hz⟩:=I.tuple hq;obtain ⟨j,h1,h2,h3,h4,h5⟩:=jeh he;obtain ⟨w,ew,rw'⟩:=r.get h2;have hl:=r.length;have hn:=Z8;have fin:EP X tf σ Q w s:=⟨z,H,I,rw',q⟩;exact subscriptTail_builtinR (x:=w) pl.typeIs slot_tuple_getitem.lookup
  (getItem_tuple (j:=j) (Q:=fun r s'=>r=w/\EP X tf σ Q r s') pl (by omega) (by omega) (by rw [YD,<- hl];exact h1) (by simpa using ew) ⟨rfl,fin⟩) hs
theorem jop:IxR X jqi:=by
 intro value slice tf s σ H x y v u Q I rx ry h hs;obtain ⟨z,i,c,rfl,rfl,hz,he,q⟩:=h;obtain ⟨t,rfl⟩:=rx;obtain ⟨t',rfl⟩:=ry;obtain ⟨j,h1,h2,h3,h4,h5⟩:=jeh he;have hl:z.cps.toList.length=z.length:=by simp [Str.length]
 rw [hl] at h1 h4 h5;have hn:=Z8;exact tail_any (typeIs_str s z t) slot_str_getitem.lookup (getItem_str (c:=c) (by have e1:decide (i < -(2 ^ 63:Int))=false:=Y6 (by omega);have e2:decide (i>=2 ^ 63)=false:=Y6 (by omega);rw [e1,e2,Bool.or_false]) (by rw [h1];simpa using h2) ⟨.str ⟨#[c]⟩,H,I.tok _,⟨_,rfl⟩,q⟩) hs
def rIx (K:PySem.W.Frag):R2:=fun x y H Q=>jpm K x y H Q\/jpr K x y H Q\/jqi x y H Q
theorem jjl:IxR X (rIx X.K):=ix_list.or (ix_tup.or jop)
theorem jhb (tu:List Value) (n j:Nat) (u:Value):Obj.mapSeq (·.setIfInBounds j u) { cls:=.type "list",data:=.seq tu.toArray n }={ cls:=.type "list",data:=.seq (tu.set j u).toArray n }:=by simp [Obj.mapSeq]
theorem Inv.lst {tf:List (Addr×Obj)} {σ:St} {H:Hp} {s:Shared} {p:Addr} {xs:List V} (I:Inv X tf σ H s) (h:H p=some (.lst xs)) :
 ∃(tu:List Value) (n:Nat),Vals xs tu ∧ s.heap.get? p=some { cls:=.type "list",data:=.seq tu.toArray n } ∧ xs.length ≤ sizeLine:=by
 obtain ⟨z,tu,n,r,e⟩:=I.hok p _ h;exact ⟨tu,n,r,e,z⟩
theorem Inv.lstUpd {tf:List (Addr×Obj)} {σ:St} {H:Hp} {s:Shared} {p:Addr} {xs ys:List V} {tu its':List Value} {n n':Nat} {f:Obj->Obj} (I:Inv X tf σ H s) (h:H p=some (.lst xs))
 (ho:s.heap.get? p=some { cls:=.type "list",data:=.seq tu.toArray n }) (hf:f { cls:=.type "list",data:=.seq tu.toArray n }={ cls:=.type "list",data:=.seq its'.toArray n' }) (r:Vals ys its') (hz:ys.length ≤ sizeLine) (t:Nat) :
 Inv X tf σ (upd H p (.lst ys)) { s with heap:=s.heap.update p f,toks:=t }:=by
 have e:(s.heap.update p f).get? p=some { cls:=.type "list",data:=.seq its'.toArray n' }:=by rw [YW f ho (by rw [hf] <;> rfl),hf]
 refine I.write (x:=p) (e:=p) (by rw [h];trivial) (.inl rfl) (fun b u hb q=>(Heap.get?_update_other _ _ (Ne.symm hb)).trans q) ⟨_,e⟩ ?_;exact ⟨hz,its',n',r,e⟩
def jk3:V->V->V->Hp->(Hp->Prop)->Prop:=fun o i v H Q=>∃p xs k j,o=.ref p/\i=.int k/\H p=some (.lst xs)/\ixN xs.length k=some j/\Q (upd H p (.lst (xs.set j v)))
theorem jfb:joj X jk3:=by
 intro tf s σ H o i v ov iv u Q I ro ri rv h;obtain ⟨p,xs,k,j,rfl,rfl,hp,hj,q⟩:=h;cases ro;obtain ⟨t,rfl⟩:=ri;obtain ⟨tu,n,r,ho,hz⟩:=I.lst hp;obtain ⟨h1,h2,h3,h4⟩:=jik hj;have hl:=r.length;have hn:=Z8;have I':Inv X tf σ (upd H p (.lst (xs.set j v))) { s with heap:=s.heap.update p (Obj.mapSeq (·.setIfInBounds j u)) }:=I.lstUpd hp ho (jhb tu n j u) (r.set rv j) (by rw [yS];exact hz) s.toks
 by_cases h0:0<=k
 . have hk:k.toNat=j:=by rw [seqIndex_of h0 h4] at h1;exact Option.some.inj h1
   exact PySem.W.ki_setAt ho h0 (by omega) (by rw [YD,<- hl];exact h4) (by rw [hk];exact ⟨_,I',q⟩)
 . have hk:(k+(tu.toArray.size:Int)).toNat=j:=by rw [seqIndex_neg (by omega) h3] at h1;rw [YD,<- hl];exact Option.some.inj h1
   exact PySem.W.ki_setBack ho (by omega) (by rw [YD,<- hl];exact h3) (by omega) (by rw [hk];exact ⟨_,I',q⟩)
theorem jeK (lo hi:Option Int) (n:Nat):(sliceBounds lo hi none n).1=((HT.sIx n 0 lo:Nat):Int)/\(sliceBounds lo hi none n).2.1=((HT.sIx n n hi:Nat):Int)/\(sliceBounds lo hi none n).2.2=1:=by
 refine ⟨?_,?_,rfl⟩
 . cases lo with
   | none=>simp [sliceBounds,HT.sIx]
   | some i=>
     simp only [sliceBounds,HT.sIx,Option.getD_none,show (1:Int)>0 by decide,yo];by_cases h:i<0
     . simp only [h,yo] <;> omega
     . simp only [h,yy] <;> omega
 . cases hi with
   | none=>simp [sliceBounds,HT.sIx]
   | some i=>
     simp only [sliceBounds,HT.sIx,Option.getD_none,show (1:Int)>0 by decide,yo];by_cases h:i<0
     . simp only [h,yo] <;> omega
     . simp only [h,yy] <;> omega
theorem jdx (tu:List Value) (lo hi:Option Int):slicePick tu.toArray lo hi none=((tu.drop (HT.sIx tu.length 0 lo)).take (HT.sIx tu.length tu.length hi-HT.sIx tu.length 0 lo)).toArray:=by obtain ⟨h1,h2,h3⟩:=jeK lo hi tu.toArray.size;unfold slicePick;rw [h1,h2,h3];simp only [sliceRange_one,pick_run,YD] <;> rfl
def joz (K:PySem.W.Frag):V->Option Int->Option Int->Hp->VK->Prop:=fun x lo hi H Q=>∃a xs,x=.ref a/\Jn K H a xs/\∀p,H p=none->Q (.ref p) (upd H p (.lst (jiU xs lo hi)))
theorem jmB:SlR X (joz X.K):=by intro tf s σ H x v vl vu lo hi sl Q I rx hs pl pu h;obtain ⟨a,xs,rfl,hx,q⟩:=h;cases rx;obtain ⟨tu,r,ht,hz⟩:=I.list hx;have tK:=r.length;refine ⟨"list",_,slot_list_getitem.lookup,ht.isList.typeIs,?_⟩;refine wpAny_getItem_list_slice ht.isList hs pl pu .none (by simp) ?_ (by rw [YD] <;> omega);rw [jdx,<- tK];refine ⟨.ref s.heap.objs.size,_,I.laid (t':=s.toks) (o:=.lst (jiU xs lo hi)) (fun b ob q=>Yl _ q) (Ys _) ?_,rfl,q _ (I.hok.fresh (Ys _))⟩;exact ⟨Y2 (jgm xs lo hi) hz,_,0,(r.drop (HT.sIx xs.length 0 lo)).take ‹"aI"›,Yx _ rfl⟩
def Qg:V->Bool
 | .non=>true
 | .bl _=>true
 | .int _=>true
 | .str _=>true
 | _=>false
def eqV:V->V->Bool
 | .non,.non=>true
 | .bl a,.bl b=>a == b
 | .bl a,.int b=>(if a then 1 else 0) == b
 | .int a,.bl b=>a == (if b then 1 else 0)
 | .int a,.int b=>a == b
 | .str a,.str b=>a == b
 | _,_=>false
theorem jaU {A:Around} {s:Shared} {y x:V} {u v:Value} (ry:RelV y u) (rx:RelV x v) (fy:Qg y=true) (fx:Qg x=true):SeqAt.EqAt A s u v (eqV y x):=by
 cases y with
 | non=>
   cases ry;cases x with
   | non=>cases rx;exact SeqAt.EqAt.same _
   | bl b=>cases rx;exact SeqAt.EqAt.none_bool b
   | int b=>obtain ⟨t,rfl⟩:=rx;exact SeqAt.EqAt.none_int b t
   | str b=>obtain ⟨t,rfl⟩:=rx;exact SeqAt.EqAt.none_str b t
   | _=>exact absurd (show false=true from fx) Yo
 | bl a=>
   cases ry;cases x with
   | non=>cases rx;exact SeqAt.EqAt.bool_none a
   | bl b=>cases rx;exact SeqAt.EqAt.bool_bool a b
   | int b=>obtain ⟨t,rfl⟩:=rx;exact SeqAt.EqAt.bool_int a b t
   | str b=>obtain ⟨t,rfl⟩:=rx;exact SeqAt.EqAt.bool_str a b t
   | _=>exact absurd (show false=true from fx) Yo
 | int a=>
   obtain ⟨t',rfl⟩:=ry;cases x with
   | non=>cases rx;exact SeqAt.EqAt.int_none a t'
   | bl b=>cases rx;exact SeqAt.EqAt.int_bool a t' b
   | int b=>obtain ⟨t,rfl⟩:=rx;exact SeqAt.EqAt.int_int a t' b t
   | str b=>obtain ⟨t,rfl⟩:=rx;exact SeqAt.EqAt.int_str a t' b t
   | _=>exact absurd (show false=true from fx) Yo
 | str a=>
   obtain ⟨t',rfl⟩:=ry;cases x with
   | non=>cases rx;exact SeqAt.EqAt.str_none a t'
   | bl b=>cases rx;exact SeqAt.EqAt.str_bool a t' b
   | int b=>obtain ⟨t,rfl⟩:=rx;exact SeqAt.EqAt.str_int a t' b t
   | str b=>obtain ⟨t,rfl⟩:=rx;exact SeqAt.EqAt.str_str a t' b t
   | _=>exact absurd (show false=true from fx) Yo
 | _=>exact absurd (show false=true from fy) Yo
def eqU (x:V) (u:Value):Bool:=match u with
 | .none=>eqV .non x
 | .bool b=>eqV (.bl b) x
 | .int i _=>eqV (.int i) x
 | .str z _=>eqV (.str z) x
 | _=>false
theorem jkS {x y:V} {u:Value} (r:RelV y u) (f:Qg y=true):eqU x u=eqV y x:=by
 cases y with
 | non=>cases r;rfl
 | bl b=>cases r;rfl
 | int i=>obtain ⟨t,rfl⟩:=r;rfl
 | str z=>obtain ⟨t,rfl⟩:=r;rfl
 | _=>exact absurd (show false=true from f) Yo
theorem jek {x:V}:∀{xs:List V} {us:List Value},Vals xs us->xs.all Qg=true->us.any (eqU x)=xs.any fun y=>eqV y x
 | _,_,.nil,_=>rfl
 | y::xs,u::us,.cons r t,f=>by rw [Kx,yi] at f;rw [KP,KP,jkS r f.1,jek t f.2]
theorem jcT {A:Around} {s:Shared} {x:V} {v:Value} (rx:RelV x v) (fx:Qg x=true):∀{xs:List V} {us:List Value},Vals xs us->xs.all Qg=true->∀u∈us,SeqAt.EqAt A s u v (eqU x u)
 | _,_,.nil,_=>fun u hu=>by cases hu
 | y::xs,u::us,.cons r t,f=>fun u' hu=>by
   rw [Kx,yi] at f;rcases Yq.mp hu with rfl | hu
   . rw [jkS r f.1];exact jaU r rx f.1 fx
   . exact jcT rx fx t f.2 u' hu
def inV (x:V) (xs:List V):Bool:=xs.any fun y=>eqV y x
def rIn (K:PySem.W.Frag) (neg:Bool):R2:=fun x y H Q=>∃p xs,y=.ref p/\(Jn K H p xs\/SqT K H p xs)/\Qg x=true/\xs.all Qg=true/\Q (.bl (if neg then !inV x xs else inV x xs)) H
theorem jiD:OpR X (compareOp .In) (rIn X.K false):=by
 intro tf s σ H x y v u Q I rx ry h;obtain ⟨p,xs,rfl,hq,fx,fs,q⟩:=h;cases ry;rcases hq with hq | hq
 . obtain ⟨tu,r,pl,hz⟩:=I.list hq;refine SeqAt.in_listAt (eqU x) pl.isList (fun w hw=>jcT rx fx r fs w (by simpa using hw)) ⟨.bl _,H,I,rfl,?_⟩;rw [show tu.toArray.any (eqU x)=tu.any (eqU x) by simp,jek r fs];exact q
 . obtain ⟨tu,r,pl,hz⟩:=I.tuple hq;refine SeqAt.in_tupleAt (eqU x) pl (fun w hw=>jcT rx fx r fs w (by simpa using hw)) ⟨.bl _,H,I,rfl,?_⟩;rw [show tu.toArray.any (eqU x)=tu.any (eqU x) by simp,jek r fs];exact q
theorem call_len_seq:CallR X (.builtin "len") (fun xs H Q=>∃p ys,xs=[.ref p] ∧ (Jn X.K H p ys ∨ SqT X.K H p ys) ∧ Q (.int ys.length) H):=by
 intro tf s σ H xs us Q I r h;obtain ⟨p,ys,rfl,hq,q⟩:=h;obtain ⟨u,rfl,rx⟩:=jbC r;cases rx;have hn:=Z8;rcases hq with hq | hq
 . obtain ⟨tu,r',pl,hz⟩:=I.list hq;have tK:=r'.length;exact Calls.call_len_list pl.isList (by simp only [YD] <;> omega) ⟨.int ys.length,H,I.tok _,⟨s.toks+1,by rw [YD,tK]⟩,q⟩
 . obtain ⟨tu,r',pl,hz⟩:=I.tuple hq;have tK:=r'.length;exact len_tuple pl (by simp only [YD] <;> omega) ⟨.int ys.length,H,I.tok _,⟨s.toks+1,by rw [YD,tK]⟩,q⟩
theorem jeM:CallR X (.builtin "len") (fun xs H Q=>∃z,xs=[.str z] ∧ z.length ≤ sizeLine ∧ Q (.int z.length) H):=by intro tf s σ H xs us Q I r h;obtain ⟨z,rfl,hz,q⟩:=h;obtain ⟨u,rfl,t,rfl⟩:=jbC r;have hn:=Z8;exact len_str (by omega) ⟨.int z.length,H,I.tok _,⟨_,rfl⟩,q⟩
theorem CallR.or {f:Value} {r r':List V->Hp->VK->Prop} (h:CallR X f r) (h':CallR X f r'):CallR X f (fun xs H Q=>r xs H Q\/r' xs H Q):=by
 intro tf s σ H xs us Q I rs q;rcases q with q | q
 . exact h tf s σ H xs us Q I rs q
 . exact h' tf s σ H xs us Q I rs q
theorem jeN:CallR X (.type "list") (fun xs H Q=>∃p ys,xs=[.ref p] ∧ (Jn X.K H p ys ∨ SqT X.K H p ys) ∧ ∀l,H l=none → Q (.ref l) (upd H l (.lst ys))):=by
 intro tf s σ H xs us Q I r h;obtain ⟨p,ys,rfl,hq,q⟩:=h;obtain ⟨u,rfl,rx⟩:=jbC r;cases rx;have fin:∀(tu:List Value),Vals ys tu->ys.length<=sizeLine->∀(h':Heap) (c':Nat),(∀b o',s.heap.get? b=some o'->h'.get? b=some o')->
  h'.get? s.heap.objs.size=some { cls:=.type "list",dict:=none,data:=.seq tu.toArray c',slots:=#[] } → EP X tf σ Q (.ref s.heap.objs.size) { s with heap:=h' }:=fun tu r' hz h' c' kp e=>
  ⟨.ref s.heap.objs.size,_,I.laid (t':=s.toks) kp (Ys _) (show ObjOk X.prog X.w _ h' _ (.lst ys) from ⟨hz,tu,c',r',e⟩),rfl,q _ (I.hok.fresh (Ys _))⟩
 rcases hq with hq | hq
 . obtain ⟨tu,r',pl,hz⟩:=I.list hq;have tK:=r'.length;obtain ⟨o,ho,hc,n,hd⟩:=pl.isList;exact call_list_seq p (.inl rfl) ho hc hd (fun h' c' kp e=>fin tu r' hz h' c' kp e) (by simp only [YD] <;> omega)
 . obtain ⟨tu,r',pl,hz⟩:=I.tuple hq;have tK:=r'.length;obtain ⟨o,ho,hc,n,hd⟩:=pl;exact call_list_seq p (.inr rfl) ho hc hd (fun h' c' kp e=>fin tu r' hz h' c' kp e) (by simp only [YD] <;> omega)
def tyV (K:PySem.W.Frag) (T:String) (x:V) (H:Hp):Prop:=match x with
 | .str _=>T = "str"
 | .int _=>T = "int"
 | .ref p=>(T = "list" ∧ ∃xs,Jn K H p xs) ∨ (T="tuple" ∧ ∃o,K.lookup p=some o ∧ o.cls=.type "tuple" ∧ o.dict=none) ∨
  (T = "dict" ∧ ((∃kvs,H p=some (.dK kvs)) ∨ ∃kvs,H p=some (.dT kvs))) ∨ (T="set" ∧ ∃S n,H p=some (.set S n))
 | _=>False
theorem jok {tf:List (Addr×Obj)} {σ:St} {H:Hp} {s:Shared} {T:String} {x:V} {v:Value} (I:Inv X tf σ H s) (r:RelV x v) (ty:tyV X.K T x H) :
 s.TypeIs v T/\∀a,v=.ref a->∃ob,s.heap.get? a=some ob/\ob.dict=none:=by
 cases x with
 | str z=>obtain ⟨t,rfl⟩:=r;cases (show T = "str" from ty);exact ⟨typeIs_str s z t,fun _ e=>nomatch e⟩
 | int i=>obtain ⟨t,rfl⟩:=r;cases (show T = "int" from ty);exact ⟨typeIs_int s i t,fun _ e=>nomatch e⟩
 | ref p=>
   cases r;rcases ty with ⟨rfl,xs,hq⟩ | ⟨rfl,o,hk,hc,hd⟩ | ⟨rfl,hk⟩ | ⟨rfl,S,n,hk⟩
   . obtain ⟨tu,_,pl,_⟩:=I.list hq;refine ⟨pl.isList.typeIs,fun a e=>?_⟩;cases e;obtain ⟨o,n,e,c,hd,_⟩:=pl;exact ⟨o,e,hd⟩
   . refine ⟨⟨o,I.kIn p o hk,hc⟩,fun a e=>?_⟩;cases e;exact ⟨o,I.kIn _ o hk,hd⟩
   . have z:∃o,s.heap.get? p=some o/\o.ExactDict:=by
       rcases hk with ⟨kvs,hk⟩ | ⟨kvs,hk⟩
       . obtain ⟨_,_,_,_,o,_,_,e,ex,_⟩:=I.hok p _ hk;exact ⟨o,e,ex⟩
       . obtain ⟨_,_,_,_,o,_,_,e,ex,_⟩:=I.hok p _ hk;exact ⟨o,e,ex⟩
     obtain ⟨o,e,ex⟩:=z;refine ⟨⟨o,e,ex.1⟩,fun a e2=>?_⟩;cases e2;exact ⟨o,e,ex.2.1⟩
   . obtain ⟨o,_,_,_,e,ex,_⟩:=I.hok p _ hk;refine ⟨⟨o,e,ex.1⟩,fun a e2=>?_⟩;cases e2;exact ⟨o,e,ex.2.1⟩
 | _=>exact False.elim ty
def tBM (K:PySem.W.Frag) (T:String) (r:V->List V->Hp->VK->Prop) (to:TE) (t:TA):TE:=fun σ H Q=>to σ H fun x H1=>tyV K T x H1/\t σ H1 fun xs H2=>r x xs H2 Q
variable {o e:Expr} {es:List Expr} {to:TE} {t:TA} {name:Str} {apos cpos:Pos} {T id:String} {r:V->List V->Hp->VK->Prop}
theorem jqO (pa:PlainAttrs T) (slot:Slot T name id) (hty:typeOf (.builtin id)=pure (.type "method_descriptor")) (hm:MtR X id r) (ho:PE X o to) (ha:PA X (e::es) t)
 (hbase:attributeBase o name X.env (eval o X.env)=eval o X.env:=by rfl)
 (hfew:autoParam (((backTo cpos (starEach (e::es) X.env)).all (fun x=>!x.1) && (backToKw cpos (keywordEach [] X.env)).all (fun x=>x.1.isSome)
  && decide ((e::es).length+([]:List Keyword).length+(if ([]:List Keyword).isEmpty then 0 else 1)<30))=true) QA.a4._auto_1)
 (hline:(apos.endLine == cpos.line)=true:=by rfl) (hs:starEach (e::es) X.env=(false,eval e X.env)::starEach es X.env:=by rfl) (hplain:(backTo cpos (starEach es X.env)).any (·.1)=false:=by rfl) :
 PE X (.Call (.Attribute o name apos) (e::es) [] cpos) (tBM X.K T r to t):=by
 intro tf s σ H Q I h;refine wpAny_Call_method_late hbase hfew hline rfl (qD (ho tf s σ H _ I h) fun v s1 zz=>?_);obtain ⟨x,H1,I1,r1,ty,q1⟩:=zz;obtain ⟨h1,h2⟩:=jok I1 r1 ty;refine ⟨T,id,pa,slot,hty,h1,h2,?_⟩;have hA:=ha cpos tf s1 σ H1 _ I1 q1;rw [hs] at hA ⊢;refine Calls.callWith_builtin (by show (false || (backTo cpos (starEach es X.env)).any (·.1))=false;rw [hplain] <;> rfl) (Calls.evalArgs_plain ?_);exact qD hA fun us s2 ⟨vs,H2,I2,r2,q2⟩=>hm tf s2 σ H2 x vs v us Q I2 r1 r2 q2
end
end L2
namespace L2
open PySem PySem.Spec PyProof.Rows
def MtM (X:Cx) (id:String) (r:V->List V->Hp->VK->Prop):Prop:=
 ∀(tf:List (Addr×Obj)) (s:Shared) (σ:St) (H:Hp) (x:V) (xs:List V) (v:Value) (us:List Value) (Q:VK),Inv X tf σ H s->RelV x v->Vals xs us->r x xs H Q->
   wpAny ‹"h"› X.A (call (.builtin id) (v::us)) (EP X tf σ Q) X.xe s
theorem Vals.one:∀{x:V} {us:List Value},Vals [x] us->∃u,us=[u]/\RelV x u:=fun h=>jbC h
theorem Vals.two:∀{x y:V} {us:List Value},Vals [x,y] us->∃u v,us=[u,v]/\RelV x u/\RelV y v:=fun h=>jjp h
section
variable {X:Cx} {tf:List (Addr×Obj)} {σ:St} {H:Hp} {s:Shared} {l b:Addr} {xs ys zs:List V}
theorem Inv.lset {tu its':List Value} {n:Nat} {f:Array Value->Array Value} {t':Nat} (I:Inv X tf σ H s) (hH:H l=some (.lst xs))
 (e:s.heap.get? l=some { cls:=.type "list",data:=.seq tu.toArray n }) (hf:f tu.toArray=its'.toArray) (hv:Vals ys its') (hz:ys.length ≤ sizeLine) :
 Inv X tf σ (upd H l (.lst ys)) { s with heap:=s.heap.update l (Obj.mapSeq f),toks:=t' }:=by
 have q:=PySem.IsL.update e f;rw [hf] at q;refine I.write (x:=l) (e:=l) (by rw [hH];exact trivial) (.inl rfl) (fun b' u hb hu=>(Heap.get?_update_other s.heap (Obj.mapSeq f) (Ne.symm hb)).trans hu) ⟨_,q⟩ ?_;exact ⟨hz,its',_,hv,q⟩
theorem Inv.lnew {tu:List Value} {t':Nat} (I:Inv X tf σ H s) (hv:Vals ys tu) (hz:ys.length<=sizeLine) :
 Inv X tf σ (upd H s.heap.objs.size (.lst ys)) { s with heap:=s.heap.push { cls:=.type "list",data:=.seq tu.toArray },toks:=t' }:=
 I.laid (fun _ _ q=>Yl _ q) (Ys _) ⟨hz,tu,0,hv,Yx _ rfl⟩
theorem Inv.fresh (I:Inv X tf σ H s):H s.heap.objs.size=none:=I.hok.fresh (Ys _)
theorem Inv.lstM (I:Inv X tf σ H s) (hH:H l=some (.lst xs)):xs.length ≤ sizeLine ∧ ∃(tu:List Value) (n:Nat),Vals xs tu ∧ xs.length=tu.length ∧ s.heap.get? l=some { cls:=.type "list",data:=.seq tu.toArray n }:=by obtain ⟨z,tu,n,r,e⟩:=I.hok l _ hH;exact ⟨z,tu,n,r,r.length,e⟩
end
section
variable {X:Cx}
def jeT:V->List V->Hp->VK->Prop:=fun x vs H Q=>∃l xs y,x=.ref l/\vs=[y]/\H l=some (.lst xs)/\xs.length<sizeLine/\Q .non (upd H l (.lst (xs++[y])))
theorem jix:MtM X "list.append" jeT:=by intro tf s σ H x vs v us Q I rx rv h;obtain ⟨l,xs,y,rfl,rfl,hH,hz,q⟩:=h;cases rx;obtain ⟨u,rfl,ru⟩:=rv.one;obtain ⟨z,tu,n,r,hl,e⟩:=I.lstM hH;refine call_meets F.slot_list_append ⟨_,e,rfl⟩ F.entry_list_append (F.args_list_append_2 _ _) (PySem.list_append l tu.toArray n u (by rw [YD];omega)) ⟨e,?_⟩;refine ⟨.non,_,I.lset (its':=tu++[u]) hH e (by simp) (r.append (.cons ru .nil)) ?_,rfl,q⟩;rw [YU,List.length_singleton];omega
end
section
variable {prog:Program} {w:World} {A:Around} {E:Value->Shared->Prop} {s:Shared}
end
section
variable {X:Cx}
end
end L2
namespace Att
open PySem PySem.W PySem.Calls PyProof.Rows
theorem jbT {P:Params} {h:Heap}:∀(ns:List Int) (vs:List Value),WellAll P h vs (ns.map WData.int)->IntsAre vs ns:=by
 intro ns;induction ns with
 | nil=>intro vs w;rw [yD] at w;cases w;exact .nil
 | cons n ns ih=>
   intro vs w;rw [List.map_cons] at w;cases w with
   | cons a b=>cases a;exact .cons _ _ (ih _ b)
theorem jja {l:OpenLaw} {n:Nat} (hn:l.most=some n) {P:Params} {h:Heap} {args:List WData} {vals:List Value}
 (hpre:l.row.toRowW.claim.pre args=true) (hwl:WellAll P h vals args) :
 ∃a vs ns,vals=[Value.ref a] ∧ args=[WData.list (ns.map WData.int)] ∧ h.get? a=some { cls:=.type "list",data:=.seq vs.toArray } ∧ IntsAre vs ns ∧ ns.length ≤ n:=by
 have hsh:WShape.hasAll [] args [.list .int]=true:=(pre_splitW hpre).1;have hc:l.pre.holds [] { args:=args }=true:=(pre_splitW hpre).2;obtain ⟨d,r,rfl,h1,h2⟩:=hasAllW_cons hsh;obtain rfl:=hasAllW_nil h2;obtain ⟨xs,rfl,h3⟩:=hasW_list h1;obtain ⟨ns,rfl⟩:=items_int h3;have tK:ns.length<=n:=by
  unfold OpenLaw.pre at hc;have h4:(WTm.not (.lt (.lit (.int (n:Int))) (.len (.arg 0)))).holds [] { args:=[.list (ns.map .int)] }=true:=by have h4:=(holds_andW hc).1;rw [hn] at h4;exact h4
  have h5:=condW_of h4 (w_not (w_lt w_lit (w_len_list (w_arg rfl))));rw [Yc] at h5;refine Nat.le_of_not_lt fun q=>?_;have q':(n:Int)<((ns.length:Nat):Int):=by omega
  first
   | (rw [Y8 q'] at h5;exact absurd h5 (by decide))
   | (simp at h5;omega)
 cases hwl with
 | cons w1 w2=>
   cases w2;cases w1 with
   | list ho hall=>exact ⟨_,_,ns,rfl,rfl,ho,jbT ns _ hall,tK⟩
theorem jiX (l:OpenLaw) (args:List WData):l.row.toRowW.claim.post args (.bool true) args=true:=
 postW_of (r:=l.row.toRowW) (X:=(true == true))
  (show WShape.has [] (.bool true) .bool=true by first | rfl | decide | simp [WShape.has,WShape.arms,WShape.armsAll])
  (show (WTm.eq .res (.lit (.bool true))).value [] { args:=args,res:=some (.bool true),after:=args }=some (.bool (true == true)) from w_eq_bool (w_res rfl) w_lit) rfl
theorem attach_call {l:OpenLaw} {n:Nat} {q:Program} {loose:List Str} {XP:(Str->Option Value)->Heap->Prop} {YP:World->Heap->Prop} {d:DefRec}
 (hn:l.most=some n) (hdf:d.params.defaults=[])
 (call:∀(w:World) (s₀ s₁:Shared) (mg mb:Str->Option Value) (fa:Addr) (o:Obj) (pm cd doc:Value) (a:Addr) (vs:List Value) (ns:List Int),
  Ground q loose [] XP w s₀ mg mb s₁.heap->YP w s₁.heap->
  s₁.heap.get? fa=some o->o.data=.func (docDef d.name d.params d.body d.scope pm cd doc)->s₁.heap.CodeRec cd d.name->mg d.name=some (.ref fa)->
  s₁.heap.get? a=some { cls:=.type "list",data:=.seq vs.toArray } → IntsAre vs ns → ns.length ≤ n → s₁.gens=#[] →
  codeAny (model l.prog w) callerA (.call (.ref fa) ⟨[.ref a],[]⟩) (fun r s'=>r=.ok (.ret (.bool true))/\OldK s₁.heap s'.heap/\s'.os=s₁.os/\AllBare s'.gens) s₁) :
 WalkO q loose XP YP l.row.toRowW d [] (fun f vs=>PySem.call f vs):=by
 intro w s₀ s₁ mg mb G Y fa o pm cd doc dV kV ho hd hcd hD hmg hg args vals as hpre hlay hrd hwl hlo;obtain rfl:dV=.none:=Dflts.none hD hdf;obtain rfl:kV=.none:=Dflts.noKw hD;obtain ⟨a,vs,ns,rfl,rfl,hobj,hints,tK⟩:=jja hn hpre hwl;refine enter_call (km (call w s₀ s₁ mg mb fa o pm cd doc a vs ns G Y ho (fd_plain hd) hcd hmg hobj hints tK hg) fun r s' hq=>?_);obtain ⟨rfl,h2,h3,h4⟩:=hq;exact ⟨.inl ⟨.bool true,.bool true,[],rfl,fun _=>rfl,.bool true,jiX l _,fun _=>⟨List.Pairwise.nil,fun _ hm=>(nomatch hm)⟩⟩,h2,h3,h4⟩
section
variable {prog:Program} {w:World} {A:Around} {E:Value->Shared->Prop} {s:Shared} {K:Frag}
end
end Att
namespace L2
open PySem PySem.Spec PyProof.Rows
theorem jbc:∀{vs:List Value} {ns:List Int},IntsAre vs ns->Vals (ns.map V.int) vs:=fun h=>by
 induction h with
 | nil=>exact .nil
 | cons n t _ ih=>exact .cons ⟨t,rfl⟩ ih
def joP (H:Hp):Prop:=∀b,H b=none\/∃o xs,H b=some (.frz o (.lst xs))
theorem jjm {P:Program} {w:World} {K:PySem.W.Frag} {mg mb:Str->Option Value} {CX:CXT} {k:Nat} {fa a:Addr} {fd:FuncData} {x:Str} {sp:Sp} {s₁:Shared} {vs:List Value} {ns:List Int}
 (KX:K.In s₁.heap) (hns:s₁.heap.Ns mainGlobals mg) (hb:s₁.heap.Ns builtinsNs mb) (hbb:∀x:Str,x ≠ "__name__" → mb x=bootBuiltins x) (hlim:s₁.heap.NoLimit) (hg:s₁.gens=#[])
 (ha:s₁.heap.get? a=some { cls:=.type "list",data:=.seq vs.toArray }) (hi:IntsAre vs ns) (hl:ns.length ≤ sizeLine) (hr:Room k callerA)
 (F:∀base:Heap,K.In base->base.Ns mainGlobals mg->FnOk P w K mg base CX k fa fd [x] sp) (hbind:∀(s:Shared) (u:Value),BindsTo s fd ⟨[u],[]⟩ [(x,u)])
 (hsp:∀H:Hp,joP H->Jn K H a (ns.map V.int)->sp [.ref a] H (fun v _=>v=.bl true) fun _ _ _=>False)
 (hCX:∀H e s',CX [] H s₁ (fun _ _ _=>False) e s'->False) :
 codeAny (model P w) callerA (.call (.ref fa) ⟨[.ref a],[]⟩) ‹"aP"› s₁:=by
 have rv:=jbc hi;have lenV:=hi.length
 -- from an abstract heap in which nothing but the script may be tracked
 have core:∀H:Hp,joP H->Jn K H a (ns.map V.int)->HOk P w H s₁.heap->(∀b,H b≠none->b=a)->(H a≠none->K.lookup a=none)->
  codeAny (model P w) callerA (.call (.ref fa) ⟨[.ref a],[]⟩) ‹"aP"› s₁:=by
  intro H hO hS hok hA hK;have base_of:∀{b:Addr} {o:Obj},s₁.heap.get? b=some o->H b=none->(jeD s₁.heap H).get? b=some o:=fun e n=>jjB e n;have noA:∀{b:Addr} {o:Obj} {es:Array DictEntry} {ep:Nat},s₁.heap.get? b=some o->o.data=.dict es ep->H b=none:=fun {b o es ep} e d=>by
   cases q:H b with
   | none=>rfl
   | some u=>have e':b=a:=hA b (by rw [q];simp);subst e';rw [ha] at e;cases e;have d':Data.seq vs.toArray _=Data.dict es ep:=d;cases d'
  have nsK:∀{b:Addr} {m:Str->Option Value},s₁.heap.Ns b m->(jeD s₁.heap H).Ns b m:=fun {b m} ⟨o,es,ep,e,d,r⟩=>⟨o,es,ep,base_of e (noA e d),d,r⟩;have hKb:K.In (jeD s₁.heap H):=fun b o e=>base_of (KX b o e) (by
   cases q:H b with
   | none=>rfl
   | some u=>have e':b=a:=hA b (by rw [q];simp);subst e';rw [hK (by rw [q];simp)] at e;cases e)
  have hM:Mod K mg (jeD s₁.heap H):=⟨hKb,nsK hns,⟨mb,nsK hb,hbb⟩,let ⟨mc,h1,h2⟩:=hlim;⟨mc,nsK h1,h2⟩⟩;have e0:Env0 P w K mg (jeD s₁.heap H) callerA [] s₁ H:=⟨rfl,hM,fun b o e=>jms e,Nat.le_of_eq (jiK _ _),trivial,fun b hb=>absurd (show b∈([]:List Addr) from hb) (by simp),hok,.of_eq hg⟩;refine km ((F _ hKb (nsK hns)).run callerA [] s₁ H ⟨[.ref a],[]⟩ [.ref a] [.ref a] _ _ hr e0 (hbind s₁ (.ref a)) (.cons rfl .nil) (hsp H hO hS)) fun r s' h=>?_;cases r with
  | error e=>exact (hCX H e s' h).elim
  | ok fl=>
    cases fl with
    | next=>exact False.elim h
    | brk=>exact False.elim h
    | cont=>exact False.elim h
    | ret u=>
      obtain ⟨v,H',os,bare,un,hok',r',q⟩:=h;have q':v=.bl true:=q;subst q';obtain rfl:u=Value.bool true:=r';refine ⟨rfl,OldK.of_keep fun b o e=>?_,os,bare⟩;cases q:H b with
      | none=>exact un.keep b o e q (by intro z;exact absurd (show b∈([]:List Addr) from z) (by simp)) (by simp)
      | some u=>
        rcases hO b with z | ⟨ob,xs,z⟩
        . rw [q] at z;cases z
        . have z2:=un.frzs b ob _ z;obtain ⟨e1,_⟩:=hok b _ z;obtain ⟨e2,_⟩:=hok' b _ z2;rw [e] at e1;cases e1;exact e2
 cases hk:K.lookup a with
 | some o=>
   -- the script is one of the module's own objects
   have e:=KX a o hk;rw [ha] at e;cases e;refine core (fun _=>none) (fun _=>.inl rfl) (.inr ⟨_,vs.toArray,_,hk,rfl,rfl,rfl,by rw [YD,lenV];exact hl,by simpa using rv⟩) (fun b u z=>by have z':(none:Option HO)=some u:=z;cases z') (fun b z=>absurd rfl z) fun z=>absurd rfl z
 | none=>
   refine core (fun b=>if b=a then some (.frz { cls:=.type "list",data:=.seq vs.toArray } (.lst (ns.map V.int))) else none) (fun b=>?_) (.inl (.inr ⟨{ cls:=.type "list",data:=.seq vs.toArray },if_pos rfl⟩)) (fun b u z=>?_) (fun b z=>?_) fun _=>hk
   . by_cases hb:b=a
     . exact .inr ⟨_,_,if_pos hb⟩
     . exact .inl (if_neg hb)
   . by_cases hb:b=a
     . have z':=(if_pos hb).symm.trans z;cases z';subst hb;exact ⟨ha,by rw [Yc];exact hl,vs,_,rv,ha⟩
     . have z':=(if_neg hb).symm.trans z;cases z'
   . by_cases hb:b=a
     . exact hb
     . exact absurd (if_neg hb) z
end L2
namespace L2
open PySem PySem.Spec PyProof.Rows
theorem jlR {l:PySem.W.OpenLaw} {n k:Nat} {q:Program} {loose:List Str} {XP:(Str->Option Value)->Heap->Prop} {YP:World->Heap->Prop} {d:DefRec} {K:Params->PySem.W.Frag} {CX:World->CXT} {sp:World->Sp} {x:Str}
 (hn:l.most=some n) (hn2:n<=sizeLine) (hdf:d.params.defaults=[]) (hr:Room k callerA)
 (hY:∀(w:World) (h:Heap),YP w h->(K w.params).In h)
 (F:∀(w:World) (mg:Str->Option Value) (fa:Addr) (h:Heap),(K w.params).In h->h.Ns mainGlobals mg->mg d.name=some (.ref fa)->
  ∃fd:FuncData,(∀(s:Shared) (u:Value),BindsTo s fd ⟨[u],[]⟩ [(x,u)]) /\
    ∀base:Heap,(K w.params).In base->base.Ns mainGlobals mg->FnOk l.prog w (K w.params) mg base (CX w) k fa fd [x] (sp w))
 (hsp:∀(w:World) (H:Hp) (a:Addr) (ns:List Int),ns.length<=n->joP H->Jn (K w.params) H a (ns.map V.int)->sp w [.ref a] H (fun v _=>v=.bl true) fun _ _ _=>False)
 (hCX:∀(w:World) (H:Hp) (s:Shared) (e:Value) (s':Shared),CX w [] H s (fun _ _ _=>False) e s'->False) :
 PySem.W.WalkO q loose XP YP l.row.toRowW d [] (fun f vs=>PySem.call f vs):=by
 refine Att.attach_call hn hdf fun w s₀ s₁ mg mb fa o pm cd doc a vs ns G Y ho hd hcd hmg hobj hints tK hg=>?_;have KX:=hY w _ Y;obtain ⟨fd,hb,hF⟩:=F w mg fa _ KX G.T.g hmg;exact jjm KX G.T.g G.T.b G.T.builtins G.T.nolimit hg hobj hints (Y2 tK hn2) hr hF hb (fun H hO hS=>hsp w H a ns tK hO hS) fun H e s'=>hCX w H s₁ e s'
end L2
namespace L2
open PySem PySem.Spec PyProof.Rows
def jJ (s:Stmt):Arguments:=match s with
 | .FunctionDef _ a _ _ _ _ _ _ _ _=>a
 | _=>{ posonlyargs:=[],args:=[],vararg:=none,kwonlyargs:=[],kw_defaults:=[],kwarg:=none,defaults:=[] }
def jH (s:Stmt):List Stmt:=match s with
 | .FunctionDef _ _ b _ _ _ _ _ _ _=>b
 | _=>[]
def jd (s:Stmt):Scope:=match s with
 | .FunctionDef _ _ _ _ _ _ sc _ _ _=>sc
 | _=>{ kind:=.function,names:=[],isGenerator:=false,isCoroutine:=false }
abbrev J6:CXT:=fun _ _ _ _ _ _=>False
abbrev E0:XK:=fun _ _ _=>False
theorem jnk {X:Cx}:jgx J6 X E0:=fun _ _ _ _ _ _ _ h=>h.elim
structure Fun (K:PySem.W.Frag) (x qual:Str) (st:Stmt) (f:Addr) (fd:FuncData):Prop where
 ex:∃(oc:Value) (od:Option Addr) (kV doc pm:Value) (an:Option Addr) (cdv ct:Value) (osl:Array (Option Value)),
  fd=PySem.W.fnOf x qual (jJ st) (jH st) (jd st) .none kV doc pm an cdv ct/\K.lookup f=some ⟨oc,od,.func fd,osl⟩/\PySem.W.codeIn K cdv qual=true
 kp:PySem.W.keepIn K (.ref f)=true
section
variable {P:Program} {w:World} {K:PySem.W.Frag} {mg:Str->Option Value} {base:Heap}
theorem Fun.ok {x qual:Str} {st:Stmt} {f:Addr} {fd:FuncData} {N ps:List Str} {k:Nat} {sp:Sp} (F:Fun K x qual st f fd) (S:FnScope N ps (jd st)) (len:∀vs H Q E,sp vs H Q E->vs.length=ps.length)
 (hbody:∀(cdv:Value) (A:Around) (outer:List Env) (s:Shared) (H:Hp) (vs:List V) (Q:VK) (E:XK),Room k ‹"ay"›->sp vs H Q E->
  ∃t,PSs (jg0 J6 P w K mg base N qual (jd st) f cdv A outer s H E).nox (jH st) t/\t { nx:=fun _ H'=>Q .non H',rt:=Q } (Z0 N vs) H):FnOk P w K mg base J6 (k+1) f fd ps sp:=by
 obtain ⟨oc,od,kV,doc,pm,an,cdv,ct,osl,rfl,lk,hcd⟩:=F.ex;refine jpk lk hcd S len fun A outer s H vs Q E hr hsp=>?_;obtain ⟨t,h,q⟩:=hbody cdv A outer s H vs Q E hr hsp;exact ⟨t,h.nox,q⟩
theorem Fun.binds {x qual:Str} {st:Stmt} {f:Addr} {fd:FuncData} {ps:List Str} (F:Fun K x qual st f fd)
 (h:∀(kV doc pm:Value) (an:Option Addr) (cdv ct:Value) (us:List Value),us.length=ps.length->bindArgs ‹"8"› ⟨us,[]⟩=pure (ps.zip us)):Binds K fd ps []:=by
 obtain ⟨oc,od,kV,doc,pm,an,cdv,ct,osl,rfl,lk,hcd⟩:=F.ex;exact .all (h kV doc pm an cdv ct)
theorem jX {x qual:Str} {st:Stmt} {f:Addr} {oc:Value} {od an:Option Addr} {osl:Array (Option Value)} {kV doc pm cdv ct:Value} (l:K.lookup f=some ⟨oc,od,.func ‹"8"›,osl⟩)
 (c:PySem.W.codeIn K cdv qual=true) (k:PySem.W.keepIn K (.ref f)=true):Fun K x qual st f ‹"8"›:=⟨⟨oc,od,kV,doc,pm,an,cdv,ct,osl,rfl,l,c⟩,k⟩
end
section
variable {X:Cx}
end
def Same (H H':Hp):Prop:=∀b o,H b=some o->H' b=some o
theorem Same.refl (H:Hp):Same H H:=fun _ _ h=>h
theorem Same.trans {H H1 H2:Hp} (a:Same H H1) (b:Same H1 H2):Same H H2:=fun c o h=>b c o (a c o h)
theorem Same.free {H H':Hp} (e:Same H H') {l:Addr} (h:H' l=Option.none):H l=Option.none:=by
 cases q:H l with
 | none=>rfl
 | some o=>rw [e l o q] at h;cases h
theorem Same.seq {K:PySem.W.Frag} {H H':Hp} {a:Addr} {xs:List V} (e:Same H H') (h:Jn K H a xs):Jn K H' a xs:=by
 rcases h with (h | ⟨o,h⟩) | h
 . exact .inl (.inl (e _ _ h))
 . exact .inl (.inr ⟨o,e _ _ h⟩)
 . exact .inr h
end L2
namespace L2
open PySem PySem.Spec PyProof.Rows
section
variable {κ:Type} [DecidableEq κ]
def jah (kvs:List (κ×V)) (k:κ):Option V:=(kvs.find? fun kv=>decide (kv.1=k)).map (·.2)
def ZJ (kvs:List (κ×V)) (k:κ) (v:V):List (κ×V):=if (kvs.any fun kv=>decide (kv.1=k))=true then kvs.map (fun kv=>if kv.1=k then (kv.1,v) else kv) else kvs++[(k,v)]
def jng (kvs:List (κ×V)) (k:κ):List (κ×V):=kvs.filter fun kv=>decide (kv.1≠k)
theorem jaD {p:κ×V} {r:List (κ×V)} {k:κ} (e:p.1=k):jah (p::r) k=some p.2:=by simp [jah,Kr,e]
theorem jaB {p:κ×V} {r:List (κ×V)} {k:κ} (e:¬p.1=k):jah (p::r) k=jah r k:=by simp [jah,Kr,e]
theorem jfa (k:κ):∀kvs:List (κ×V),(kvs.any fun kv=>decide (kv.1=k))=(jah kvs k).isSome
 | []=>rfl
 | p::r=>by
   rw [KP];by_cases e:p.1=k
   . simp only [jaD e,Y8 e,Bool.true_or,Option.isSome_some]
   . rw [jaB e,Y6 e,Bool.false_or];exact jfa k r
theorem Zb (kvs:List (κ×V)) (k:κ) (v:V):(ZJ kvs k v).length<=kvs.length+1:=by
 unfold ZJ;split
 . rw [Yc];omega
 . rw [YU,Yy,YZ];omega
theorem RelO.isSome_eq {o:Option V} {u:Option Value} (r:RelO o u):o.isSome=u.isSome:=by
 cases o with
 | none=>cases u with
   | none=>rfl
   | some _=>exact (show False from r).elim
 | some _=>cases u with
   | none=>exact (show False from r).elim
   | some _=>rfl
theorem RelO.getD {o:Option V} {u:Option Value} {d:V} {d':Value} (r:RelO o u) (rd:RelV d d'):RelV (o.getD d) (u.getD d'):=by
 cases o with
 | none=>cases u with
   | none=>exact rd
   | some _=>exact (show False from r).elim
 | some _=>cases u with
   | none=>exact (show False from r).elim
   | some _=>exact r
theorem KV.val {kvs:List (κ×V)} {vs:List (κ×Value)} (r:KV kvs vs) (k:κ):RelO (jah kvs k) (valueAt vs k):=by
 unfold KV at r;induction r with
 | nil=>exact True.intro
 | @cons p q ps qs h t ih=>
   obtain ⟨h1,h2⟩:=h;by_cases e:p.1=k
   . have e':q.1=k:=h1.symm.trans e;have b:valueAt (q::qs) k=some q.2:=by simp [valueAt,Kr,e']
     rw [jaD e,b];exact h2
   . have e':¬q.1=k:=fun z=>e (h1.trans z);have b:valueAt (q::qs) k=valueAt qs k:=by simp [valueAt,Kr,e']
     rw [jaB e,b];exact ih
theorem KV.any {kvs:List (κ×V)} {vs:List (κ×Value)} (r:KV kvs vs) (k:κ):(kvs.any fun kv=>decide (kv.1=k))=vs.any fun kv=>decide (kv.1=k):=by
 unfold KV at r;induction r with
 | nil=>rfl
 | cons h t ih=>rw [KP,KP,ih,h.1]
theorem KV.repl {kvs:List (κ×V)} {vs:List (κ×Value)} (r:KV kvs vs) (k:κ) {y:V} {u:Value} (ry:RelV y u) :
 KV (kvs.map fun kv=>if kv.1=k then (kv.1,y) else kv) (vs.map fun kv=>if kv.1=k then (kv.1,u) else kv):=by
 unfold KV at r ⊢;induction r with
 | nil=>exact .nil
 | @cons p q ps qs h t ih=>
   rw [List.map_cons,List.map_cons];refine .cons ?_ ih;obtain ⟨h1,h2⟩:=h;by_cases e:p.1=k
   . rw [if_pos e,if_pos (h1.symm.trans e)];exact ⟨h1,ry⟩
   . rw [if_neg e,if_neg (fun z=>e (h1.trans z))];exact ⟨h1,h2⟩
theorem KV.put {kvs:List (κ×V)} {vs:List (κ×Value)} (r:KV kvs vs) (k:κ) {y:V} {u:Value} (ry:RelV y u):KV (ZJ kvs k y) (stored vs k u):=by
 unfold ZJ stored;rw [r.any k];by_cases e:(vs.any fun kv=>decide (kv.1=k))=true
 . rw [if_pos e,if_pos e];exact r.repl k ry
 . rw [if_neg e,if_neg e];exact Paired.snoc r ⟨rfl,ry⟩
theorem KV.drop {kvs:List (κ×V)} {vs:List (κ×Value)} (r:KV kvs vs) (k:κ):KV (jng kvs k) (without vs k):=by
 unfold KV at r ⊢;unfold jng without;induction r with
 | nil=>exact .nil
 | @cons p q ps qs h t ih=>
   obtain ⟨h1,h2⟩:=h;rw [yg,yg];by_cases e:p.1=k
   . have a:¬decide (p.1≠k)=true:=by simp [e]
     have b:¬decide (q.1≠k)=true:=by simp [h1.symm.trans e]
     rw [if_neg a,if_neg b];exact ih
   . have e':¬q.1=k:=fun z=>e (h1.trans z);have a:decide (p.1≠k)=true:=by simp [e]
     have b:decide (q.1≠k)=true:=by simp [e']
     rw [if_pos a,if_pos b];exact .cons ⟨h1,h2⟩ ih
theorem KV.length {kvs:List (κ×V)} {vs:List (κ×Value)} (r:KV kvs vs):kvs.length=vs.length:=Paired.length r
end
theorem jdX {P:Program} {w:World} {k:zw} {u:Value} (r:RelV (kV k) u):(j5 P w).is k u=true:=by
 cases k with
 | inl i=>obtain ⟨t,e⟩:=(show ∃t,u=Value.int i t from r);subst e;exact je9 P w i t
 | inr x=>obtain ⟨t,e⟩:=(show ∃t,u=Value.str x t from r);subst e;exact jgk P w x t
theorem jdN {P:Program} {w:World}:∀{ks:List zw} {us:List Value},Vals (ks.map kV) us->ItemsAre (j5 P w) ks us
 | [],_,r=>by rw [yD] at r;cases r;exact .nil
 | k::ks,_,r=>by
   rw [List.map_cons] at r;cases r with
   | cons h t=>exact .cons (jdX h) (jdN t)
abbrev KT (H:Hp):List (List zw×V)->List (List zw×Addr×Value)->Prop:=Paired fun p q=>p.1=q.1/\H q.2.1=some (.tup (p.1.map kV))/\RelV p.2 q.2.2
theorem KT.val {H:Hp} {kvs:List (List zw×V)} {xs:List (List zw×Addr×Value)} (r:KT H kvs xs) (k:List zw):RelO (jah kvs k) ((atKey xs k).map (·.2)):=by
 induction r with
 | nil=>exact True.intro
 | @cons p q ps qs h t ih=>
   obtain ⟨h1,_,h2⟩:=h;by_cases e:p.1=k
   . have e':q.1=k:=h1.symm.trans e;have b:atKey (q::qs) k=some q.2:=by simp [atKey,Kr,e']
     rw [jaD e,b];exact h2
   . have e':¬q.1=k:=fun z=>e (h1.trans z);have b:atKey (q::qs) k=atKey qs k:=by simp [atKey,Kr,e']
     rw [jaB e,b];exact ih
theorem KT.repl {H:Hp} {kvs:List (List zw×V)} {xs:List (List zw×Addr×Value)} (r:KT H kvs xs) (k:List zw) {y:V} {u:Value} (ry:RelV y u) :
 KT H (kvs.map fun kv=>if kv.1=k then (kv.1,y) else kv) (xs.map (putAt k u)):=by
 induction r with
 | nil=>exact .nil
 | @cons p q ps qs h t ih=>
   rw [List.map_cons,List.map_cons];refine .cons ?_ ih;obtain ⟨h1,h2,h3⟩:=h;unfold putAt;by_cases e:p.1=k
   . rw [if_pos e,if_pos (h1.symm.trans e)];exact ⟨h1,h2,ry⟩
   . rw [if_neg e,if_neg (fun z=>e (h1.trans z))];exact ⟨h1,h2,h3⟩
theorem KT.put {H:Hp} {kvs:List (List zw×V)} {xs:List (List zw×Addr×Value)} (r:KT H kvs xs) (k:List zw) {b:Addr} {y:V} {u:Value} (hb:H b=some (.tup (k.map kV))) (ry:RelV y u) :
 KT H (ZJ kvs k y) (storedH xs k b u):=by
 have e:(kvs.any fun kv=>decide (kv.1=k))=(atKey xs k).isSome:=by rw [jfa,(r.val k).isSome_eq,Option.isSome_map]
 unfold ZJ storedH;rw [e];by_cases q:(atKey xs k).isSome=true
 . rw [if_pos q,if_pos q];exact r.repl k ry
 . rw [if_neg q,if_neg q];exact Paired.snoc r ⟨rfl,hb,ry⟩
theorem KT.keeps {H H':Hp} {kvs:List (List zw×V)} {xs:List (List zw×Addr×Value)} (r:KT H kvs xs) (ht:∀b ys,H b=some (.tup ys)->H' b=some (.tup ys)):KT H' kvs xs:=Paired.mapP r fun _ _ z=>⟨z.1,ht _ _ z.2.1,z.2.2⟩
section
variable {P:Program} {w:World} {H:Hp} {h:Heap} {a:Addr}
theorem jmP {u:HO} (ok:HOk P w H h) (e:Rd H a u):ObjOk P w H h a u:=e.ok ok
theorem ZZ {kvs:List (zw×V)} (ok:HOk P w H h) (e:Rd H a (.dK kvs)):kvs.length<=sizeLine/\(a == sysModules)=false/\∃vs,KV kvs vs/\h.DictOf (j5 P w) a vs:=show ObjOk P w H h a (.dK kvs) from jmP ok e
theorem jnc {kvs:List (zw×V)} (ok:HOk P w H h) (e:H a=some (.dK kvs)):kvs.length<=sizeLine/\(a == sysModules)=false/\∃vs,KV kvs vs/\h.DictOf (j5 P w) a vs:=ZZ ok (.inl e)
theorem ja5 {ks:List zw} (ok:HOk P w H h) (e:H a=some (.tup (ks.map kV))):(tupleKind (j5 P w)).is h ks a:=by obtain ⟨_,tu,r,o,h1,h2,n,h3⟩:=(show ObjOk P w H h a (.tup (ks.map kV)) from ok a _ e);exact ⟨o,tu.toArray,n,h1,h2,h3,by simpa using jdN r⟩
theorem jea {kvs:List (List zw×V)} (ok:HOk P w H h) (e:Rd H a (.dT kvs)):kvs.length<=sizeLine/\(a == sysModules)=false /\
 ∃xs,KT H kvs xs/\h.DictOfH (tupleKind (j5 P w)) a xs:=by
 obtain ⟨z,y,xs,r,o,es,ep,h1,h2,h3,h4,h5⟩:=(show ObjOk P w H h a (.dT kvs) from jmP ok e);refine ⟨z,y,xs,r,o,es,ep,h1,h2,h3,h4,fun x hx=>?_,h5⟩;have all:∀{l:List (List zw×V)} {m:List (List zw×Addr×Value)},KT H l m->∀x∈m,(tupleKind (j5 P w)).is h x.1 x.2.1:=by
  intro l m q;induction q with
  | nil=>intro x hx;exact nomatch hx
  | @cons p q ps qs hq t ih=>
    intro x hx;rcases Yq.mp hx with e | hx
    . subst e;exact ja5 ok (by rw [<-hq.1];exact hq.2.1)
    . exact ih x hx
 exact all r x hx
theorem jp1 {kvs:List (List zw×V)} (ok:HOk P w H h) (e:H a=some (.dT kvs)):kvs.length<=sizeLine/\(a == sysModules)=false /\
 ∃xs,KT H kvs xs/\h.DictOfH (tupleKind (j5 P w)) a xs:=jea ok (.inl e)
end
def jgQ (H:Hp) (a:Addr) (y:V) (r:Option V):Prop:=(∃kvs k,Rd H a (.dK kvs)/\y=kV k/\r=jah kvs k)\/∃kvs k b,Rd H a (.dT kvs)/\y=.ref b/\H b=some (.tup (k.map kV))/\r=jah kvs k
def jpQ (H:Hp) (a:Addr) (y v:V) (H':Hp):Prop:=
 (∃kvs k,H a=some (.dK kvs)/\y=kV k/\kvs.length<sizeLine/\H'=upd H a (.dK (ZJ kvs k v))) \/
 ∃kvs k b,H a=some (.dT kvs)/\y=.ref b/\H b=some (.tup (k.map kV))/\kvs.length<sizeLine/\H'=upd H a (.dT (ZJ kvs k v))
section
variable {X:Cx} {tf:List (Addr×Obj)} {σ:St} {H:Hp} {s:Shared} {a:Addr} {y v:V} {u r:Value} {o:Option V} {A:Around} {E:Value->Shared->Prop}
theorem Inv.big (I:Inv X tf σ H s):sysModules<s.heap.objs.size:=by have h:mainGlobals<s.heap.objs.size:=(I.mod.glob.keeps I.bk).lt;exact yK (by decide) h
theorem jiA {Q:Value->Shared->Prop} (hu:A.units+1<cLine) (I:Inv X tf σ H s) (g:jgQ H a y (some v)) (ry:RelV y u) (h:∀w' s',Inv X tf σ H s'->RelV v w'->Q w' s') :
 wpAny ‹"h"› A (getItem (.ref a) u) Q E s:=by
 rcases g with ⟨kvs,k,e,ey,l⟩ | ⟨kvs,k,b,e,ey,eb,l⟩
 . subst ey;obtain ⟨z,hd,vs,rel,dd⟩:=ZZ I.hok e;obtain ⟨w',hw,rw'⟩:=RelO.some_of (v:=v) (o:=valueAt vs k) (by rw [l];exact rel.val k);exact wpAny_getItem_of (jdX ry) dd.mapOf hw (h w' _ (I.tok _) rw')
 . subst ey;cases (show u=Value.ref b from ry);obtain ⟨z,hd,xs,rel,dd⟩:=jea I.hok e;obtain ⟨w',hw,rw'⟩:=RelO.some_of (v:=v) (o:=(atKey xs k).map (·.2)) (by rw [l];exact rel.val k);obtain ⟨p,hp,hp2⟩:=Option.map_eq_some_iff.mp hw;refine wpAny_getItem_heap (KM hu) (ja5 I.hok eb) dd hp ?_;rw [hp2];exact h w' _ (I.tok _) rw'
theorem jrI {Q:Value->Shared->Prop} (hu:A.units+1<cLine) (I:Inv X tf σ H s) (g:jgQ H a y o) (ry:RelV y u) (h:∀s',Inv X tf σ H s'->Q (.bool o.isSome) s') :
 wpAny ‹"h"› A (compareOp .In u (.ref a)) Q E s:=by
 rcases g with ⟨kvs,k,e,ey,l⟩ | ⟨kvs,k,b,e,ey,eb,l⟩
 . subst ey;obtain ⟨z,hd,vs,rel,dd⟩:=ZZ I.hok e;refine wpAny_in_of (jdX ry) hd dd.mapOf ?_;rw [<-(rel.val k).isSome_eq,<- l];exact h _ (I.tok _)
 . subst ey;cases (show u=Value.ref b from ry);obtain ⟨z,hd,xs,rel,dd⟩:=jea I.hok e;refine wpAny_in_heap (KM hu) (ja5 I.hok eb) hd dd ?_;have q:=(rel.val k).isSome_eq;rw [Option.isSome_map] at q;rw [<-q,<- l];exact h _ (I.tok _)
theorem jeV {h':Heap} {t':Nat} {ob:HO} (I:Inv X tf σ H s) (mu:Mut (H a)) (hs:Heap.SameBut a s.heap h') (he:∃q,h'.get? a=some q) (new:ObjOk X.prog X.w (upd H a ob) h' a ob) :
 Inv X tf σ (upd H a ob) { s with heap:=h',toks:=t' }:=
 I.write (x:=a) (e:=a) mu (.inl rfl) (fun b q hb z=>(hs.2 b hb).trans z) he new
theorem jhd {P:Program} {w:World} {H':Hp} {h':Heap} {kvs:List (zw×V)} {vs:List (zw×Value)} (z:kvs.length<=sizeLine) (hd:(a == sysModules)=false) (rel:KV kvs vs) (dd:h'.DictOf (j5 P w) a vs) :
 ObjOk P w H' h' a (.dK kvs):=⟨z,hd,vs,rel,dd⟩
theorem jiJ {H':Hp} {Q:Unit->Shared->Prop} (hu:A.units+1<cLine) (I:Inv X tf σ H s) (g:jpQ H a y v H') (ry:RelV y u) (rv:RelV v r) (h:∀s',Inv X tf σ H' s'->Q () s') :
 wpAny ‹"h"› A (setItem (.ref a) u r) Q E s:=by
 rcases g with ⟨kvs,k,e,ey,l,eH⟩ | ⟨kvs,k,b,e,ey,eb,l,eH⟩
 . subst ey eH;obtain ⟨z,hd,vs,rel,dd⟩:=jnc I.hok e;have hz:vs.length<=sizeLine:=by rw [<-rel.length];exact z
   have hl:(ZJ kvs k v).length<=sizeLine:=by have:=Zb kvs k v;omega
   refine wpAny_setItem_pairs (hsz:=hz) (jdX ry) dd fun h' dd' hs=>h _ ?_;have he:∃q,h'.get? a=some q:=let ⟨q,_,_,hq,_⟩:=dd';⟨q,hq⟩;exact jeV I (by rw [e];exact True.intro) hs he (jhd hl hd (rel.put k rv) dd')
 . subst ey eH;cases (show u=Value.ref b from ry);obtain ⟨z,hd,xs,rel,dd⟩:=jp1 I.hok e;have hz:xs.length<=sizeLine:=by rw [<-Paired.length rel];exact z
   have hl:(ZJ kvs k v).length<=sizeLine:=by have:=Zb kvs k v;omega
   refine wpAny_setItem_heap (hsz:=hz) (KM hu) (ja5 I.hok eb) dd fun h' dd' hs=>h _ ?_;obtain ⟨q,es,ep,hq,h2,h3,h4,_,h5⟩:=dd';refine jeV I (by rw [e];exact True.intro) hs ⟨q,hq⟩ ⟨hl,hd,_,(rel.put k eb rv).keeps fun c ys ec=>?_,q,es,ep,hq,h2,h3,h4,h5⟩;rw [jC (jqg ec e (fun z=>nomatch z))];exact ec
end
section
variable {X:Cx} {tf:List (Addr×Obj)} {σ:St} {H:Hp} {s:Shared} {a:Addr} {kvs:List (zw×V)} {k:zw} {u:Value} {A:Around} {E:Value->Shared->Prop}
end
def joQ (i:Expr):Prop:=∀ov iv,subscripted i false ov iv=operate [ov,iv] (getItem ov iv)
theorem jlZ {prog:Program} {w:World} {A:Around} {E:Value->Shared->Prop} {s:Shared} {env:Env} {value slice:Expr} {pos:Pos} {T id:String} {Q:Value->Shared->Prop}
 (hl:typeLookup (.type T) "__getitem__"=pure (some (.builtin id))) (hs:joQ slice)
 (h:wpAny (model prog w) A (eval value env) (fun o s₁=>wpAny (model prog w) A (eval slice env) (fun i s₂=>s₂.TypeIs o T/\wpAny (model prog w) A (getItem o i) Q E s₂) E s₁) E s) :
 wpAny (model prog w) A (eval (.Subscript value slice pos) env) Q E s:=by
 refine Subscript_ (yr h (fun o s₁ h₁=>yr h₁ (fun i s₂ h₂=>?_) fun _ _ x=>x) fun _ _ x=>x);obtain ⟨hT,h₂⟩:=h₂;unfold subscriptTail;refine Yb ?_;rw [getitemInPython_of_ne hT.not_modules];refine Yb (yP hT hl ?_);have fin:wpAny (model prog w) A (subscripted slice false o i) (fun r s₃=>wpAny (model prog w) A (letTemporaryGo value o r >>= fun _=>pure r) Q E s₃) E s₂:=by rw [hs o i];exact wpAny_operating (yr h₂ (fun r s₃ h₃=>Yb (wpAny_letTemporaryGo (Yk h₃))) fun _ _ x=>x)
 first
  | exact Yk (Yb fin)
  | exact Yb (Yk (Yb fin))
  | exact Yb fin
theorem jfI {X:Cx} {tf:List (Addr×Obj)} {σ:St} {H:Hp} {s:Shared} {a:Addr} {y:V} {o:Option V} (I:Inv X tf σ H s) (g:jgQ H a y o):s.TypeIs (.ref a) "dict":=by
 rcases g with ⟨kvs,k,e,_,_⟩ | ⟨kvs,k,b,e,_,_,_⟩
 . obtain ⟨_,_,vs,_,dd⟩:=ZZ I.hok e;exact dd.typeIs
 . obtain ⟨_,_,xs,_,dd⟩:=jea I.hok e;exact dd.typeIs
def jmS (td ty:TE):TE:=fun σ H Q=>td σ H fun x H1=>ty σ H1 fun y H2=>∃a v,x=.ref a/\jgQ H2 a y (some v)/\Q v H2
def jne (td ty tv:TE):TS:=fun D σ H=>tv σ H fun v H1=>td σ H1 fun x H2=>ty σ H2 fun y H3=>∃a H4,x=.ref a/\jpQ H3 a y v H4/\D.nx σ H4
section
variable {X:Cx} {o i e value:Expr} {pos pos' tpos:Pos} {td ty tv:TE}
theorem jml (hu:X.A.units+1<cLine) (ho:PE X o td) (hi:PE X i ty) (hs:joQ i):PE X (.Subscript o i pos) (jmS td ty):=by intro tf s σ H Q I h;refine jlZ PySem.F.slot_dict_getitem.lookup hs (qD (ho tf s σ H _ I h) fun u s1 ⟨x,H1,I1,rx,q1⟩=>qD (hi tf s1 σ H1 _ I1 q1) fun iv s2 zz=>?_);obtain ⟨y,H2,I2,ry,a,v,ex,g,q2⟩:=zz;subst ex;obtain rfl:u=Value.ref a:=rx;exact ⟨jfI I2 g,jiA hu I2 g ry fun w' s3 I3 rw'=>⟨v,H2,I3,rw',q2⟩⟩
theorem jmh (hu:X.A.units+1<cLine) (ho:PE X o td) (hi:PE X i ty) (hv:PE X value tv) (hs:swapsWith value (some (.Subscript o i pos')) pos.line X.env=pure false) :
 PS X (.Assign [.Subscript o i pos'] value pos) (jne td ty tv):=by
 intro tf s σ H D I h;refine wpAny_Assign_Subscript (qD (hv tf s σ H _ I h) fun r s1 ⟨v,H1,I1,rv,q1⟩=>qD (ho tf s1 σ H1 _ I1 q1) fun u s2 ⟨x,H2,I2,rx,q2⟩=>qD (hi tf s2 σ H2 _ I2 q2) fun iv s3 zz=>?_) hs;obtain ⟨y,H3,I3,ry,a,H4,ex,g,q3⟩:=zz;subst ex;obtain rfl:u=Value.ref a:=rx;exact jiJ hu I3 g ry rv fun s4 I4=>⟨σ,H4,I4,q3⟩
end
theorem jkO {P:Program} {w:World} {H:Hp} (h:Heap) (hb:sysModules<h.objs.size):ObjOk P w H (h.push { cls:=.type "dict",data:=.dict #[] }) h.objs.size (.dK []):=⟨yH _,KD.mpr (Ne.symm (Yt hb)),[],.nil,Heap.DictOf.new h⟩
section
variable {X:Cx} {pos:Pos}
end
def jgB:List (TE×TE)->St->Hp->(List (V×V)->Hp->Prop)->Prop
 | [],_,H,Q=>Q [] H
 | (tk,tv)::r,σ,H,Q=>tk σ H fun x H1=>tv σ H1 fun y H2=>jgB r σ H2 fun ps H3=>Q ((x,y)::ps) H3
abbrev VV:List (V×V)->List (Value×Value)->Prop:=Paired fun p q=>RelV p.1 q.1/\RelV p.2 q.2
def PPs (X:Cx) (pos:Pos) (keys:List (Option Expr)) (values:List Expr) (trs:List (TE×TE)):Prop:=
 ∀(tf:List (Addr×Obj)) (s:Shared) (σ:St) (H:Hp) (Q:List (V×V)->Hp->Prop),Inv X tf σ H s->jgB trs σ H Q->
   wpAny ‹"h"› X.A (evalPairs (pairTrees keys values X.env pos)) (fun vs s'=>∃ps H',Inv X tf σ H' s'/\VV ps vs/\Q ps H') X.xe s
theorem jmD {X:Cx} {pos:Pos}:PPs X pos [] [] []:=fun tf s σ H Q I h=>pairTrees_nil_walk ⟨[],H,I,.nil,h⟩
theorem jkb {X:Cx} {pos:Pos} {k v:Expr} {ks:List (Option Expr)} {vs:List Expr} {tk tv:TE} {trs:List (TE×TE)} (hk:PE X k tk) (hv:PE X v tv) (hr:PPs X pos ks vs trs) :
 PPs X pos (some k::ks) (v::vs) ((tk,tv)::trs):=fun tf s σ H Q I h=>
 pairTrees_cons_walk (qD (hk tf s σ H _ I h) fun u s1 ⟨x,H1,I1,rx,q1⟩=>qD (hv tf s1 σ H1 _ I1 q1) fun w2 s2 ⟨y,H2,I2,ry,q2⟩=>qD (hr tf s2 σ H2 _ I2 q2) fun ws s3 ⟨ps,H3,I3,rel,q3⟩=>⟨(x,y)::ps,H3,I3,.cons ⟨rx,ry⟩ rel,q3⟩)
def jdj (kvs more:List (zw×V)):List (zw×V):=more.foldl (fun tF kv=>ZJ tF kv.1 kv.2) kvs
theorem KV.merge:∀{more:List (zw×V)} {rs:List (zw×Value)} {kvs:List (zw×V)} {vs:List (zw×Value)},KV more rs->KV kvs vs->KV (jdj kvs more) (merged vs rs):=by
 intro more rs kvs vs r;unfold KV at r;induction r generalizing kvs vs with
 | nil=>intro q;exact q
 | @cons p q ps qs h t ih=>
   intro r0;have e:KV (ZJ kvs p.1 p.2) (stored vs q.1 q.2):=by have:=r0.put p.1 h.2;rw [<-h.1];exact this
   exact ih e
theorem ZM:∀(more kvs:List (zw×V)),(jdj kvs more).length<=kvs.length+more.length
 | [],kvs=>by show kvs.length<=kvs.length+0;omega
 | p::r,kvs=>by have h1:=ZM r (ZJ kvs p.1 p.2);have h2:=Zb kvs p.1 p.2;show (jdj (ZJ kvs p.1 p.2) r).length<=_;rw [Yy];omega
theorem jdg {P:Program} {w:World}:∀{kvs:List (zw×V)} {ws:List (Value×Value)},VV (kvs.map fun kv=>(kV kv.1,kv.2)) ws->∃rs,Carries (j5 P w) ws rs/\KV kvs rs
 | [],_,r=>by rw [yD] at r;cases r;exact ⟨[],True.intro,.nil⟩
 | p::kvs,_,r=>by
   rw [List.map_cons] at r;cases r with
   | @cons a b as bs h t=>obtain ⟨rs,c,q⟩:=jdg (P:=P) (w:=w) t;obtain ⟨b1,b2⟩:=b;exact ⟨(p.1,b2)::rs,⟨jdX h.1,rfl,c⟩,.cons ⟨rfl,h.2⟩ q⟩
def jmZ (trs:List (TE×TE)):TE:=fun σ H Q=>∀p,H p=none->jgB trs σ (upd H p (.dK [])) fun ps H2=>H2 p=some (.dK [])/\∃kvs:List (zw×V),ps=kvs.map (fun kv=>(kV kv.1,kv.2))/\kvs.length<=15/\Q (.ref p) (upd H2 p (.dK (jdj [] kvs)))
theorem jl1 {X:Cx} {pos:Pos} {keys:List (Option Expr)} {values:List Expr} {trs:List (TE×TE)} (h:PPs X pos keys values trs) (hall:keys.all (·.isSome)=true) (hl:keys.length=values.length) (h0:keys≠[])
 (h15:keys.length<=15):PE X (.Dict keys values pos) (jmZ trs):=by
 intro tf s σ H Q I q;have hn:=I.hok.fresh (Ys s.heap.objs.size);have I1:=I.laid (a:=s.heap.objs.size) (o:=.dK []) (h':=s.heap.push { cls:=.type "dict",data:=.dict #[] }) (t':=s.toks) (fun _ _ q=>Yl _ q) (Ys _) (jkO s.heap I.big);refine wpAny_Dict_walk (knd:=j5 X.prog X.w) hall hl h0 h15 (qD (h tf _ σ _ _ I1 (q _ hn)) fun ws s2 zz=>?_);obtain ⟨ps,H2,I2,rel,e,kvs,ep,lk,q2⟩:=zz;subst ep;obtain ⟨rs,c,rk⟩:=jdg (P:=X.prog) (w:=X.w) rel;obtain ⟨z,hd,vs0,r0,dd⟩:=jnc I2.hok e;cases r0;refine ⟨rs,c,dd,fun h' dd' hs=>⟨.ref s.heap.objs.size,_,?_,rfl,q2⟩⟩;have hz:(jdj [] kvs).length<=sizeLine:=by have h1:=ZM kvs [];rw [YZ] at h1;rw [sizeLine_eq];omega
 have he:∃q,h'.get? s.heap.objs.size=some q:=let ⟨q,_,_,hq,_⟩:=dd';⟨q,hq⟩;exact jeV I2 (by rw [e];exact True.intro) hs he (jhd hz hd (rk.merge .nil) dd')
structure M1 (X:Cx) (o:Expr) (m:Str) (apos:Pos) (e:Expr) (cpos:Pos):Prop where
 base:attributeBase o m X.env (eval o X.env)=eval o X.env
 few:((backTo cpos (starEach [e] X.env)).all (fun x=>!x.1) && (backToKw cpos (keywordEach [] X.env)).all (fun x=>x.1.isSome)
  && decide (([e]:List Expr).length+([]:List Keyword).length+(if ([]:List Keyword).isEmpty then 0 else 1)<30))=true
 line:(apos.endLine == cpos.line)=true
 trees:backTo cpos (starEach [e] X.env)=[(false,eval e X.env)]
def IsD (H:Hp) (a:Addr):Prop:=(∃kvs,Rd H a (.dK kvs))\/∃kvs,Rd H a (.dT kvs)
theorem jnU {X:Cx} {tf:List (Addr×Obj)} {σ:St} {H:Hp} {s:Shared} {a:Addr} (I:Inv X tf σ H s) (d:IsD H a) :
 s.TypeIs (.ref a) "dict" ∧ (∀b,Value.ref a=.ref b → ∃ob,s.heap.get? b=some ob ∧ ob.dict=none) ∧ (a == sysModules)=false:=by
 rcases d with ⟨kvs,e⟩ | ⟨kvs,e⟩
 . obtain ⟨_,hd,vs,_,dd⟩:=ZZ I.hok e;refine ⟨dd.typeIs,fun b q=>?_,hd⟩;cases q;obtain ⟨ob,_,_,h1,h2,_⟩:=dd;exact ⟨ob,h1,h2.2.1⟩
 . obtain ⟨_,hd,xs,_,dd⟩:=jea I.hok e;refine ⟨dd.typeIs,fun b q=>?_,hd⟩;cases q;obtain ⟨ob,_,_,h1,h2,_⟩:=dd;exact ⟨ob,h1,h2.2.1⟩
section
variable {X:Cx} {tf:List (Addr×Obj)} {σ:St} {H:Hp} {s:Shared} {a:Addr} {y d:V} {u r:Value} {o:Option V} {A:Around} {E:Value->Shared->Prop}
theorem joT {Q:Value->Shared->Prop} (hu:A.units+1<cLine) (I:Inv X tf σ H s) (g:jgQ H a y o) (ry:RelV y u) (h:∀w' s',Inv X tf σ H s'->RelV (o.getD .non) w'->Q w' s') :
 wpAny ‹"h"› A (call (.builtin "dict.get") [.ref a,u]) Q E s:=by
 rcases g with ⟨kvs,k,e,ey,l⟩ | ⟨kvs,k,b,e,ey,eb,l⟩
 . subst ey;obtain ⟨z,hd,vs,rel,dd⟩:=ZZ I.hok e;refine call_meetsIn Ko dd.typeIs KS (KN _ _) (meets_dict_get (j5 X.prog X.w) a (jdX ry) hd) ⟨_,dd.mapOf,h _ _ (I.tok _) ?_⟩;rw [l];exact (rel.val k).getD rfl
 . subst ey;cases (show u=Value.ref b from ry);obtain ⟨z,hd,xs,rel,dd⟩:=jea I.hok e;refine call_meetsIn Ko dd.typeIs KS (KN _ _) (meetsH_dict_get (tupleKind (j5 X.prog X.w)) a b hd) ⟨KM hu,k,xs,ja5 I.hok eb,dd,h _ _ (I.tok _) ?_⟩;rw [l];exact (rel.val k).getD rfl
end
section
variable {X:Cx} {o e f:Expr} {apos cpos:Pos} {td ty tx:TE}
end
section
variable {X:Cx} {tf:List (Addr×Obj)} {σ:St} {H:Hp} {s:Shared} {a:Addr} {kvs:List (zw×V)} {A:Around} {E:Value->Shared->Prop}
theorem jjS {Q:Value → Shared → Prop} (I:Inv X tf σ H s) (e:Rd H a (.dK kvs)) (h:∀p s',H p=none → Inv X tf σ (upd H p (.dK kvs)) s' → Q (.ref p) s'):wpAny ‹"h"› A (call (.type "dict") [.ref a]) Q E s:=by obtain ⟨z,hd,vs,rel,dd⟩:=ZZ I.hok e;refine kt_call_dict hd dd (by rw [<-rel.length];exact z) fun h' dd' hs=>?_;refine h _ _ (I.hok.fresh (Ys _)) (I.laid (a:=s.heap.objs.size) (o:=.dK kvs) (t':=s.toks) (fun b q hq=>?_) (Ys _) (jhd z (KD.mpr (Ne.symm (Yt I.big))) rel dd'));exact (hs.2 b (Yt (Yw hq))).trans (Yl _ hq)
end
section
variable {X:Cx} {tf:List (Addr×Obj)} {σ:St} {H:Hp} {s:Shared} {a:Addr} {y:V} {u:Value} {A:Around} {E:Value->Shared->Prop}
end
end L2
namespace L2S
open PySem
def Ris (xs:Array Nat):Prop:=∀i j,i<j->j<xs.size->xs.getD i 0<xs.getD j 0
theorem jdl {xs:Array Nat} {j:Nat} (R:Ris xs):∀(fuel lo hi:Nat),lo<=hi->hi<=xs.size->hi-lo<=fuel->(∀i,i<lo->xs.getD i 0<j)->(∀i,hi<=i->i<xs.size->j<=xs.getD i 0)->
 (SetTable.below.go xs j fuel lo hi<=xs.size)/\(∀i,i<SetTable.below.go xs j fuel lo hi->xs.getD i 0<j)/\(∀i,SetTable.below.go xs j fuel lo hi<=i->i<xs.size->j<=xs.getD i 0)
 | 0,lo,hi,h1,h2,h3,h4,h5=>by
   have:lo=hi:=by omega
   subst this;exact ⟨h2,h4,h5⟩
 | fuel+1,lo,hi,h1,h2,h3,h4,h5=>by
   unfold SetTable.below.go;by_cases hlt:lo<hi
   . rw [if_pos hlt];dsimp only;have hm:(lo+hi)/2<xs.size:=by omega
     have e:xs.getD ((lo+hi)/2) j=xs.getD ((lo+hi)/2) 0:=by simp [Array.getD,hm]
     rw [e];by_cases hc:xs.getD ((lo+hi)/2) 0<j
     . rw [if_pos hc];refine jdl R fuel _ _ (by omega) h2 (by omega) (fun i hi'=>?_) h5;rcases YT i ((lo+hi)/2) with q | q
       . exact yK (R i _ q hm) hc
       . have:i=(lo+hi)/2:=by omega
         subst this;exact hc
     . rw [if_neg hc];refine jdl R fuel _ _ (by omega) (by omega) (by omega) h4 (fun i hi' hs=>?_);rcases YT ((lo+hi)/2) i with q | q
       . exact Y2 (Nat.le_of_not_lt hc) (yL (R _ i q hs))
       . have:i=(lo+hi)/2:=by omega
         subst this;exact Nat.le_of_not_lt hc
   . rw [if_neg hlt];have:lo=hi:=by omega
     subst this;exact ⟨h2,h4,h5⟩
theorem jcR {xs:Array Nat} {j:Nat} (R:Ris xs):SetTable.below xs j<=xs.size/\(∀i,i<SetTable.below xs j->xs.getD i 0<j)/\(∀i,SetTable.below xs j<=i->i<xs.size->j<=xs.getD i 0):=jdl R xs.size 0 xs.size (yH _) (Ys _) (by omega) (fun i h=>absurd h (K9 _)) fun i h1 h2=>absurd h2 (Nat.not_lt.mpr h1)
theorem jg7 {xs:Array Nat} {i:Nat} (R:Ris xs) (hi:i<xs.size):SetTable.below xs (xs.getD i 0+1)=i+1:=by
 obtain ⟨b1,b2,b3⟩:=jcR (j:=xs.getD i 0+1) R;rcases Nat.lt_trichotomy (SetTable.below xs (xs.getD i 0+1)) (i+1) with q | q | q
 . have:=b3 i (by omega) hi;omega
 . exact q
 . have:=b2 (i+1) q;have h2:i+1<xs.size:=by omega
   have:=R i (i+1) (by omega) h2;omega
theorem jgP {xs:Array Nat} (R:Ris xs):SetTable.below xs 0=0:=by
 obtain ⟨b1,b2,b3⟩:=jcR (j:=0) R;rcases Nat.eq_zero_or_pos (SetTable.below xs 0) with q | q
 . exact q
 . have:=b2 0 q;omega
theorem jdA {α:Type} (xs:Array α) (p:Nat) (x:α) (hp:p<=xs.size):(SetTable.insertAt xs p x).size=xs.size+1:=by unfold SetTable.insertAt;simp only [Array.size_append,Array.size_push,Array.size_extract];omega
theorem jbS {α:Type} (xs:Array α) (p:Nat) (x:α):(SetTable.insertAt xs p x).toList=xs.toList.take p++[x]++xs.toList.drop p:=by unfold SetTable.insertAt;simp [Array.toList_extract,List.extract];rw [List.take_of_length_le (by simp)]
theorem Z1 (xs:Array Nat) (p x i:Nat) (hp:p<=xs.size):(SetTable.insertAt xs p x).getD i 0=if i<p then xs.getD i 0 else if i=p then x else xs.getD (i-1) 0:=by
 have e:=jbS xs p x;have g:∀(ys:Array Nat) (k:Nat),ys.getD k 0=ys.toList.getD k 0:=fun ys k=>by simp [Ks,Ye]
 rw [g,e,g,g];simp only [Ye];have hl:(xs.toList.take p).length=p:=by simp;omega
 split
 . rename_i h;rw [Ke,YB (by omega),List.getElem?_take_of_lt h]
 . split
   . rename_i h1 h2;subst h2;rw [Ke,YC (by omega)];simp [hl]
   . rename_i h1 h2;rw [YC (by simp;omega),List.getElem?_drop];simp only [YU,hl,Yy,YZ];rw [show p+(i-(p+(0+1)))=i-1 by omega]
theorem jhl {xs:Array Nat} {j:Nat} (R:Ris xs) (hn:xs[SetTable.below xs j]?≠some j):Ris (SetTable.insertAt xs (SetTable.below xs j) j):=by
 obtain ⟨b1,b2,b3⟩:=jcR (j:=j) R;generalize SetTable.below xs j=p at *
 intro a b hab hb;rw [jdA _ _ _ b1] at hb;rw [Z1 _ _ _ _ b1,Z1 _ _ _ _ b1];have hp:p<xs.size->j<xs.getD p 0:=fun h=>by
  have h1:=b3 p (Ys _) h;have h2:xs.getD p 0≠j:=fun z=>hn (by rw [YH h];simp [Array.getD,h] at z;rw [z])
  omega
 have mono:∀c,p<=c->c<xs.size->j<xs.getD c 0:=fun c h1 h2=>by
  rcases YT p c with q | q
  . have:=R p c q h2;have:=hp (by omega);omega
  . have:c=p:=by omega
    subst this;exact hp h2
 split <;> split <;> (try split) <;> (try split);all_goals first
  | (rename_i h1 h2;exact R a b hab (by omega))
  | skip
 all_goals first
  | omega
  | (apply R;omega;omega)
  | (rename_i h1 h2 h3;exact b2 a h1)
  | skip
 all_goals first
  | (exact b2 _ (by omega))
  | (exact mono _ (by omega) (by omega))
  | (exact yK (b2 _ (by omega)) (mono _ (by omega) (by omega)))
  | skip
theorem ZA (n:Nat):Ris (Array.range n):=by intro i j h1 h2;rw [Array.size_range] at h2;simp [Array.getD,h2,show i<n by omega];exact h1
theorem ja8 (f:Nat->Option Nat):∀(l:List Nat),((l.filterMap fun j=>(f j).map (j,·)).map (·.1)).Sublist l
 | []=>by simp
 | a::l=>by
   rw [Ki];cases e:f a with
   | none=>exact (ja8 f l).cons a
   | some b=>exact (ja8 f l).cons₂ a
theorem jbV {l:List Nat} (h:l.Pairwise (· < ·)):Ris l.toArray:=by
 intro i j h1 h2;have h2':j<l.length:=by simpa using h2
 have:=(KA.mp h) i j (by omega) h2' h1;simp [Array.getD,h2',show i<l.length by omega];exact this
theorem jkz {mask finger moves:Nat} {led plain:Bool} {hs:Array Int} {t:SetTable} {o:Array Nat} (h:SetTable.laid mask finger moves led plain hs=some (t,o)):Ris t.place/\t.led=led/\t.plain=plain:=by
 unfold SetTable.laid at h;cases e:SetTable.layClean mask hs with
 | none=>rw [e] at h;cases h
 | some ow=>rw [e] at h;have h':=Option.some.inj h;have h1:=congrArg (·.1) h';dsimp only at h1;subst h1;refine ⟨?_,rfl,rfl⟩;dsimp only;refine jbV ?_;exact (List.pairwise_lt_range).sublist (ja8 (fun j=>ow.getD j none) (List.range (mask+1)))
end L2S
set_option maxHeartbeats 4000000
namespace L2
open PySem PySem.Spec PyProof.Rows
abbrev JR (h:Heap) (z TI TO a:Addr) (f:Bool):Prop:=h.get? z=some { cls:=.type "zip",dict:=none,data:=.fields #[rawInt a,.bool f,.bool false,.ref TI,.ref TO],slots:=#[] }
section
variable {prog:Program} {w:World} {A:Around} {E:Value->Shared->Prop} {s:Shared}
theorem ltN {h:Heap} {b:Addr} {o:Obj} (e:h.get? b=some o):@LT.lt Nat instLTNat b h.objs.size:=Yw e
theorem jk9 {a:Addr} {o:Obj} {Q:Option Obj->Shared->Prop} (ho:s.heap.get? a=some o) (h:Q (some o) s):wpAny (model prog w) A (loadIfAlive a) Q E s:=by
 have q:Q (s.heap.get? a) s:=by rw [ho];exact h
 exact fun _ _ _=>q
theorem jcA {z TI TO a:Addr} {f:Bool} {oa:Obj} {Q:Bool->Shared->Prop} (hz:JR s.heap z TI TO a f) (ha:s.heap.get? a=some oa)
 (hQ:∀h',JR h' z TI TO a true->Heap.SameBut z s.heap h'->Q false { s with heap:=h' }):wpAny (model prog w) A (Builtin.SmallTypes.ownedTupleIsFree (.ref z)) Q E s:=by
 unfold Builtin.SmallTypes.ownedTupleIsFree;refine Yb (K6 hz rfl (x:=rawInt a) rfl ?_);show wpAny _ _ (loadIfAlive ((a:Int).toNat) >>= _) _ _ _;rw [Yp];refine Yb (jk9 ha ?_);simp only [Option.isNone_some,YX,yy];refine Yb (K6 hz rfl (x:=.bool f) rfl ?_);cases f with
 | true=>rw [if_neg (show ¬((Value.bool true != Value.bool true)=true) from Yo)];exact Yk (hQ s.heap hz (Heap.SameBut.refl _ _))
 | false=>rw [if_pos (show (Value.bool false != Value.bool true)=true from rfl)];refine Yb (yA hz (by simp) fun h' hz' hs'=>?_);exact Yk (hQ h' hz' hs')
theorem jds {z TI TO i1 i2 l1 l2 a:Addr} {f:Bool} {oa:Obj} {k1 k2:Nat} {xs ys:Array Value} {x y:Value} {Q:Option Value->Shared->Prop} (D:ZipApart z TI TO i1 i2 l1 l2)
 (hz:JR s.heap z TI TO a f) (ha:s.heap.get? a=some oa) (hTI:IsPair s.heap TI (.ref i1) (.ref i2))
 (h1:s.heap.IsListIter i1 l1 k1) (h2:s.heap.IsListIter i2 l2 k2) (hl1:s.heap.IsList l1 xs) (hl2:s.heap.IsList l2 ys) (hx:xs[k1]?=some x) (hy:ys[k2]?=some y)
 (hQ:∀h',JR h' z TI TO a true->h'.IsListIter i1 l1 (k1+1)->h'.IsListIter i2 l2 (k2+1)->IsPair h' s.heap.objs.size x y->h'.objs.size=s.heap.objs.size+1->
  (∀c o,c≠z->c≠i1->c≠i2->s.heap.get? c=some o->h'.get? c=some o)->Q (some (.ref s.heap.objs.size)) { s with heap:=h' }) :
 wpAny (model prog w) A (pyNext (.ref z)) Q E s:=by
 have hT:s.TypeIs (.ref z) "zip":=⟨_,hz,rfl⟩;unfold pyNext;refine Yb ‹"ak"›;show wpAny _ _ (field (.ref z) 2 >>= _) _ _ _;refine Yb (K6 hz rfl (x:=.bool false) rfl ?_);show wpAny _ _ (field (.ref z) 3 >>= _) _ _ _;refine Yb (K6 hz rfl (x:=.ref TI) rfl ?_);refine Yb (Ky hTI rfl ?_);show wpAny _ _ (Builtin.SmallTypes.ownedTupleIsFree (.ref z) >>= _) _ _ _;refine Yb (jcA hz ha fun g1 hz1 s1=>?_);simp only [YX,yy];rw [<-Array.forIn_toList];simp only [List.forIn_cons,List.forIn_nil];refine Yb (Yb (Yb (yn ?_)));show wpAny _ _ (Builtin.SmallTypes.nextOf (.ref i1) >>= _) _ _ _;refine Yb ‹"aV"›;refine Yb (Yb (yn ?_));show wpAny _ _ (Builtin.SmallTypes.nextOf (.ref i2) >>= _) _ _ _;refine Yb (KR ((h2.extBut s1.extBut D.i2z).extBut s2.extBut D.i12.symm) ((hl2.extBut s1.extBut D.l2z).extBut s2.extBut D.l2i1) hy fun g3 p3 s3=>Yk (Yk (Yk ?_)));dsimp only;refine Yb (wpAny_newTuple (hsz:=by show 2<=sizeLine;decide) ?_);have hsz:g3.objs.size=s.heap.objs.size:=by rw [s3.1,s2.1,s1.1]
 have hz3:JR g3 z TI TO a true:=s3.extBut _ _ D.i2z.symm (s2.extBut _ _ D.i1z.symm hz1);refine Yk ⟨_,rfl,Yk ?_⟩;show Q (some (.ref g3.objs.size)) _;rw [hsz];refine hQ _ (Yl _ hz3) ((p2.extBut s3.extBut D.i12).at fun o e=>Yl _ e) (p3.at fun o e=>Yl _ e) ?_ (by rw [yh,hsz]) fun c o c1 c2 c3 e=>Yl _ (s3.extBut _ _ c3 (s2.extBut _ _ c2 (s1.extBut _ _ c1 e)));rw [<-hsz];exact Yx _ rfl
theorem jed {z TI TO i1 i2 l1 l2 a:Addr} {f:Bool} {oa:Obj} {k1 k2:Nat} {xs ys:Array Value} {Q:Option Value->Shared->Prop} (hh:A.handled=none) (D:ZipApart z TI TO i1 i2 l1 l2)
 (hz:JR s.heap z TI TO a f) (ha:s.heap.get? a=some oa) (hTI:IsPair s.heap TI (.ref i1) (.ref i2))
 (h1:s.heap.IsListIter i1 l1 k1) (h2:s.heap.IsListIter i2 l2 k2) (hl1:s.heap.IsList l1 xs) (hl2:s.heap.IsList l2 ys) (hend:xs[k1]?=none\/ys[k2]?=none)
 (hQ:∀h',(∀c o,c≠z->c≠i1->c≠i2->s.heap.get? c=some o->h'.get? c=some o)->Q none { s with heap:=h' }):wpAny (model prog w) A (pyNext (.ref z)) Q E s:=by
 have hT:s.TypeIs (.ref z) "zip":=⟨_,hz,rfl⟩;have stop:∀(h':Heap) (e:Addr),(∀c o,c≠z → c≠i1 → c≠i2 → s.heap.get? c=some o → h'.get? c=some o) → (∃o,h'.get? e=some o ∧ o.cls=.type "StopIteration") →
  wpAny (model prog w) A (do let b ← isInstance (.ref e) (.type "StopIteration");if b=true then pure none else throw (.ref e)) Q E { s with heap:=h' }:=by
  rintro h' e hk ⟨o,ho,hc⟩;refine Yb (K3 (T := "StopIteration") (b:=true) ⟨o,ho,hc⟩ isSubtype_stop ?_);exact Yk (hQ _ hk)
 unfold pyNext;refine Yb ‹"ak"›;show wpAny _ _ (field (.ref z) 2 >>= _) _ _ _;refine Yb (K6 hz rfl (x:=.bool false) rfl ?_);show wpAny _ _ (field (.ref z) 3 >>= _) _ _ _;refine Yb (K6 hz rfl (x:=.ref TI) rfl ?_);refine Yb (Ky hTI rfl ?_);show wpAny _ _ (Builtin.SmallTypes.ownedTupleIsFree (.ref z) >>= _) _ _ _;refine Yb (jcA hz ha fun g1 hz1 s1=>?_);simp only [YX,yy];rw [<-Array.forIn_toList];simp only [List.forIn_cons,List.forIn_nil];refine Yb (Yb (Yb (yn ?_)));show wpAny _ _ (Builtin.SmallTypes.nextOf (.ref i1) >>= _) _ _ _;cases hx:xs[k1]? with
 | none=>exact Yb (wpAny_nextOf_list_end hh (h1.extBut s1.extBut D.i1z) (hl1.extBut s1.extBut D.l1z) hx fun g2 e s2 he=>stop g2 e (fun c o c1 c2 c3 q=>s2 _ _ c2 (s1.extBut _ _ c1 q)) he)
 | some x=>
   have hy:ys[k2]?=none:=by
    rcases hend with q | q
    . rw [hx] at q;cases q
    . exact q
   refine Yb ‹"aV"›;refine Yb (Yb (yn ?_));show wpAny _ _ (Builtin.SmallTypes.nextOf (.ref i2) >>= _) _ _ _;exact Yb (wpAny_nextOf_list_end hh ((h2.extBut s1.extBut D.i2z).extBut s2.extBut D.i12.symm) ((hl2.extBut s1.extBut D.l2z).extBut s2.extBut D.l2i1) hy fun g3 e s3 he=>stop g3 e (fun c o c1 c2 c3 q=>s3 _ _ c3 (s2.extBut _ _ c2 (s1.extBut _ _ c1 q))) he)
theorem jbD {R:Result->Shared->Prop} {S I:Addr} {res:Value} (St:Nat->Array Value->Shared->Prop)
 (turn:∀n tF s,St n tF s->tF.size<sizeLine/\wpAny (model prog w) A.in1 (pyNext (.ref I)) (fun r s'=>match r with
  | none=>R (.ok (.ret res)) s'
  | some v=>(∃c,s'.heap.get? S=some { cls:=.type "list",data:=.seq tF c }) ∧
      ∀h' c',h'.get? S=some { cls:=.type "list",data:=.seq (tF.push v) c' } → Heap.SameBut S s'.heap h' → ∃m,m<n ∧ St m (tF.push v) { s' with heap:=h' }) (fun e s'=>R (.error e) s') s) :
 ∀n tF s,St n tF s → codeAny (model prog w) A (.builtin "list.extend.loop" ⟨[.ref S,.ref I,res],[]⟩) R s:=by
 intro n;induction n using Nat.strongRecOn with
 | ind n ih=>
   intro tF s hs;obtain ⟨hz,t⟩:=turn n tF s hs;refine Kc F.entry_extend_loop ?_;rw [yI ki _];show wpAny _ A.in1 (pyNext (.ref I) >>= _) _ _ s;refine Yb (yr t (fun r s' q=>?_) fun _ _ q=>q);cases r with
   | none=>exact Yk q
   | some v=>obtain ⟨⟨c,e⟩,q⟩:=q;show wpAny _ A.in1 (updateSeq S (·.push v) >>= _) _ _ _;refine Yb ?_;refine yE e rfl (Yk ⟨yV ki _,?_⟩) (by omega) (by show (tF.push v).size<=sizeLine+1;rw [Array.size_push];omega);have e2:=YW (Obj.mapSeq (·.push v)) e rfl;obtain ⟨m,hm,hs'⟩:=q _ _ e2 (Heap.SameBut.update ..);exact ih m hm _ _ hs'
theorem jhg:typeLookup (.type "zip") "__len__"=pure none:=by rw [KL,yW];kernel_rfl
theorem jgg:typeLookup (.type "zip") "__length_hint__"=pure none:=by rw [KL,yW];kernel_rfl
theorem jkZ {z TI TO:Addr} {f0:Value} {Q:Bool->Shared->Prop} (hz:IsZip s.heap z TI TO f0) (h:Q true s):wpAny (model prog w) A (Builtin.List.listLengthHint (.ref z)) Q E s:=by have hT:s.TypeIs (.ref z) "zip":=⟨_,hz,rfl⟩;unfold Builtin.List.listLengthHint;refine Yb (yP hT jhg ?_);show wpAny _ _ (specialOf (Value.ref z) (Str.ofString "__length_hint__") >>= _) _ _ s;refine Yb (yP hT jgg ?_);exact Yk h
structure ZipMade (h₀ h:Heap) (S z TO i1 i2:Addr) (xs ys tF:Array Value) (i:Nat):Prop where
 size:tF.size=i
 pair:∀j,j<i->∃T x y,tF[j]?=some (.ref T)/\xs[j]?=some x/\ys[j]?=some y/\IsPair h T x y/\h₀.objs.size<=T/\T≠S/\(T≠z/\T≠TO/\T≠i1/\T≠i2)/\∀k,k<j->tF[k]?≠some (.ref T)
 keep:∀b o,h₀.get? b=some o->h.get? b=some o
theorem jjY {z TI TO i1 i2 l1 l2:Addr} {xs ys:Array Value} {h₀:Heap} {Q:Value->Shared->Prop} (hh:A.handled=none) (D:ZipApart z TI TO i1 i2 l1 l2)
 (hz:IsZip s.heap z TI TO .none) (hTI:IsPair s.heap TI (.ref i1) (.ref i2)) (hTO:∃a b,IsPair s.heap TO a b) (h1:s.heap.IsListIter i1 l1 0) (h2:s.heap.IsListIter i2 l2 0) (hl1:h₀.IsList l1 xs) (hl2:h₀.IsList l2 ys)
 (hk:∀b o,h₀.get? b=some o->s.heap.get? b=some o) (hge:h₀.objs.size<=z/\h₀.objs.size<=TO/\h₀.objs.size<=i1/\h₀.objs.size<=i2) (hle:h₀.objs.size<=s.heap.objs.size) (hn:xs.size<sizeLine)
 (hQ:∀S h' tF c,h₀.objs.size ≤ S → h'.get? S=some { cls:=.type "list",data:=.seq tF c } → ZipMade h₀ h' S z TO i1 i2 xs ys tF (min xs.size ys.size) → Q (.ref S) { s with heap:=h' }) :
 wpAny (model prog w) A (call (.type "list") [.ref z]) Q E s:=by
 refine callType_codes (Q₁:=fun obj s₁=>obj=.ref s.heap.objs.size ∧ s₁={ s with heap:=s.heap.push { cls:=.type "list",data:=.seq #[] } }) F.called_list (F.typeCall_list_1 _) F.entry_list_init (code_list_new _ ⟨rfl,rfl⟩) fun obj s₁ e₁=>?_;obtain ⟨rfl,rfl⟩:=e₁;generalize hSd:s.heap.objs.size=S at *
 have hS:(s.heap.push { cls:=.type "list",data:=.seq #[] }).get? S=some { cls:=.type "list",data:=.seq #[] }:=by rw [← hSd];exact Yx _ rfl
 refine ⟨⟨_,hS,rfl⟩,F.args_list_init_2 _ _,?_⟩;generalize hG:s.heap.push { cls:=.type "list",data:=.seq #[] }=G at *
 have up:∀b o,s.heap.get? b=some o->G.get? b=some o:=fun b o e=>by rw [<-hG];exact Yl _ e
 have nS:∀b o,s.heap.get? b=some o->b≠S:=fun b o e=>by rw [<-hSd];exact Yt (Yw e)
 obtain ⟨ta,tb,hTO⟩:=hTO;obtain ⟨oi1,ei1,_⟩:=id h1;obtain ⟨oi2,ei2,_⟩:=id h2;have zS:=nS _ _ hz;have i1S:=nS _ _ ei1;have i2S:=nS _ _ ei2;have TIS:=nS _ _ hTI;have TOS:=nS _ _ hTO;have zl:z<S:=by have q:=ltN hz;rw [hSd] at q;exact q
 have TOl:TO<S:=by have q:=ltN hTO;rw [hSd] at q;exact q
 have i1l:i1<S:=by have q:=ltN ei1;rw [hSd] at q;exact q
 have i2l:i2<S:=by have q:=ltN ei2;rw [hSd] at q;exact q
 -- the list is emptied, then filled
 show wpAny _ _ (do let old <- Builtin.List.listItems (.ref S);Builtin.List.listUpdate (.ref S) (fun _=>#[]);letGo old.toList.reverse;Builtin.List.listExtendWith (.ref S) (.ref z) .none) _ _ _;refine Yb ?_;unfold Builtin.List.listItems;refine Yb (Ky hS rfl (Yk ?_));show wpAny _ _ (updateSeq S (fun _=>#[]) >>= fun _=>letGo (#[]:Array Value).toList.reverse >>= fun _=>Builtin.List.listExtendWith (.ref S) (.ref z) .none) _ _ _;refine Yb (yE hS rfl ?_);have hS2:=YW (Obj.mapSeq (fun _=>(#[]:Array Value))) hS rfl;refine Yb (wpAny_letGo ?_);have sb1:Heap.SameBut S G (G.update S ‹"aQ"›):=Heap.SameBut.update ..
 generalize G.update S ‹"aQ"›=G1 at hS2 sb1 ⊢;have up1:∀b o,s.heap.get? b=some o->G1.get? b=some o:=fun b o e=>sb1.extBut b o (nS b o e) (up b o e);unfold Builtin.List.listExtendWith;refine Yb (wpAny_typeOf (T := "zip") ⟨_,up1 _ _ hz,rfl⟩ ?_);have hsr:Builtin.List.listSameRef (.ref S) (.ref z)=false:=by simp [Builtin.List.listSameRef,Ne.symm zS]
 have t1:(Value.type "zip" == Value.type "list")=false:=by decide
 have t2:(Value.type "zip" == Value.type "tuple")=false:=by decide
 simp only [hsr,t1,t2,Bool.or_false,YX,yy];refine Yb (wpAny_pyIter_zip (up1 _ _ hz) ?_);refine Yb (yn (jkZ (up1 _ _ hz) ?_));simp only [Bool.true_or,yo];refine Yb (wpAny_rule ?_);refine Yb ?_;show wpAny _ _ (updateSeq S (·.push .none) >>= fun _=>updateSeq S (·.pop)) _ _ _;refine Yb (yE hS2 rfl ?_);have hS3:=YW (Obj.mapSeq (·.push Value.none)) hS2 rfl;have sb2:Heap.SameBut S G1 (G1.update S (Obj.mapSeq (·.push Value.none))):=Heap.SameBut.update ..
 generalize G1.update S (Obj.mapSeq (·.push Value.none))=G2 at hS3 sb2 ⊢;refine yE (hz:=by seq_fits) hS3 rfl ?_;have hS4:=YW (Obj.mapSeq (·.pop)) hS3 rfl;have sb3:Heap.SameBut S G2 (G2.update S (Obj.mapSeq (·.pop))):=Heap.SameBut.update ..
 generalize G2.update S (Obj.mapSeq (·.pop))=G3 at hS4 sb3 ⊢;have up3:∀b o,s.heap.get? b=some o->G3.get? b=some o:=fun b o e=>sb3.extBut b o (nS b o e) (sb2.extBut b o (nS b o e) (up1 b o e));refine Yk ⟨yV ki _,?_⟩;refine jbD (fun n tF s'=>∃(i c:Nat) (h:Heap),s'={ s with heap:=h } ∧ n=xs.size+1-i ∧ i ≤ xs.size ∧ i ≤ ys.size ∧ ZipMade h₀ h S z TO i1 i2 xs ys tF i ∧ h.get? S=some { cls:=.type "list",data:=.seq tF c } ∧ IsPair h TI (.ref i1) (.ref i2) ∧
  h.IsListIter i1 l1 i/\h.IsListIter i2 l2 i/\h₀.objs.size<=h.objs.size/\((IsZip h z TI TO .none/\∃a b,IsPair h TO a b)\/∃a f oa,JR h z TI TO a f/\h.get? a=some oa/\a≠z/\a≠i1/\a≠i2/\a≠S)) ?_ (xs.size+1) #[] _
  ⟨0,_,G3,rfl,by omega,yH _,yH _,⟨rfl,fun j hj=>absurd hj (K9 _),fun b o e=>up3 b o (hk b o e)⟩,hS4,up3 _ _ hTI,h1.at fun o e=>up3 _ o e,h2.at fun o e=>up3 _ o e,
   by rw [sb3.1,sb2.1,sb1.1,<- hG,yh];omega,.inl ⟨up3 _ _ hz,_,_,up3 _ _ hTO⟩⟩
 rintro n tF s' ⟨i,c,h,rfl,rfl,hix,hiy,M,hSl,pTI,p1,p2,hsz,zs⟩;have hb0:∀{b:Addr} {o:Obj},h₀.get? b=some o->b≠z/\b≠TO/\b≠i1/\b≠i2/\b≠S:=fun {b o} e=>by have q:=ltN e;exact ⟨Yt (Ym q hge.1),Yt (Ym q hge.2.1),Yt (Ym q hge.2.2.1),Yt (Ym q hge.2.2.2),Yt (Ym q hle)⟩
 have hl1':h.IsList l1 xs:=hl1.at fun o e=>M.keep _ o e;have hl2':h.IsList l2 ys:=hl2.at fun o e=>M.keep _ o e;obtain ⟨ol1,el1,_⟩:=id hl1;obtain ⟨ol2,el2,_⟩:=id hl2;refine ⟨by rw [M.size];omega,?_⟩;have ltS:S<h.objs.size:=ltN hSl
 -- behind a pair
 have next:∀(h':Heap) (x y:Value) (a:Addr) (f:Bool) (oa:Obj),xs[i]?=some x->ys[i]?=some y->IsPair h' h.objs.size x y->h'.objs.size=h.objs.size+1->JR h' z TI TO a f->h'.get? a=some oa->a≠z->a≠i1->a≠i2->a≠S->
  h'.IsListIter i1 l1 (i+1)->h'.IsListIter i2 l2 (i+1)->(∀c o,c≠z->c≠TO->c≠i1->c≠i2->h.get? c=some o->h'.get? c=some o)->
  (∃c,h'.get? S=some { cls:=.type "list",data:=.seq tF c }) ∧
  ∀h'' c',h''.get? S=some { cls:=.type "list",data:=.seq (tF.push (.ref h.objs.size)) c' } → Heap.SameBut S h' h'' → ∃m,m<xs.size+1-i ∧ ∃(i' c:Nat) (g:Heap),({ s with heap:=h'' }:Shared)={ s with heap:=g } ∧ m=xs.size+1-i' ∧ i' ≤ xs.size ∧ i' ≤ ys.size ∧ ZipMade h₀ g S z TO i1 i2 xs ys (tF.push (.ref h.objs.size)) i' ∧
    g.get? S=some { cls:=.type "list",data:=.seq (tF.push (.ref h.objs.size)) c } ∧ IsPair g TI (.ref i1) (.ref i2) ∧ g.IsListIter i1 l1 i' ∧ g.IsListIter i2 l2 i' ∧ h₀.objs.size ≤ g.objs.size ∧
    ((IsZip g z TI TO .none/\∃a b,IsPair g TO a b)\/∃a f oa,JR g z TI TO a f/\g.get? a=some oa/\a≠z/\a≠i1/\a≠i2/\a≠S):=by
  intro h' x y a f oa hx hy pT hs' zh ea az a1 a2 aS q1 q2 kk;have hxl:i<xs.size:=by
   rcases YT i xs.size with q | q
   . exact q
   . rw [yt q] at hx;cases hx
  have hyl:i<ys.size:=by
   rcases YT i ys.size with q | q
   . exact q
   . rw [yt q] at hy;cases hy
  have TS:h.objs.size≠S:=yp ltS;refine ⟨⟨c,kk _ _ (Ne.symm zS) (Ne.symm TOS) (Ne.symm i1S) (Ne.symm i2S) hSl⟩,fun h'' c' eS sb=>⟨xs.size+1-(i+1),by omega,i+1,c',h'',rfl,rfl,hxl,hyl,⟨by rw [Array.size_push,M.size],fun j hj=>?_,fun b o e=>?_⟩,eS,sb.extBut _ _ TIS (kk _ _ D.TIz D.TITO D.TIi1 D.TIi2 pTI),q1.extBut sb.extBut i1S,q2.extBut sb.extBut i2S,by rw [sb.1];omega,
   .inr ⟨a,f,oa,sb.extBut _ _ zS zh,sb.extBut _ _ aS ea,az,a1,a2,aS⟩⟩⟩
  . rcases YT j i with q | q
    . obtain ⟨T',x',y',e1,e2,e3,e4,e5,e6,e8,e7⟩:=M.pair j q;have hT':=ltN e4;refine ⟨T',x',y',by rw [KH,if_neg (by rw [M.size];omega)];exact e1,e2,e3,?_,e5,e6,e8,fun k hk'=>by rw [KH,if_neg (by rw [M.size];omega)];exact e7 k hk'⟩;obtain ⟨t1',t2',t3',t4'⟩:=e8;exact sb.extBut _ _ e6 (kk _ _ t1' t2' t3' t4' e4)
    . have e:j=i:=by omega
      subst e;refine ⟨h.objs.size,x,y,by rw [KH,if_pos M.size.symm],hx,hy,sb.extBut _ _ TS pT,hsz,TS,⟨yp (yK zl ltS),yp (yK TOl ltS),yp (yK i1l ltS),yp (yK i2l ltS)⟩,fun k hk'=>?_⟩;obtain ⟨T',x',y',e1,e2,e3,e4,e5,e6,e8,e7⟩:=M.pair k hk';have hT':=ltN e4;rw [KH,if_neg (by rw [M.size];omega),e1];intro z';have:T'=h.objs.size:=by injection z' with z';injection z'
      exact absurd this (Yt hT')
  . obtain ⟨b1,b2,b3,b4,b5⟩:=hb0 e;exact sb.extBut _ _ b5 (kk _ _ b1 b2 b3 b4 (M.keep b o e))
 have none_of:¬(i<xs.size/\i<ys.size)->(xs[i]?=none\/ys[i]?=none)/\i=min xs.size ys.size:=fun q=>by
  refine ⟨?_,by omega⟩;rcases YT i xs.size with q1 | q1
  . exact .inr (yt (by omega))
  . exact .inl (yt q1)
 by_cases hij:i<xs.size/\i<ys.size
 . have hx:=YH hij.1;have hy:=YH hij.2;rcases zs with ⟨zf,ta',tb',pTO⟩ | ⟨a,f,oa,zh,ea,az,a1,a2,aS⟩
   . refine wpAny_pyNext_zip_item D zf pTI pTO p1 p2 hl1' hl2' hx hy fun h' r1 r2 r3 r4 r5 r6 r7=>?_;exact next h' _ _ _ false _ hx hy r5 r6 r1 r5 (yp (yK zl ltS)) (yp (yK i1l ltS)) (yp (yK i2l ltS)) (yp ltS) r3 r4 r7
   . refine jds D zh ea pTI p1 p2 hl1' hl2' hx hy fun h' r1 r3 r4 r5 r6 r7=>?_;exact next h' _ _ a true oa hx hy r5 r6 r1 (r7 _ _ az a1 a2 ea) az a1 a2 aS r3 r4 fun c o c1 _ c3 c4 e=>r7 c o c1 c3 c4 e
 . obtain ⟨he,hm⟩:=none_of hij;have fin:∀h':Heap,(∀c o,c≠z->c≠TO->c≠i1->c≠i2->h.get? c=some o->h'.get? c=some o)->wants (fun r s₂=>r=Value.none/\Q (.ref S) s₂) E (.ok (.ret .none)) { s with heap:=h' }:=fun h' kk=>by
    refine ⟨rfl,hQ S h' tF c hle (kk _ _ (Ne.symm zS) (Ne.symm TOS) (Ne.symm i1S) (Ne.symm i2S) hSl) ⟨by rw [M.size,hm],fun j hj=>?_,fun b o e=>?_⟩⟩
    . obtain ⟨T',x',y',e1,e2,e3,e4,e5,e6,e8,e7⟩:=M.pair j (by omega);exact ⟨T',x',y',e1,e2,e3,kk _ _ e8.1 e8.2.1 e8.2.2.1 e8.2.2.2 e4,e5,e6,e8,e7⟩
    . obtain ⟨b1,b2,b3,b4,b5⟩:=hb0 e;exact kk _ _ b1 b2 b3 b4 (M.keep b o e)
   rcases zs with ⟨zf,ta',tb',pTO⟩ | ⟨a,f,oa,zh,ea,az,a1,a2,aS⟩
   . exact wpAny_pyNext_zip_end hh D zf pTI pTO p1 p2 hl1' hl2' he fun h' kk=>fin h' kk
   . exact jed hh D zh ea pTI p1 p2 hl1' hl2' he fun h' kk=>fin h' fun c o c1 _ c3 c4 e=>kk c o c1 c3 c4 e
end
end L2
namespace L2S
open PySem PySem.Spec PyProof.Rows
def jaq (t:SetTable) (j:Nat):Prop:=t.place[SetTable.below t.place j]?≠some j
theorem jch {t:SetTable} {j:Nat} (h:∀i,t.slot j≠.live i):jaq t j:=by intro q;refine h (SetTable.below t.place j) ?_;unfold SetTable.slot;simp [q]
theorem Z7 {t:SetTable} {f:Nat->Int} {h:Int}:∀(fuel:Nat) (p:SetTable.Probe) (j:Nat) (d:Option Nat),(∀x,p.dummy=some x->jaq t x)->SetTable.probe.go t f h fuel p=some (.empty j d)->jaq t j/\∀x,d=some x->jaq t x
 | 0,p,j,d,_,e=>by unfold SetTable.probe.go at e;cases e
 | fuel+1,p,j,d,hp,e=>by
   unfold SetTable.probe.go at e;have adv:∀q:SetTable.Probe,(t.advance q).dummy=q.dummy:=fun q=>by unfold SetTable.advance;split <;> rfl
   cases hs:t.slot p.j with
   | empty=>rw [hs] at e;have e':=Option.some.inj e;injection e' with e1 e2;subst e1 e2;exact ⟨jch (fun i z=>by rw [hs] at z;cases z),hp⟩
   | dummy=>rw [hs] at e;refine Z7 fuel _ j d (fun x hx=>?_) e;rw [adv] at hx;have hx':p.j=x:=Option.some.inj hx;subst hx';exact jch fun i z=>by rw [hs] at z;cases z
   | live i=>
     rw [hs] at e;dsimp only at e;split at e
     . cases e
     . exact Z7 fuel _ j d (fun x hx=>by rw [adv] at hx;exact hp x hx) e
theorem jfA {t:SetTable} {h:Int} {j:Nat} {b:Bool} (e:t.freeSlot h=some (j,b)):jaq t j:=by
 unfold SetTable.freeSlot at e;split at e
 . rename_i j' d hp;have q:=Z7 _ _ _ _ (fun x hx=>by cases hx) hp;have e':=congrArg Prod.fst (Option.some.inj e);dsimp only at e';subst e';cases d with
   | none=>exact q.1
   | some x=>exact q.2 x rfl
 . cases e
theorem jgM {t:SetTable} (es:Array (Int×Value)) (h:Int) (x:Value) (R:Ris t.place):Ris (layNew t es h x).2.1.place/\(layNew t es h x).2.1.led=t.led:=by
 unfold layNew;split
 . rename_i j wd e;dsimp only;unfold SetTable.orStandIn;split
   . exact ⟨jhl R (jfA e),rfl⟩
   . exact ⟨ZA _,rfl⟩
 . exact ⟨ZA _,rfl⟩
theorem jeR {t:SetTable} (es:Array (Int×Value)) (n:Nat):Ris (relayAll t es n).2.1.place/\(relayAll t es n).2.1.led=t.led:=by
 unfold relayAll;split
 . rename_i t' o e;dsimp only;split
   . have q:=jkz e;exact ⟨q.1,q.2.1⟩
   . exact ⟨ZA _,rfl⟩
 . exact ⟨ZA _,rfl⟩
theorem Z3 {α:Type}:∀{l:List α} {i:Nat} (h:i<l.length),(l[i]::l.eraseIdx i).Perm l
 | a::l,0,_=>.rfl
 | a::l,i+1,h=>by have ih:=Z3 (l:=l) (i:=i) (by simpa using h);rw [List.eraseIdx_cons_succ,List.getElem_cons_succ];exact (List.Perm.swap _ _ _).trans (ih.cons a)
theorem jig {α:Type} (next:Nat->Nat):∀(fuel k:Nat) (left:List α) (out:Array α),left.length<=fuel->(pickOrder.go next fuel k left out).toList.Perm (out.toList++left)
 | 0,k,left,out,h=>by have:left=[]:=List.length_eq_zero_iff.mp (by omega);subst this;unfold pickOrder.go;simp
 | fuel+1,k,left,out,h=>by
   unfold pickOrder.go;cases left with
   | nil=>simp
   | cons a l=>
     have hlt:next k%(a::l).length<(a::l).length:=Nat.mod_lt _ (by simp)
     rw [Ya hlt];dsimp only;refine (jig next fuel (k+1) _ _ ?_).trans ?_
     . rw [List.length_eraseIdx_of_lt hlt];simp at h ⊢;omega
     . rw [Array.toList_push,Ke];refine List.Perm.append_left _ ?_;exact (Z3 hlt)
theorem jiP {α:Type} (next:Nat->Nat) (xs:Array α):(pickOrder next xs).toList.Perm xs.toList:=by
 have:=jig next xs.size 0 xs.toList #[] (by simp)
 simpa [pickOrder] using this
section
variable {prog:Program} {w:World} {A:Around} {E:Value->Shared->Prop} {s:Shared}
theorem jiW {src:Source} {n:Nat} {Q:Nat->Shared->Prop} (hn:n≠0) (h:∀i d,i<n->Q i { s with drawn:=d }):wpAny (model prog w) A (choose src n) Q E s:=fun _ _ _=>⟨hn,h _ _ (Nat.mod_lt _ (Nat.pos_of_ne_zero hn))⟩
theorem jhy {α:Type}:∀(n:Nat) (xs:List α) (s:Shared) {Q:List α->Shared->Prop},n=xs.length->(∀ys d,ys.Perm xs->Q ys { s with drawn:=d })->wpAny (model prog w) A (drawOrder n xs) Q E s
 | 0,xs,s,Q,hn,h=>by have:xs=[]:=List.length_eq_zero_iff.mp hn.symm;subst this;unfold drawOrder;exact Yk (h [] s.drawn .rfl)
 | n+1,[],s,Q,hn,h=>by simp at hn
 | n+1,x::xs,s,Q,hn,h=>by unfold drawOrder;refine Yb (jiW (by simp) fun i d hi=>?_);rw [Ya hi];dsimp only;refine Yb (jhy n ((x::xs).eraseIdx i) _ (by rw [List.length_eraseIdx_of_lt hi];omega) fun ys d' hp=>Yk ?_);exact h _ d' (((List.Perm.cons _ hp)).trans (Z3 hi))
def jeL:Value->Int
 | .int k _=>k
 | _=>0
def ZK (prog:Program) (w:World) (h:Heap) (a:Addr) (ns:List Int):Prop:=
 ∃o es ep t,h.get? a=some o/\o.ExactSet/\o.data=.set es ep t/\ElemsOf ‹"ae"› es.toList/\(∀k,k∈ns ↔ ∃e∈es.toList,‹"ae"›.is k e.2=true)/\t.fits es.size=true/\es.size<=ns.length /\
   (es.toList.map fun e=>jeL e.2).Nodup ∧ Ris t.place ∧ (w.params.followText "set-order"=false → t.led=true)
theorem jaC {es:List (Int×Value)} (h:ElemsOf ‹"ae"› es) {e:Int×Value} (he:e∈es):∃k t,e.2=.int k t:=by obtain ⟨⟨k,hk,_⟩,_⟩:=h e he;obtain ⟨t,q⟩:=Value.isInt_shape (k:=k) (v:=e.2) hk;exact ⟨k,t,q⟩
theorem is_int {k j:Int} {t:Tok}:‹"ae"›.is k (.int j t)=true ↔ k=j:=by
 constructor
 . intro h;obtain ⟨t',e⟩:=Value.isInt_shape (k:=k) (v:=.int j t) h;injection e with e1 _;exact e1.symm
 . rintro rfl;exact intKind_is _ _ _ _
theorem jh0 {b:Bool} {Q:Unit → Shared → Prop} (h:Q () s):wpAny (model prog w) A (match b with | true=>rule "set.scan.the-table-gave-way" | false=>pure ()) Q E s:=by
 cases b
 . exact Yk h
 . exact wpAny_rule h
theorem stored {a:Addr} {o:Obj} {es es':Array (Int×Value)} {ep:Nat} {t t':SetTable} {ns:List Int} {h:Heap} (ho:h.get? a=some o) (hex:o.ExactSet) (hd:o.data=.set es ep t) (h1:ElemsOf ‹"ae"› es'.toList)
 (h2:∀k,k∈ns ↔ ∃e∈es'.toList,‹"ae"›.is k e.2=true) (h3:t'.fits es'.size=true) (h4:es'.size ≤ ns.length) (h5:(es'.toList.map fun e=>jeL e.2).Nodup) (h6:Ris t'.place) (h7:w.params.followText "set-order"=false → t'.led=true) :
 (h.update a (Obj.putSet es' t')).get? a=some { o with data:=.set es' (ep+1) t' }/\ZK prog w (h.update a (Obj.putSet es' t')) a ns:=by
 have e:(h.update a (Obj.putSet es' t')).get? a=some { o with data:=.set es' (ep+1) t' }:=by
  have q:=YW (Obj.putSet es' t') ho (by rw [putSet_of es' t' hd];rfl)
  rwa [putSet_of es' t' hd] at q
 exact ⟨e,_,es',ep+1,t',e,hex,rfl,h1,h2,h3,h4,h5,h6,h7⟩
theorem jqL {a:Addr} {ns:List Int} {k:Int} {tk:Tok} {Q:Bool->Shared->Prop} (hS:ZK prog w s.heap a ns) (hroom:ns.length+1<scanBound)
 (h:∀h' b,Heap.SameBut a s.heap h'->ZK prog w h' a (ns++[k])->Q b { s with heap:=h' }):wpAny (model prog w) A (setAddHashed a (.int k tk) (‹"ae"›.hash k)) Q E s:=by
 obtain ⟨o,es,ep,t,ho,hex,hd,hel,hmem,hf,hle,hnd,hris,hled⟩:=hS;have hb:es.size<scanBound:=by omega
 have hkey:‹"ae"›.is k (.int k tk)=true:=intKind_is _ _ _ _;have hsc:(Value.int k tk).scannable=true:=rfl;unfold setAddHashed setAddHashedIn;refine yn (Yb (yj ho hd hf ?_));dsimp only;rw [byScan_of hsc hb hel,if_pos rfl];unfold setAddByScan;refine Yb (Yb (wpAny_rule (Yb (wpAny_setScan_of hkey ho hd hf hel ?_))));cases hr:List.findIdx? (fun e=>‹"ae"›.is k e.2) es.toList with
 | some j=>
   dsimp only;obtain ⟨hj,hpj,_⟩:=List.findIdx?_eq_some_iff_getElem.mp hr;have hk:k∈ns:=(hmem k).mpr ⟨es.toList[j],KC hj,hpj⟩;refine Yk (Yk ?_);have:=h s.heap false (Heap.SameBut.refl a s.heap) ⟨o,es,ep,t,ho,hex,hd,hel,fun k'=>by rw [Y7,YN,<- hmem k'];exact ⟨fun z=>z.elim id fun e=>e ▸ hk,.inl⟩,hf,by rw [YU];omega,hnd,hris,hled⟩
   exact this
 | none=>
   dsimp only;have hno:∀e∈es.toList,‹"ae"›.is k e.2=false:=fun e he=>by have:=List.findIdx?_eq_none_iff.mp hr e he;simpa using this
   have hp:=layNew_perm t es (‹"ae"›.hash k) (.int k tk);have hfits:=layNew_fits t es (‹"ae"›.hash k) (.int k tk);have hR:=jgM es (‹"ae"›.hash k) (.int k tk) hris;generalize layNew t es (‹"ae"›.hash k) (.int k tk)=L at hp hfits hR ⊢;obtain ⟨es1,t1,wd,gave⟩:=L;dsimp only at hp hfits hR ⊢;rw [Array.toList_push] at hp;have hel1:ElemsOf ‹"ae"› es1.toList:=(hel.push hkey hsc).perm hp;have hmem1:∀k',k'∈ns++[k] ↔ ∃e∈es1.toList,‹"ae"›.is k' e.2=true:=fun k'=>by
    rw [Y7,YN,hmem k'];constructor
    . rintro (⟨e,he,q⟩ | rfl)
      . exact ⟨e,hp.mem_iff.mpr (Y9 _ he),q⟩
      . exact ⟨_,hp.mem_iff.mpr (YI _ (YN.mpr rfl)),hkey⟩
    . rintro ⟨e,he,q⟩;rcases Y7.mp (hp.mem_iff.mp he) with he | he
      . exact .inl ⟨e,he,q⟩
      . rw [YN] at he;subst he;exact .inr (is_int.mp q)
   have hsz1:es1.size=es.size+1:=by rw [<-yx,hp.length_eq,YU,yx];rfl
   have hnd1:(es1.toList.map fun e=>jeL e.2).Nodup:=by refine ((hp.map _).nodup_iff).mpr ?_;rw [YO,List.nodup_append];refine ⟨hnd,by simp,fun x hx y hy=>?_⟩;rw [List.map_singleton,YN] at hy;rw [hy];obtain ⟨e,he,rfl⟩:=Y3.mp hx;obtain ⟨j,tj,q⟩:=jaC hel he;have:=hno e he;rw [q] at this ⊢;intro z;have z':j=k:=z;rw [z',intKind_is] at this;cases this
   refine Yb (jh0 ?_);have tail:∀t2:SetTable,t2.fits es1.size=true->Ris t2.place->t2.led=t.led->wpAny (model prog w) A (do
       storeSet a es1 t2
       if (!wd && t2.tooFull)=true then do
           (match (relayAll t2 es1 ‹"at"›).2.2 with | true=>rule "set.scan.the-table-gave-way" | false=>pure ())
           storeSet a (relayAll t2 es1 ‹"at"›).1 (relayAll t2 es1 ‹"at"›).2.1
           pure (some true)
        else pure (some true)) (fun (x:Option Bool) s'=>∃h',x=some true/\s'={ s with heap:=h' }/\Heap.SameBut a s.heap h'/\ZK prog w h' a (ns++[k])) E s:=by
    intro t2 hf2 hr2 hl2;have hz1:es1.size<scanBound:=by omega
    refine Yb (wpAny_storeSet_of ho hd ?_ (fits_of_scanBound hz1));obtain ⟨ho1,hS1⟩:=stored (prog:=prog) (w:=w) (ns:=ns++[k]) ho hex hd hel1 hmem1 hf2 (by rw [YU,hsz1];simp;omega) hnd1 hr2 (fun q=>hl2.trans (hled q));have sb:=Heap.SameBut.update s.heap a (Obj.putSet es1 t2);split
    . have hp2:=relayAll_perm t2 es1 ‹"at"›;have hf3:=relayAll_fits t2 es1 ‹"at"›;have hR2:=jeR (t:=t2) es1 ‹"at"›;generalize relayAll t2 es1 ‹"at"›=L2 at hp2 hf3 hR2 ⊢;obtain ⟨es2,t3,g2⟩:=L2;dsimp only at hp2 hf3 hR2 ⊢;have hsz2:es2.size=es1.size:=by rw [<-yx,hp2.length_eq,yx]
      refine Yb (jh0 ?_);refine Yb (wpAny_storeSet_of ho1 rfl ?_ (fits_of_scanBound (by rw [hsz2];exact hz1)));obtain ⟨_,hS2⟩:=stored (prog:=prog) (w:=w) (ns:=ns++[k]) ho1 hex rfl (hel1.perm hp2) (fun k'=>(hmem1 k').trans ⟨fun ⟨e,he,q⟩=>⟨e,hp2.mem_iff.mpr he,q⟩,fun ⟨e,he,q⟩=>⟨e,hp2.mem_iff.mp he,q⟩⟩) hf3
       (by rw [YU,hsz2,hsz1];simp;omega) (((hp2.map _).nodup_iff).mpr hnd1) hR2.1 (fun q=>(hR2.2.trans hl2).trans (hled q))
      exact Yk ⟨_,rfl,rfl,sb.trans (Heap.SameBut.update _ a _),hS2⟩
    . exact Yk ⟨_,rfl,rfl,sb,hS1⟩
   have fin:∀(x:Option Bool) (s':Shared),(∃h',x=some true/\s'={ s with heap:=h' }/\Heap.SameBut a s.heap h'/\ZK prog w h' a (ns++[k]))->
       wpAny (model prog w) A (match x with | some added=>pure added | none=>setAddHashedIn a (.int k tk) (‹"ae"›.hash k) 99999) Q E s':=by
    rintro _ _ ⟨h',rfl,rfl,sb,hS'⟩;exact Yk (h h' true sb hS')
   split
   . rw [hashByValue_scannable 8 hsc];refine Yb (Yk ?_);exact yr (tail t1 hfits hR.1 hR.2) fin fun _ _ q=>q
   . refine Yb (Yk ?_);exact yr (tail t1 hfits hR.1 hR.2) fin fun _ _ q=>q
theorem jdw {R:Result->Shared->Prop} {S l I:Addr} {items:Array Value} {ns:List Int} (hh:A.handled=none) (hi:IntsAre items.toList ns) (hlI:l≠I) (hSl:S≠l) (hSI:S≠I) (hb:ns.length+1<scanBound) :
 ∀(k i:Nat) (s:Shared),ns.length-i=k->i<=ns.length->s.heap.IsListIter I l i->s.heap.IsList l items->ZK prog w s.heap S (ns.take i)->
   (∀h' tk,(∀b o,b≠S->b≠I->s.heap.get? b=some o->h'.get? b=some o)->ZK prog w h' S ns->R (.ok (.ret .none)) { s with heap:=h',toks:=tk })->
   codeAny (model prog w) A (.builtin "set.update.loop" ⟨[.ref S,.ref I],[]⟩) R s:=by
 have tK:items.size=ns.length:=by have:=hi.length;simpa using this
 have moveS:∀{h h':Heap} {m:List Int},ZK prog w h S m->(∀o,h.get? S=some o->h'.get? S=some o)->ZK prog w h' S m:=by rintro h h' m ⟨o,es,ep,t,ho,r⟩ hk;exact ⟨o,es,ep,t,hk o ho,r⟩
 intro k;induction k with
 | zero=>
   intro i s hk hi' st hl hS hR;have e:i=ns.length:=by omega
   subst e;refine Kc Kz ?_;rw [yI yJ _];show wpAny _ A.in1 (pyNext (.ref I) >>= _) _ _ s;refine Yb (wpAny_pyNext_list_end hh st hl (yt (by omega)) fun h' he=>?_);show wpAny _ A.in1 (ret Value.none) _ _ _;refine Yk (hR h' s.toks (fun b o _ b2 q=>he b o b2 q) (moveS (by rw [List.take_length] at hS;exact hS) fun o q=>he S o hSI q))
 | succ k ih=>
   intro i s hk hi' st hl hS hR;have hlt:i<ns.length:=by omega
   have hlt':i<items.size:=by omega
   obtain ⟨tk,hv⟩:=IntsAre.int_at hi i items[i] (by rw [yG];exact YH hlt');refine Kc Kz ?_;rw [yI yJ _];show wpAny _ A.in1 (pyNext (.ref I) >>= _) _ _ s;refine Yb (wpAny_pyNext_list_item st hl (x:=items[i]) (YH hlt') fun h1 st1 sb1=>?_);rw [hv];generalize hval:ns.getD i 0=v;show wpAny _ A.in1 (holding [Value.int v tk] (setAdd S (.int v tk)) >>= _) _ _ _;refine Yb (yn ?_);unfold setAdd;refine yn (Yb (‹"ae"›.pyHash (k:=v) (intKind_is _ _ _ _) ?_));have hS1:ZK prog w h1 S (ns.take i):=moveS hS fun o q=>sb1.extBut S o hSI q;refine jqL (s:={ s with heap:=h1,toks:=s.toks+1 }) hS1 (by rw [K5];omega) fun h2 b sb2 hS2=>?_;have e2:ns.take i++[v]=ns.take (i+1):=by rw [List.take_succ,Ya hlt,<- hval,Ye,Ya hlt];rfl
   rw [e2] at hS2;refine Yk ⟨yV yJ _,ih (i+1) _ (by omega) hlt (st1.extBut sb2.extBut (Ne.symm hSI)) ((hl.extBut sb1.extBut hlI).extBut sb2.extBut (Ne.symm hSl)) hS2 fun h' tk' kk hS'=>?_⟩;exact hR h' tk' (fun b o b1 b2 q=>kk b o b1 b2 (sb2.extBut b o b1 (sb1.extBut b o b2 q))) hS'
theorem ji3 (a:Value) {Q₁:Value->Shared->Prop}
 (h:∀led:Bool,led=!w.params.followText "set-order" → Q₁ (.ref s.heap.objs.size) { s with heap:=s.heap.push { cls:=.type "set",dict:=none,data:=.set #[] 0 (.fresh 0 0 led) } }) :
 codeAny (model prog w) A (.call (.builtin "set.__new__") ⟨[.type "set",a],[]⟩) (wants Q₁ E) s:=by
 refine codeAny_of_tree ?_;show wpAny _ A.in1 (do checkBuiltinCall "set.__new__" ⟨[.type "set",a],[]⟩;again (.builtin "set.__new__" ⟨[.type "set",a],[]⟩)) _ _ s;refine Yb (wpAny_of_eq (PySem.F.newCall_set_1 a) (Yk ⟨yV PySem.F.plain_set_new _,Kc PySem.F.entry_set_new ?_⟩));rw [yI PySem.F.plain_set_new _];unfold Builtin.«set.__new__» Builtin.Frozenset.newClass;have hsub:=sub_set_self;obtain ⟨hp,g,d,tk,os⟩:=s;dsimp only
 wp_walk
 refine K4 (Yk ?_);dsimp only;simp only [newObj];refine Yb (wpAny_alloc (Yk ?_));exact Yk (h _ rfl)
set_option maxHeartbeats 4000000 in
theorem jgR {l:Addr} {items:Array Value} {ns:List Int} {Q:Value->Shared->Prop} (hh:A.handled=none) (hl:s.heap.IsList l items) (hi:IntsAre items.toList ns) (hb:ns.length+1<scanBound)
 (h:∀(h':Heap) (tk:Nat),ZK prog w h' s.heap.objs.size ns->(∀b o,s.heap.get? b=some o->h'.get? b=some o)->Q (.ref s.heap.objs.size) { s with heap:=h',toks:=tk }) :
 wpAny (model prog w) A (call (.type "set") [.ref l]) Q E s:=by
 obtain ⟨c,tl,hmro⟩:=PySem.F.called_set.mro;have hmade:=PySem.F.called_set.made;have hsub:=PySem.F.called_set.sub;refine wpAny_call (codeAny_of_tree ?_);show wpAny _ _ (callAny (.type "set") _) _ _ _;refine Yk ⟨Code.quiet_builtin _ ‹"aA"›,Kc PySem.F.entry_type_call ?_⟩;rw [Around.under_plain (weight_type_call_type "set" [.ref l] []) rfl];have h1:=PySem.F.called_set.notType;have h2:=PySem.F.called_set.canCreate;have hct:=PySem.F.typeCall_set_1 (.ref l)
 repeat (any_goals (first | assumption | wp_step))
 refine km (ji3 (.ref l) (E:=E) (Q₁:=fun obj s₁=>∃led:Bool,led=(!w.params.followText "set-order") ∧ obj=.ref s.heap.objs.size ∧ s₁={ s with heap:=s.heap.push { cls:=.type "set",dict:=none,data:=.set #[] 0 (.fresh 0 0 led) } }) fun led e=>⟨led,e,rfl,rfl⟩) fun r s₁ hr=>?_;cases r with
 | error e=>exact hr
 | ok fl=>
   cases fl with
   | ret obj=>
     obtain ⟨led,hled,rfl,rfl⟩:=hr;generalize hSd:s.heap.objs.size=S at *
     have hS:‹"Z"›.get? S=some { cls:=.type "set",dict:=none,data:=.set #[] 0 (.fresh 0 0 led) }:=by rw [← hSd];exact Yx _ rfl
     have hGs:‹"Z"›.objs.size=S+1:=by rw [← hSd,yh]
     have up:∀b o,s.heap.get? b=some o → ‹"Z"›.get? b=some o:=fun b o e=>Yl _ e;generalize s.heap.push { cls:=.type "set",dict:=none,data:=.set #[] 0 (.fresh 0 0 led) }=G at *
     have hT:Shared.TypeIs { s with heap:=G } (.ref S) "set":=⟨_,hS,rfl⟩;have hli:=PySem.F.called_set.init.lookup;have hbi:=PySem.F.called_set.init.bind (.ref S)
     repeat (any_goals (first | assumption | wp_step))
     refine km (codeAny_call_builtin (R:=wants (fun r s₂=>r=.none/\∃h' tk,s₂={ s with heap:=h',toks:=tk }/\ZK prog w h' S ns/\(∀b o,s.heap.get? b=some o->h'.get? b=some o)) E) PySem.F.called_set.init.plain PySem.F.entry_set_init (check_set_init_1 hT ?_)) fun r₂ s₂ hr₂=>?_
     . obtain ⟨ol,hol,hcl,nl,hdl⟩:=hl;obtain ⟨ocls,odict,odata,oslots⟩:=ol;simp only at hcl hdl;subst hcl;subst hdl;have hol':=up _ _ hol;have hsls:=PySem.F.sub_list_set;have hslf:=PySem.F.sub_list_frozenset;have hne:(Value.type "list" == Value.type "dict")=false:=by decide
       have hl1:G.IsList l items:=⟨_,hol',rfl,nl,rfl⟩;unfold Builtin.«set.__init__» noKeywords Builtin.Frozenset.updateFrom;generalize hPI:pyIter=PI
       wp_walk
       subst hPI;refine wpAny_pyIter_list hl1 ?_;refine Yb (wpAny_runValue ?_);have hlS:@LT.lt Nat instLTNat l S:=by have q:=L2.ltN hol;rwa [hSd] at q
       have hh3:A.in1.in1.in1.handled=none:=by simp [hh]
       refine jdw (A:=A.in1.in1) (S:=S) (l:=l) (items:=items) (ns:=ns) hh3 hi (I:=G.objs.size) ?_ (yp hlS) ?_ hb (ns.length-0) 0 _ rfl (yH _) ⟨_,Yx _ rfl,rfl,rfl⟩ (hl1.push _) ?_ ?_
       . rw [hGs];exact Yt (yO hlS)
       . rw [hGs];exact Yt (yT _)
       . refine ⟨_,#[],0,.fresh 0 0 led,Yl _ hS,⟨rfl,rfl,rfl⟩,rfl,fun e he=>by simp at he,fun k=>by simp,rfl,by simp,by simp,fun i j _ hj=>by simp [SetTable.fresh] at hj,fun q=>?_⟩;show led=true;rw [hled,q];rfl
       . intro h' tk kk hS';show wpAny _ _ _ _ _ _;refine Yk ?_;show wpAny _ _ (ret Value.none) _ _ _;refine Yk ⟨rfl,h',tk,rfl,hS',fun b o e=>kk b o ?_ ?_ (Yl _ (up b o e))⟩
         . have q:=L2.ltN e;rw [hSd] at q;exact Yt q
         . have q:=L2.ltN e;rw [hSd] at q;rw [hGs];exact Yt (yO q)
     . cases r₂ with
       | error e=>exact hr₂
       | ok fl₂=>
         cases fl₂ with
         | ret r=>
           obtain ⟨rfl,h',tk,rfl,hS',hk'⟩:=hr₂
           repeat (any_goals (first | assumption | wp_step))
           exact h _ _ hS' hk'
         | _=>exact hr₂.elim
   | _=>exact hr.elim
end
end L2S
namespace L2S
open PySem PySem.Spec PyProof.Rows
theorem slot_setit_next:Slot "set_iterator" "__next__" "set_iterator.__next__":=
 .of (owner := "set_iterator") (n:="__next__") (by rw [KL,yW];kernel_rfl) ‹"aA"› ‹"aA"› ‹"aA"›
  (by first | exact .inl ‹"aA"› | exact .inr ‹"aA"›) (by rw [isSubtype_type];kernel_rfl)
theorem Qu:entryFor table "set_iterator.__next__"=some Builtin.«set_iterator.__next__»:=entryFor_of_tree (by kernel_rfl)
theorem Q0 (a:Value):argsOk "set_iterator.__next__" ⟨[a],[]⟩:=by unfold argsOk;kernel_rfl
theorem jcq:entryFor table "set.__iter__"=some Builtin.«frozenset.__iter__»:=entryFor_alias (id' := "frozenset.__iter__") (by kernel_rfl) rfl ‹"aA"› (by kernel_rfl)
abbrev SIt (h:Heap) (it:Addr) (first:Value) (i:Nat) (a:Addr) (n ep:Nat):Prop:=h.get? it=some { cls:=.type "set_iterator",dict:=none,data:=.fields #[first,rawInt i,.ref a,rawInt n,rawInt ep],slots:=#[] }
inductive Mode (w:World) (h:Heap) (a:Addr) (es:Array (Int×Value)) (ep:Nat) (t:SetTable):Value->Nat->List Value->Prop where
 | text {sl i:Nat} (hb:w.params.followText "set-order"=true):Mode w h a es ep t (rawInt sl) i ((pickOrder (w.params.setOrder a ep) es).toList.map (·.2))
 | plain {sl i:Nat} (hb:w.params.followText "set-order"=false) (hd:(!t.plain && decide (es.size>1))=false) (hs:SetTable.below t.place sl=i):Mode w h a es ep t (rawInt sl) i (es.toList.map (·.2))
 | drawn {T:Addr} {i:Nat} {pl:List Nat} (hb:w.params.followText "set-order"=false) (hT:h.get? T=some { cls:=.type "tuple",data:=.seq (pl.map fun (j:Nat)=>rawInt j).toArray }) (hp:pl.Perm (List.range es.size)) :
  Mode w h a es ep t (.ref T) i (pl.filterMap fun j=>(es[j]?).map (·.2))
theorem Mode.perm {w:World} {h:Heap} {a:Addr} {es:Array (Int×Value)} {ep:Nat} {t:SetTable} {f:Value} {i:Nat} {q:List Value} (M:Mode w h a es ep t f i q):q.Perm (es.toList.map (·.2)):=by
 cases M with
 | text hb=>exact (jiP _ es).map _
 | plain hb hd hs=>exact .rfl
 | drawn hb hT hp=>refine (hp.filterMap _).trans ?_;have e:=filterMap_getElem?_range es;rw [<-e,List.map_filterMap]
theorem Mode.at {w:World} {h h':Heap} {a:Addr} {es:Array (Int×Value)} {ep:Nat} {t:SetTable} {f:Value} {i:Nat} {q:List Value} (M:Mode w h a es ep t f i q) (k:∀T o,f=.ref T->h.get? T=some o->h'.get? T=some o):Mode w h' a es ep t f i q:=by
 cases M with
 | text hb=>exact .text hb
 | plain hb hd hs=>exact .plain hb hd hs
 | drawn hb hT hp=>exact .drawn hb (k _ _ rfl hT) hp
theorem jfj {es:Array (Int×Value)}:∀{pl:List Nat} {i j:Nat},(∀x∈pl,x<es.size)->pl[i]?=some j->(pl.filterMap fun j=>(es[j]?).map (·.2))[i]?=(es[j]?).map (·.2)
 | [],i,j,_,e=>by simp at e
 | a::l,i,j,h,e=>by
   have ha:a<es.size:=h a Yf;rw [Ki,YH ha];dsimp only [Option.map];cases i with
   | zero=>
     have:a=j:=by simpa using e
     subst this;rw [YH ha];rfl
   | succ i=>rw [Yn];exact jfj (fun x hx=>h x (Yj _ hx)) (by simpa using e)
section
variable {prog:Program} {w:World} {A:Around} {E:Value->Shared->Prop} {s:Shared}
theorem Ju {Q:Bool → Shared → Prop} (h:Q (w.params.followText "set-order") s):wpAny (model prog w) A setsByText Q E s:=by unfold setsByText;exact Yb (K4 (Yk h))
theorem jae {a:Addr} {o:Obj} {es:Array (Int×Value)} {ep:Nat} {t:SetTable} {Q:Array (Int×Value)->Shared->Prop} (ho:s.heap.get? a=some o) (hd:o.data=.set es ep t) (hf:t.fits es.size=true) (h:Q es s):wpAny (model prog w) A (setEntries a) Q E s:=by unfold setEntries;exact Yb (yj ho hd hf (Yk h))
structure SetL (w:World) (h:Heap) (a:Addr) (o:Obj) (es:Array (Int×Value)) (ep:Nat) (t:SetTable):Prop where
 ob:h.get? a=some o
 ex:o.ExactSet
 dt:o.data=.set es ep t
 fit:t.fits es.size=true
 ris:Ris t.place
 led:w.params.followText "set-order"=false → t.led=true
theorem SetL.psize {w:World} {h:Heap} {a:Addr} {o:Obj} {es:Array (Int×Value)} {ep:Nat} {t:SetTable} (L:SetL w h a o es ep t):t.place.size=es.size:=by have:=L.fit;simp only [SetTable.fits,yi,beq_iff_eq] at this;exact this.1
theorem jks {it a:Addr} {o:Obj} {es:Array (Int×Value)} {ep:Nat} {t:SetTable} {f:Value} {i:Nat} {q:List Value} {v:Value} {Q:Option Value->Shared->Prop} (L:SetL w s.heap a o es ep t) (ha:a≠it) (hf:∀T,f=.ref T->T≠it)
 (hi:SIt s.heap it f i a es.size ep) (M:Mode w s.heap a es ep t f i q) (hx:q[i]?=some v)
 (hQ:∀h' f',SIt h' it f' (i+1) a es.size ep->Mode w h' a es ep t f' (i+1) q->(∀T,f'=.ref T->T≠it)->Heap.SameBut it s.heap h'->Q (some v) { s with heap:=h' }):wpAny (model prog w) A (pyNext (.ref it)) Q E s:=by
 have hT:s.TypeIs (.ref it) "set_iterator":=⟨_,hi,rfl⟩;unfold pyNext;refine Yb ‹"ao"›;show wpAny _ _ (fieldsOf (.ref it) >>= _) _ _ _;refine Yb (wpAny_fieldsOf hi rfl ?_);show wpAny _ _ (setEntries a >>= _) _ _ _;refine Yb (jae L.ob L.dt L.fit ?_);rw [if_neg (by simp)];dsimp only
 -- the two stores behind a place in the table or in the given order
 have two:∀(sl nx:Nat) (x:Value),SIt s.heap it (rawInt sl) i a es.size ep->x=v->(∀h',Mode w h' a es ep t (rawInt nx) (i+1) q)->wpAny (model prog w) A.in1 (do
       setField (.ref it) 0 (rawInt (nx:Int))
       setField (.ref it) 1 (rawInt ((i:Int)+1))
       ret x) (fun fin s'=>∃v,fin=.done (.ret v)/\wpAny (model prog w) A (pure (some v)) Q E s') (fun _ _=>False) s:=by
  intro sl nx x hi' hxv hm;refine Yb (yA hi' (by simp) fun h1 e1 s1=>?_);replace e1:SIt h1 it (rawInt nx) i a es.size ep:=e1;refine Yb (yA e1 (by simp) fun h2 e2 s2=>?_);have e3:SIt h2 it (rawInt nx) (i+1) a es.size ep:=by
   have c:((i+1:Nat):Int)=(i:Int)+1:=by omega
   unfold SIt;rw [c];exact e2
  refine Yk ⟨x,rfl,Yk ?_⟩;rw [hxv];exact hQ h2 _ e3 (hm h2) (fun T z=>nomatch z) (s1.trans s2)
 cases M with
 | @text sl _ hb=>
   show wpAny _ _ (setNext a (sl:Int).toNat (i:Int).toNat (ep:Int).toNat >>= _) _ _ _;rw [Yp,Yp,Yp];refine Yb ?_;unfold setNext;refine Yb (yj L.ob L.dt L.fit ?_);dsimp only;refine Yb (Ju ?_);rw [hb,if_pos rfl,if_neg (by simp)];refine Yb ?_;unfold setWalk;refine Yb (yj L.ob L.dt L.fit ?_);dsimp only;refine Yb (Ju ?_);rw [hb,if_pos rfl];refine Yb (K4 (Yk (Yk ?_)));show wpAny _ _ (match ((pickOrder (w.params.setOrder a ep) es)[i]?).map fun e=>(e.2,sl) with | some (x,next)=>_ | none=>_) _ _ _;have hx':((pickOrder (w.params.setOrder a ep) es)[i]?).map (·.2)=some v:=by rw [List.getElem?_map,yG] at hx;exact hx
   cases e:(pickOrder (w.params.setOrder a ep) es)[i]? with
   | none=>rw [e] at hx';cases hx'
   | some p=>rw [e] at hx';exact yr (two sl sl p.2 hi (Option.some.inj hx') fun h'=>.text hb) (fun _ _ z=>z) fun _ _ z=>z.elim
 | @plain sl _ hb hd hs=>
   show wpAny _ _ (setNext a (sl:Int).toNat (i:Int).toNat (ep:Int).toNat >>= _) _ _ _;rw [Yp,Yp,Yp];refine Yb ?_;unfold setNext;refine Yb (yj L.ob L.dt L.fit ?_);dsimp only;refine Yb (Ju ?_);rw [hb,if_neg Yo];show wpAny _ _ (if (!t.plain && decide (es.size>1))=true then _ else _) _ _ _;rw [if_neg (by rw [hd];exact Yo)];show wpAny _ _ ((if (!t.led && !es.isEmpty)=true then _ else _) >>= _) _ _ _;rw [if_neg (by rw [L.led hb];simp)];refine Yb (Yk ?_);have hil:i<es.size:=by
    rcases YT i es.size with z | z
    . exact z
    . rw [YF (by simpa using z)] at hx;cases hx
   have hip:i<t.place.size:=by rw [L.psize];exact hil
   have hx':es[i].2=v:=by rw [List.getElem?_map,yG,YH hil] at hx;exact Option.some.inj hx
   rw [hs,YH hil,YH hip];refine Yk ?_;have g:t.place.getD i 0=t.place[i]:=by simp [Array.getD,hip]
   have nxt:=jg7 L.ris hip;rw [g] at nxt;exact yr (two sl (t.place[i]+1) es[i].2 hi hx' fun h'=>.plain hb hd nxt) (fun _ _ z=>z) fun _ _ z=>z.elim
 | @drawn T _ pl hb hT' hp=>
   have tK:pl.length=es.size:=by have:=hp.length_eq;simpa using this
   have hall:∀x∈pl,x<es.size:=fun x hx=>yM.mp (hp.mem_iff.mp hx);show wpAny _ _ (seqItems? (.ref T) >>= _) _ _ _;refine Yb (Ky hT' rfl ?_);have hil:i<pl.length:=by
    rcases YT i pl.length with z | z
    . exact z
    . have z':(pl.filterMap fun j=>(es[j]?).map (·.2)).length<=i:=Y2 (List.length_filterMap_le _ _) z;rw [YF z'] at hx;cases hx
   have hj:pl[i]<es.size:=hall _ (KC hil);have hx':es[pl[i]].2=v:=by rw [jfj hall (Ya hil),YH hj] at hx;exact Option.some.inj hx
   have e:((pl.map fun (j:Nat)=>rawInt j).toArray)[(i:Int).toNat]?=some (Value.int (pl[i]:Nat) 0):=by rw [Yp,List.getElem?_toArray,List.getElem?_map,Ya hil];rfl
   dsimp only;rw [e];dsimp only;refine Yb ?_;unfold setNextDrawn;refine Yb (yj L.ob L.dt L.fit ?_);dsimp only;rw [if_neg (by simp),Yp,YH hj];refine Yk ?_;refine Yb (yA hi (by simp) fun h2 e2 s2=>?_);have e3:SIt h2 it (.ref T) (i+1) a es.size ep:=by
    have c:((i+1:Nat):Int)=(i:Int)+1:=by omega
    unfold SIt;rw [c];exact e2
   refine Yk ⟨_,rfl,Yk ?_⟩;show Q (some es[pl[i]].2) _;rw [hx'];exact hQ h2 _ e3 (.drawn hb (s2.extBut _ _ (hf T rfl) hT') hp) hf s2
end
end L2S
namespace L2S
open PySem PySem.Spec PyProof.Rows
section
variable {prog:Program} {w:World} {A:Around} {E:Value->Shared->Prop} {s:Shared}
theorem jl6 {α:Type} {Q:α → Shared → Prop} (hh:A.handled=none) (h:∀h' e,(∀b o,s.heap.get? b=some o → h'.get? b=some o) → (∃o,h'.get? e=some o ∧ o.cls=.type "StopIteration") → E (.ref e) { s with heap:=h' }) :
 wpAny (model prog w) A (do let x ← newExc (.type "StopIteration") [];raiseNew x:Sem α) Q E s:=by
 refine Yb ?_;simp only [newExc,newTuple];refine Yb (Kt ?_ (by size_fits));refine Yb (m:=firstArgMember _ _) (wpAny_of_eq (a:=Value.none) (by first | rfl | (simp only [firstArgMember];rfl)) ?_);refine Kt ?_ (by size_fits);simp only [raiseNew];refine Yb (wpAny_handled ?_);rw [hh];refine Yb (Yk (wpAny_throw ?_));exact h _ _ (fun b o e=>Yl _ (Yl _ e)) ⟨_,Yx _ rfl,rfl⟩
theorem jmr {it a:Addr} {o:Obj} {es:Array (Int×Value)} {ep:Nat} {t:SetTable} {f:Value} {i:Nat} {q:List Value} {Q:Option Value->Shared->Prop} (hh:A.handled=none) (L:SetL w s.heap a o es ep t)
 (hi:SIt s.heap it f i a es.size ep) (M:Mode w s.heap a es ep t f i q) (hx:i=q.length)
 (hQ:∀h',(∀b o,b≠it->s.heap.get? b=some o->h'.get? b=some o)->Q none { s with heap:=h' }):wpAny (model prog w) A (pyNext (.ref it)) Q E s:=by
 have hT:s.TypeIs (.ref it) "set_iterator":=⟨_,hi,rfl⟩;have tK:q.length=es.size:=by have:=M.perm.length_eq;simpa using this
 unfold pyNext;refine Yb ‹"ao"›;show wpAny _ _ (fieldsOf (.ref it) >>= _) _ _ _;refine Yb (wpAny_fieldsOf hi rfl ?_);show wpAny _ _ (setEntries a >>= _) _ _ _;refine Yb (jae L.ob L.dt L.fit ?_);rw [if_neg (by simp)];dsimp only;have stop:∀(h1:Heap),(∀b o,b≠it → s.heap.get? b=some o → h1.get? b=some o) → wpAny (model prog w) A.in1 (do let x ← newExc (.type "StopIteration") [];raiseNew x:Sem Fin) (fun fin s'=>∃v,fin=.done (.ret v) ∧ wpAny (model prog w) A (pure (some v)) Q E s')
  (fun e s'=>wpAny (model prog w) A (do let b ← isInstance e (.type "StopIteration");if b=true then pure none else throw e) Q E s') { s with heap:=h1 }:=fun h1 k1=>by
  refine jl6 (s:={ s with heap:=h1 }) (by simpa using hh) fun h' e k zz=>?_;obtain ⟨oe,ho,hc⟩:=zz;refine Yb (K3 (T := "StopIteration") (b:=true) ⟨oe,ho,hc⟩ isSubtype_stop ?_);exact Yk (hQ h' fun b o hb e=>k b o (k1 b o hb e))
 cases M with
 | @text sl _ hb=>show wpAny _ _ (setNext a (sl:Int).toNat (i:Int).toNat (ep:Int).toNat >>= _) _ _ _;rw [Yp,Yp,Yp];refine Yb ?_;unfold setNext;refine Yb (yj L.ob L.dt L.fit ?_);dsimp only;refine Yb (Ju ?_);rw [hb,if_pos rfl,if_neg (by simp)];refine Yb ?_;unfold setWalk;refine Yb (yj L.ob L.dt L.fit ?_);dsimp only;refine Yb (Ju ?_);rw [hb,if_pos rfl];refine Yb (K4 (Yk (Yk ?_)));show wpAny _ _ (match ((pickOrder (w.params.setOrder a ep) es)[i]?).map fun e=>(e.2,sl) with | some (x,next)=>_ | none=>_) _ _ _;rw [yt (by rw [hx,Yc,yx];exact Ys _)];refine Yb (yA hi (by simp) fun h1 e1 s1=>?_);exact stop h1 fun b o hb e=>s1.extBut b o hb e
 | @plain sl _ hb hd hs=>show wpAny _ _ (setNext a (sl:Int).toNat (i:Int).toNat (ep:Int).toNat >>= _) _ _ _;rw [Yp,Yp,Yp];refine Yb ?_;unfold setNext;refine Yb (yj L.ob L.dt L.fit ?_);dsimp only;refine Yb (Ju ?_);rw [hb,if_neg Yo];show wpAny _ _ (if (!t.plain && decide (es.size>1))=true then _ else _) _ _ _;rw [if_neg (by rw [hd];exact Yo)];show wpAny _ _ ((if (!t.led && !es.isEmpty)=true then _ else _) >>= _) _ _ _;rw [if_neg (by rw [L.led hb];simp)];refine Yb (Yk ?_);rw [hs,yt (by omega)];refine Yk ?_;dsimp only;refine Yb (yA hi (by simp) fun h1 e1 s1=>?_);exact stop h1 fun b o hb e=>s1.extBut b o hb e
 | @drawn T _ pl hb hT' hp=>
   have hpl:pl.length=es.size:=by have:=hp.length_eq;simpa using this
   show wpAny _ _ (seqItems? (.ref T) >>= _) _ _ _;refine Yb (Ky hT' rfl ?_);have e:((pl.map fun (j:Nat)=>rawInt j).toArray)[(i:Int).toNat]?=none:=by rw [Yp,List.getElem?_toArray];exact YF (by rw [Yc];omega)
   dsimp only;rw [e];dsimp only;refine Yb (yA hi (by simp) fun h1 e1 s1=>?_);refine Yb (yA e1 (by simp) fun h2 e2 s2=>?_);exact stop h2 fun b o hb e=>s2.extBut b o hb (s1.extBut b o hb e)
theorem jkP {a:Addr} {o:Obj} {es:Array (Int×Value)} {ep:Nat} {t:SetTable} {Q:Value->Shared->Prop} (L:SetL w s.heap a o es ep t) (hz:es.size<=sizeLine)
 (hQ:∀h' d it f q,SIt h' it f 0 a es.size ep->Mode w h' a es ep t f 0 q->(∀T,f=.ref T->T≠it)->s.heap.objs.size<=it->(∀b o,s.heap.get? b=some o->h'.get? b=some o)->Q (.ref it) { s with heap:=h',drawn:=d }) :
 wpAny (model prog w) A (pyIter (.ref a)) Q E s:=by
 have hT:s.TypeIs (.ref a) "set":=⟨_,L.ob,L.ex.1⟩;refine wpAny_pyIter_slot hT PySem.F.slot_set_iter (yB PySem.F.slot_set_iter hT jcq ?_ (PySem.F.args_set_iter_1 _));show wpAny _ _ (Builtin.Frozenset.sizeOf a >>= _) _ _ _;unfold Builtin.Frozenset.sizeOf;refine Yb (Yb (jae L.ob L.dt L.fit (Yk ?_)));show wpAny _ _ (setDrawn a >>= _) _ _ _;refine Yb ?_;unfold setDrawn;refine Yb (yj L.ob L.dt L.fit ?_);dsimp only;refine Yb (Ju (Yk ?_));show wpAny _ _ (if (!w.params.followText "set-order" && (!t.plain && decide (es.size>1)))=true then _ else _) _ _ _;have fin:∀(g:Heap) (d:Drawn) (f:Value) (q:List Value),(∀b o,s.heap.get? b=some o->g.get? b=some o)->s.heap.objs.size<=g.objs.size->(∀h',(∀b o,g.get? b=some o->h'.get? b=some o)->Mode w h' a es ep t f 0 q)->(∀T,f=.ref T->@LT.lt Nat instLTNat T g.objs.size)->
  wpAny (model prog w) A.in1 (do ret (← newFields "set_iterator" [f,rawInt 0,.ref a,rawInt es.size,rawInt (← setEpoch a)])) (fun fin s'=>∃v,fin=.done (.ret v) ∧ ∃T' r,s'.TypeIs v T' ∧ typeLookup (.type T') "__next__"=pure (some r) ∧ Q v s') E { s with heap:=g,drawn:=d }:=by
  intro g d f q k hle hm hf;refine Yb (wpAny_setEpoch_of (s:={ s with heap:=g,drawn:=d }) (k _ _ L.ob) L.dt L.fit ?_);unfold newFields;refine Yb (Kt ?_ (by size_fits));refine Yk ⟨_,rfl, "set_iterator",_,⟨_,Yx _ rfl,rfl⟩,slot_setit_next.lookup,?_⟩;exact hQ _ d _ f q (Yx _ rfl) (hm _ fun b o e=>Yl _ e) (fun T z=>Yt (hf T z)) hle fun b o e=>Yl _ (k b o e)
 cases hb:w.params.followText "set-order" with
 | true=>rw [if_neg (by simp)];exact fin s.heap s.drawn (rawInt (0:Nat)) _ (fun b o e=>e) (Ys _) (fun h' _=>.text hb) fun T z=>nomatch z
 | false=>
   cases hd:(!t.plain && decide (es.size>1)) with
   | false=>rw [if_neg (by simp)];exact fin s.heap s.drawn (rawInt (0:Nat)) _ (fun b o e=>e) (Ys _) (fun h' _=>.plain hb hd (jgP L.ris)) fun T z=>nomatch z
   | true=>
     rw [if_pos (by simp)];refine Yb (jhy es.size (List.range es.size) s (by simp) fun ys d hp=>?_);have hyl:ys.length=es.size:=by have:=hp.length_eq;simpa using this
     refine Yb (wpAny_newTuple (hsz:=by rw [Yc,hyl];exact hz) ?_);refine fin _ d (.ref s.heap.objs.size) _ (fun b o e=>Yl _ e) (by rw [yh];exact ka _) (fun h' k=>.drawn hb (k _ _ (Yx _ rfl)) hp) fun T z=>?_;injection z with z;rw [<-z,yh];exact yT _
theorem jjT {a:Addr} {Q:Bool → Shared → Prop} (hT:s.TypeIs (.ref a) "set") (h:Q false s):wpAny (model prog w) A (Builtin.List.listLengthHint (.ref a)) Q E s:=by
 unfold Builtin.List.listLengthHint;refine Yb (yP hT PySem.F.slot_set_len.lookup ?_);generalize hid:("set.__len__":String)=id0
 wp_delta
 rw [show splitId id0=some ("set","__len__") from by subst hid;decide +kernel];subst hid;refine Yb (K3 (T := "set") (b:=true) hT (by rw [isSubtype_type];kernel_rfl) ?_);refine yZ (fun hab=>absurd hab (by decide)) (fun _=>?_);refine yZ (fun _=>?_) (fun hab=>absurd ‹"aA"› hab);refine Yb (wpAny_typeOf hT ?_);exact Yk h
theorem jf9 {a:Addr} {o:Obj} {es:Array (Int×Value)} {ep:Nat} {t:SetTable} {Q:List Value->Shared->Prop} (hh:A.handled=none) (L:SetL w s.heap a o es ep t) (hz:es.size<sizeLine)
 (h:∀h' d tk (vs:List Value),(∀b o,s.heap.get? b=some o->h'.get? b=some o)->s.heap.objs.size<=h'.objs.size->vs.Perm (es.toList.map (·.2))->Q vs { s with heap:=h',drawn:=d,toks:=tk }):wpAny (model prog w) A (collect (.ref a)) Q E s:=by
 unfold collect;refine Yb (wpAny_runValue (Kc entry_proto_collect' ?_));rw [yI PySem.F.plain_proto_collect _];show wpAny _ A.in1 (newList [] >>= fun l=>again (.builtin "list.__iadd__" ⟨[l,.ref a],[]⟩)) _ _ s;refine Yb (Kt ?_);refine Yk ⟨yV PySem.F.plain_list_iadd _,Kc entry_list_iadd' ?_⟩;rw [yI PySem.F.plain_list_iadd _];generalize hSd:s.heap.objs.size=S at *
 have hS:‹"ab"›.get? S=some { cls:=.type "list",data:=.seq #[] }:=by rw [← hSd];exact Yx _ rfl
 have up:∀b o,s.heap.get? b=some o → ‹"ab"›.get? b=some o:=fun b o e=>Yl _ e;have hGs:‹"ab"›.objs.size=S+1:=by rw [← hSd,yh]
 generalize s.heap.push { cls:=.type "list",data:=.seq ([]:List Value).toArray }=G at *
 have nS:∀b o,s.heap.get? b=some o->b≠S:=fun b o e=>by have q:=L2.ltN e;rw [hSd] at q;exact Yt q
 have aS:=nS _ _ L.ob;have L1:SetL w G a o es ep t:=⟨up _ _ L.ob,L.ex,L.dt,L.fit,L.ris,L.led⟩;have hT:Shared.TypeIs { s with heap:=G } (.ref a) "set":=⟨_,L1.ob,L.ex.1⟩;show wpAny _ A.in1 (Builtin.List.listExtendWith (.ref S) (.ref a) (.ref S)) _ _ _;unfold Builtin.List.listExtendWith;refine Yb (wpAny_typeOf (T := "set") hT ?_);have e1:Builtin.List.listSameRef (.ref S) (.ref a)=false:=by simp [Builtin.List.listSameRef,Ne.symm aS]
 have e2:(Value.type "set" == Value.type "list")=false:=by decide
 have e3:(Value.type "set" == Value.type "tuple")=false:=by decide
 simp only [e1,e2,e3,Bool.or_false,YX,yy];refine Yb (jkP (s:={ s with heap:=G }) L1 (yL hz) fun G1 d it f q hit M hf hle k1=>?_);have itS:it≠S:=by
  have z:S+1<=it:=by have:=hle;show S+1<=it;rw [<-hGs];exact this
  exact yp z
 have ait:a≠it:=by
  have z:S+1<=it:=by have:=hle;show S+1<=it;rw [<-hGs];exact this
  have z2:=L2.ltN L.ob;rw [hSd] at z2;exact Yt (Ym (yO z2) z)
 have hT1:Shared.TypeIs { s with heap:=G1,drawn:=d } (.ref a) "set":=⟨_,k1 _ _ L1.ob,L.ex.1⟩;refine Yb (yn (jjT hT1 ?_));have tK:q.length=es.size:=by have:=M.perm.length_eq;simpa using this
 have key:∀(h1:Heap) (c:Nat),Heap.SameBut S G1 h1 → h1.get? S=some { cls:=.type "list",data:=.seq #[] c } →
  codeAny (model prog w) A (.builtin "list.extend.loop" ⟨[.ref S,.ref it,.ref S],[]⟩) (fun r s'=>match r with
    | .ok (.ret v)=>wpAny (model prog w) A (match v with
     | .ref a=>do
       let o <- load a
       match o.data with
         | .seq xs _=>pure xs.toList
         | _=>unsupported "internal:collect"
     | _=>unsupported "internal:collect") Q E s'
    | .ok _=>False
    | .error e=>E e s') { s with heap:=h1,drawn:=d }:=by
  intro h1 c sb hS1;have nT:∀(g:Heap) (tF:Array Value) (c:Nat),g.get? S=some { cls:=.type "list",data:=.seq tF c } → ∀(f:Value) (i:Nat) (q:List Value),Mode w g a es ep t f i q → ∀T,f=.ref T → T≠S:=by
   rintro g tF c e f i q Mg T rfl z;cases Mg with
   | drawn hb hT hp=>rw [z,e] at hT;have y:(Value.type "list")=Value.type "tuple":=congrArg Obj.cls (Option.some.inj hT);injection y with y;exact absurd y (by decide)
  refine L2.jbD (fun n tF s'=>∃(i c:Nat) (g:Heap) (f:Value),s'={ s with heap:=g,drawn:=d } ∧ n=es.size+1-i ∧ i ≤ es.size ∧ tF=(q.take i).toArray ∧ g.get? S=some { cls:=.type "list",data:=.seq tF c } ∧ SIt g it f i a es.size ep ∧ Mode w g a es ep t f i q ∧ SetL w g a o es ep t ∧
      (∀T,f=.ref T->T≠it)/\∀b o,s.heap.get? b=some o->g.get? b=some o) ?_ (es.size+1) #[] _
   ⟨0,c,h1,f,rfl,rfl,yH _,rfl,hS1,sb.extBut _ _ itS hit,M.at fun T o z e=>sb.extBut _ _ (nT G1 #[] 0 (k1 _ _ hS) f 0 q M T z) e,⟨sb.extBut _ _ aS (k1 _ _ L1.ob),L.ex,L.dt,L.fit,L.ris,L.led⟩,hf,fun b o e=>sb.extBut _ _ (nS b o e) (k1 _ _ (up b o e))⟩
  rintro n tF s' ⟨i,c,g,f,rfl,rfl,hi,rfl,hSg,sit,Mg,Lg,hfg,kg⟩;refine ⟨by simp;omega,?_⟩;rcases YT i es.size with hlt | hge
  . have hx:q[i]?=some q[i]:=Ya (by omega);refine jks (s:={ s with heap:=g,drawn:=d }) Lg ait hfg sit Mg hx fun h' f' sit' M' hf' sb'=>?_;have hS':=sb'.extBut _ _ (Ne.symm itS) hSg;refine ⟨⟨c,hS'⟩,fun h'' c' e'' sb''=>⟨es.size+1-(i+1),by omega,i+1,c',h'',f',rfl,rfl,hlt,?_,e'',sb''.extBut _ _ itS sit',M'.at fun T o z e=>sb''.extBut _ _ (nT h' _ c hS' f' (i+1) q M' T z) e,⟨sb''.extBut _ _ aS (sb'.extBut _ _ ait Lg.ob),L.ex,L.dt,L.fit,L.ris,L.led⟩,hf',fun b o e=>sb''.extBut _ _ (nS b o e) (sb'.extBut _ _ ?_ (kg b o e))⟩⟩
    . rw [List.take_succ,hx];simp
    . have z:=L2.ltN e;rw [hSd] at z;have z2:S+1<=it:=by have:=hle;show S+1<=it;rw [<-hGs];exact this
      exact Yt (Ym (yO z) z2)
  . have e:i=q.length:=by omega
    refine jmr (s:={ s with heap:=g,drawn:=d }) (by simpa using hh) Lg sit Mg e fun h' k'=>?_;have hS':=k' _ _ (Ne.symm itS) hSg;show wpAny _ A (load S >>= _) _ _ _;refine Yb (wpAny_load hS' ?_);refine Yk ?_;have e2:q.take i=q:=by rw [e,List.take_length]
    have:((q.take i).toArray).toList=q:=by rw [e2]
    rw [this];refine h h' d s.toks q (fun b o e=>k' _ _ ?_ (kg b o e)) (yL (L2.ltN hS')) M.perm;have z:=L2.ltN e;rw [hSd] at z;have z2:S+1<=it:=by have:=hle;show S+1<=it;rw [<-hGs];exact this
    exact Yt (Ym (yO z) z2)
 have hS1:=k1 _ _ hS;refine yZ (fun _=>?_) (fun _=>Yk ⟨yV yX _,key G1 0 (Heap.SameBut.refl _ _) hS1⟩);refine Yb (wpAny_rule ?_);refine Yb ?_;show wpAny _ _ (updateSeq S (·.push .none) >>= fun _=>updateSeq S (·.pop)) _ _ _;refine Yb (yE hS1 rfl ?_);have hS2:=YW (Obj.mapSeq (·.push Value.none)) hS1 rfl;refine yE (hz:=by seq_fits) hS2 rfl ?_;have hS3:=YW (Obj.mapSeq (·.pop)) hS2 rfl;exact Yk ⟨yV yX _,key _ _ ((Heap.SameBut.update ..).trans (Heap.SameBut.update ..)) hS3⟩
theorem jhe {a:Addr} {ns:List Int} {Q:Value->Shared->Prop} (hh:A.handled=none) (hS:ZK prog w s.heap a ns) (h64:ns.length<64)
 (h:∀h' d tk l out c ks,(∀b o,s.heap.get? b=some o → h'.get? b=some o) → s.heap.objs.size ≤ l → h'.get? l=some { cls:=.type "list",data:=.seq out c } → IntsAre out.toList ks → ks.Pairwise (· < ·) → (∀k,k∈ks ↔ k∈ns) → ks.length ≤ ns.length →
  Q (.ref l) { s with heap:=h',drawn:=d,toks:=tk }):wpAny (model prog w) A (call (.builtin "sorted") [.ref a]) Q E s:=by
 obtain ⟨o,es,ep,t,ho,hex,hd,hel,hmem,hf,hle,hnd,hris,hled⟩:=hS;have L:SetL w s.heap a o es ep t:=⟨ho,hex,hd,hf,hris,hled⟩;refine Calls.call_function_entry kind_sorted plain_sorted entry_sorted (args_sorted1 _) ?_;unfold Builtin.«sorted»;refine Yb (m:=checkCount "sorted" 1 1 _) (Yk ?_);refine Yb (jf9 (by simpa using hh) L (Ym (by omega:es.size<64) (by decide)) fun h1 d tk vs k1 sz1 hp=>?_);have hvl:vs.length=es.size:=by have:=hp.length_eq;simpa using this
 refine Yb (wpAny_newList (hsz:=Y2 (by omega:vs.length<=64) (by decide)) ?_);have allI:∀{us:List Value},(∀v∈us,∃k t,v=Value.int k t)->IntsAre us (us.map jeL):=by
  intro us;induction us with
  | nil=>intro _;exact .nil
  | cons v us ih=>intro hv;obtain ⟨k,t,rfl⟩:=hv v Yf;exact .cons k t (ih fun x hx=>hv x (Yj _ hx))
 have hI:IntsAre vs (vs.map jeL):=allI fun v hv=>by obtain ⟨e,he,rfl⟩:=Y3.mp (hp.mem_iff.mp hv);exact jaC hel he
 have hkp:(vs.map jeL).Perm (es.toList.map fun e=>jeL e.2):=by
  have:=hp.map jeL
  rwa [YL] at this
 have hoL:(h1.push (seqObj "list" vs.toArray 0)).get? h1.objs.size=some (seqObj "list" vs.toArray 0):=Yx _ rfl;refine Yb (yn (yB slot_list_sort ⟨_,hoL,rfl⟩ entry_list_sort (list_sort_tree (s:={ s with heap:=h1.push (seqObj "list" vs.toArray 0),drawn:=d,toks:=tk }) hoL hI (by omega) fun out ks q1 q2 q3=>⟨_,rfl,?_⟩) (args_list_sort _)));refine Yk ⟨_,rfl,?_⟩;have hlt:h1.objs.size<(h1.push (seqObj "list" vs.toArray 0)).objs.size:=by rw [size_push'];exact yT _
 obtain ⟨c,hc⟩:=sortedHeap_at (out:=out) hoL;have hk2:(vs.map jeL).Nodup:=(hkp.nodup_iff).mpr hnd;have hk3:ks.Nodup:=(q2.nodup_iff).mpr hk2;refine h _ d tk h1.objs.size out c ks (fun b o e=>?_) sz1 hc q1 ?_ (fun k=>?_) ?_
 . have hb:b≠h1.objs.size:=Yt (Yw (k1 b o e));rw [sortedHeap_old hb (yK (Yw (k1 b o e)) hlt)];exact Yl _ (k1 b o e)
 . refine List.Pairwise.imp₂ (fun a b (x:a<=b) (y:a≠b)=>?_) q3 hk3;omega
 . rw [q2.mem_iff,hkp.mem_iff,Y3,hmem k];constructor
   . rintro ⟨e,he,rfl⟩;obtain ⟨j,tj,q⟩:=jaC hel he;refine ⟨e,he,?_⟩;rw [q];exact is_int.mpr rfl
   . rintro ⟨e,he,q⟩;obtain ⟨j,tj,q'⟩:=jaC hel he;refine ⟨e,he,?_⟩;rw [q'] at q ⊢;exact (is_int.mp q).symm
 . have:=q2.length_eq;rw [Yc] at this;omega
end
end L2S
namespace L2
open PySem PySem.Spec PyProof.Rows
def jcZ (cells:List (Str×Addr)):List (Str×NameKind)->List (Str×Addr)->List (Str×Addr)
 | [],tF=>tF
 | (n,k)::r,tF=>jcZ cells r (if (k == NameKind.free)=true then (match cells.lookup n with | some c=>(n,c)::tF | none=>tF) else tF)
theorem jcp {α β:Type} {f:α->β->Sem (ForInStep β)} {g:α->β->β}:∀(l:List α) (b:β),(∀x∈l,∀b,f x b=pure (.yield (g x b)))->forIn l b f=pure (l.foldl (fun b x=>g x b) b)
 | [],b,_=>rfl
 | x::l,b,h=>by rw [List.forIn_cons,h x Yf,pure_bind];exact jcp l _ fun y hy=>h y (Yj _ hy)
theorem jcH (cells:List (Str×Addr)):∀(names:List (Str×NameKind)) (tF:List (Str×Addr)),
 names.foldl (fun b x=>if (x.2 == NameKind.free)=true then (match cells.lookup x.1 with | some c=>(x.1,c)::b | none=>b) else b) tF=jcZ cells names tF
 | [],_=>rfl
 | (n,k)::r,tF=>by rw [List.foldl_cons,jcH cells r];rfl
theorem ZY {scope:Scope} {env:Env} (h:∀n,(n,NameKind.free)∈scope.names->∃c,env.cells.lookup n=some c):closureFor scope env=pure (jcZ env.cells scope.names []):=by
 unfold closureFor;rw [<-jcH];have key:=jcp (f:=fun (x:Str×NameKind) (cs:List (Str×Addr))=>match x with
  | (name,kind)=>if (kind == NameKind.free)=true then (do let c <- cellOf env name;pure (ForInStep.yield ((name,c)::cs))) else pure (ForInStep.yield cs))
  (g:=fun x b=>if (x.2 == NameKind.free)=true then (match env.cells.lookup x.1 with | some c=>(x.1,c)::b | none=>b) else b) scope.names [] (by
   rintro ⟨n,k⟩ hx b;dsimp only;by_cases hk:(k == NameKind.free)=true
   . have e:k=NameKind.free:=by simpa using hk
     subst e;obtain ⟨c,hc⟩:=h n hx;rw [if_pos hk,if_pos hk];unfold cellOf;rw [hc];rfl
   . rw [if_neg hk,if_neg hk])
 first
  | exact key
  | (refine Eq.trans ?_ key;rfl)
  | (simp only [key];rfl)
  | (show (forIn scope.names [] _ >>= fun cs=>pure cs)=_;rw [bind_pure];exact key)
theorem jf1 {cells:List (Str×Addr)}:∀{names:List (Str×NameKind)} {tF:List (Str×Addr)} {n:Str} {c:Addr},(∀n c,(n,c)∈tF->cells.lookup n=some c)->(n,c)∈jcZ cells names tF->cells.lookup n=some c
 | [],tF,n,c,h,q=>h n c q
 | (m,k)::r,tF,n,c,h,q=>by
   refine jf1 (names:=r) ?_ q;intro n' c' q';by_cases hk:(k == NameKind.free)=true
   . rw [if_pos hk] at q';cases e:cells.lookup m with
     | none=>rw [e] at q';exact h n' c' q'
     | some d=>
       rw [e] at q';rcases Yq.mp q' with z | z
       . cases z;exact e
       . exact h n' c' z
   . rw [if_neg hk] at q';exact h n' c' q'
theorem ZE {α:Type}:∀{l:List (Str×α)} {n:Str} {c:α},l.lookup n=some c->(n,c)∈l
 | [],_,_,h=>by simp at h
 | (m,d)::r,n,c,h=>by
   rw [YR] at h;cases e:n == m with
   | true=>
     rw [e] at h;have e':n=m:=by simpa using e
     subst e';cases h;exact Yf
   | false=>rw [e] at h;exact Yj _ (ZE h)
theorem jdM {α:Type}:∀{l:List (Str×α)} {n:Str} {c:α},(n,c)∈l->∃d,l.lookup n=some d
 | (m,d)::r,n,c,h=>by
   rw [YR];cases e:n == m with
   | true=>exact ⟨d,rfl⟩
   | false=>
     rcases Yq.mp h with z | z
     . cases z;simp at e
     . exact jdM z
theorem JU {cells:List (Str×Addr)} {names:List (Str×NameKind)} {n:Str} {c:Addr} (q:(jcZ cells names []).lookup n=some c):cells.lookup n=some c:=jf1 (tF:=[]) (fun _ _ z=>absurd z YJ) (ZE q)
theorem jdJ {cells:List (Str×Addr)}:∀{names:List (Str×NameKind)} {tF:List (Str×Addr)} {p:Str×Addr},p∈tF->p∈jcZ cells names tF
 | [],tF,p,h=>h
 | (m,k)::r,tF,p,h=>by
   refine jdJ (names:=r) ?_;by_cases hk:(k == NameKind.free)=true
   . rw [if_pos hk];cases e:cells.lookup m with
     | none=>exact h
     | some d=>exact Yj _ h
   . rw [if_neg hk];exact h
theorem jfB {cells:List (Str×Addr)}:∀{names:List (Str×NameKind)} {tF:List (Str×Addr)} {n:Str} {c:Addr},(n,NameKind.free)∈names->cells.lookup n=some c->(n,c)∈jcZ cells names tF
 | (m,k)::r,tF,n,c,h,q=>by
   rcases Yq.mp h with z | z
   . have z1:n=m:=congrArg Prod.fst z;have z2:NameKind.free=k:=congrArg Prod.snd z;subst z1 z2;show (n,c)∈jcZ cells r (if (NameKind.free == NameKind.free)=true then _ else _);rw [if_pos (show (NameKind.free == NameKind.free)=true from rfl),q];exact jdJ Yf
   . exact jfB (names:=r) z q
theorem jfc {cells:List (Str×Addr)} {names:List (Str×NameKind)} {n:Str} {c:Addr} (h:(n,NameKind.free)∈names) (q:cells.lookup n=some c):(jcZ cells names []).lookup n=some c:=by obtain ⟨d,e⟩:=jdM (jfB (tF:=[]) h q);have:=JU e;rw [q] at this;cases this;exact e
theorem jau {env:Env}:∀{names:List (Str×NameKind)} {x:Str},names.lookup x=some .free->
 ((names.map fun (n,k)=>if ‹"z"› then (n,NameKind.cell) else (n,k)).lookup x=some .cell \/
  (names.map fun (n,k)=>if (k == NameKind.free && env.scope.kind == .function && env.kindOf n == some .cell) then (n,NameKind.cell) else (n,k)).lookup x=some .free)
 | [],_,h=>by simp at h
 | (n,k)::r,x,h=>by
   rw [List.map_cons];rw [YR] at h;cases hx:x == n with
   | true=>
     rw [hx] at h;have h:k=.free:=by simpa using h
     subst h;by_cases hk:(NameKind.free == NameKind.free && env.scope.kind == .function && env.kindOf n == some .cell)=true
     . left;simp only [hk,yo,YR,hx]
     . right;simp only [hk,YX,yy,YR,hx]
   | false=>
     rw [hx] at h;have ih:=jau (env:=env) (names:=r) (x:=x) h;by_cases hk:‹"z"›=true
     . simpa only [hk,yo,YR,hx] using ih
     . simpa only [hk,YX,yy,YR,hx] using ih
theorem jcr {x:Str}:∀(names:List (Str×NameKind)) (n:Nat) (tF:List (Str×Addr)) (c:Addr),tF.lookup x=some c->∃d,(cellsFrom n names tF).lookup x=some d
 | [],n,tF,c,h=>⟨c,h⟩
 | (m,k)::r,n,tF,c,h=>by
   unfold cellsFrom;split
   . cases e:x == m with
     | true=>exact jcr r (n+1) _ n (by rw [YR,e])
     | false=>exact jcr r (n+1) _ c (by rw [YR,e];exact h)
   . exact jcr r n tF c h
theorem je1 {x:Str}:∀(names:List (Str×NameKind)) (n:Nat) (tF:List (Str×Addr)),(x,NameKind.cell)∈names->∃d,(cellsFrom n names tF).lookup x=some d
 | (m,k)::r,n,tF,h=>by
   rcases Yq.mp h with z | z
   . have z1:x=m:=congrArg Prod.fst z;have z2:NameKind.cell=k:=congrArg Prod.snd z;subst z1 z2;unfold cellsFrom;rw [if_pos (show (NameKind.cell == NameKind.cell)=true from rfl)];exact jcr r (n+1) _ n (by rw [YR,beq_self_eq_true])
   . unfold cellsFrom;split
     . exact je1 r (n+1) _ z
     . exact je1 r n tF z
theorem jcQ {x:Str}:∀(names:List (Str×NameKind)) (n:Nat) (tF:List (Str×Addr)),(x,NameKind.cell)∉names->(cellsFrom n names tF).lookup x=tF.lookup x
 | [],n,tF,h=>rfl
 | (m,k)::r,n,tF,h=>by
   have hr:(x,NameKind.cell)∉r:=fun z=>h (Yj _ z);unfold cellsFrom;split
   . rename_i hk;have hk':k=.cell:=by simpa using hk
     rw [jcQ r (n+1) _ hr,YR];have:(x == m)=false:=by rw [KD];intro e;subst e hk';exact h Yf
     rw [this]
   . exact jcQ r n tF hr
theorem jez {x:Str} {c:Addr}:∀(names:List (Str×NameKind)) (n:Nat) (tF:List (Str×Addr)),(x,NameKind.cell)∈names->(cellsFrom n names tF).lookup x=some c->n<=c
 | (m,k)::r,n,tF,h,q=>by
   unfold cellsFrom at q;by_cases hr:(x,NameKind.cell)∈r
   . split at q
     . exact Nat.le_of_succ_le (jez r (n+1) _ hr q)
     . exact jez r n tF hr q
   . rcases Yq.mp h with z | z
     . have z1:x=m:=congrArg Prod.fst z;have z2:NameKind.cell=k:=congrArg Prod.snd z;subst z1 z2;rw [if_pos (show (NameKind.cell == NameKind.cell)=true from rfl),jcQ r (n+1) _ hr,YR,beq_self_eq_true] at q;cases q;exact Ys _
     . exact absurd z hr
theorem jju {x:Str} {c:Addr}:∀(names:List (Str×NameKind)) (h:Heap) (tF:List (Str×Addr)),(cellsFrom h.objs.size names tF).lookup x=some c->tF.lookup x=some c\/((pushCells h names).IsCell c none/\h.objs.size<=c)
 | [],h,tF,q=>.inl q
 | (m,k)::r,h,tF,q=>by
   unfold cellsFrom at q;unfold pushCells;split at q
   . rename_i hk;rw [if_pos hk];rw [← yh h { cls:=.type "cell",data:=.cell none }] at q;rcases jju r _ _ q with z | ⟨z1,z2⟩
     . rw [YR] at z;cases e:x == m with
       | true=>rw [e] at z;cases z;exact .inr ⟨(show (h.push { cls:=.type "cell",data:=.cell none }).IsCell h.objs.size none from ⟨_,Yx _ rfl,rfl⟩).keeps (K8 r _),Ys _⟩
       | false=>rw [e] at z;exact .inl z
     . rw [yh] at z2;exact .inr ⟨z1,Nat.le_of_succ_le z2⟩
   . rename_i hk;rw [if_neg hk];exact jju r h tF q
theorem jhf:∀(names:List (Str×NameKind)) (n:Nat) (tF:List (Str×Addr)),(∀x c,tF.lookup x=some c->c<n)->(∀x y c,tF.lookup x=some c->tF.lookup y=some c->x=y)->
 ∀x y c,(cellsFrom n names tF).lookup x=some c->(cellsFrom n names tF).lookup y=some c->x=y
 | [],n,tF,_,h=>h
 | (m,k)::r,n,tF,hl,h=>by
   unfold cellsFrom;split
   . refine jhf r (n+1) _ (fun x c q=>?_) fun x y c q1 q2=>?_
     . rw [YR] at q;cases e:x == m with
       | true=>rw [e] at q;cases q;exact yT _
       | false=>rw [e] at q;exact yO (hl x c q)
     . rw [YR] at q1 q2;cases e1:x == m with
       | true=>
         cases e2:y == m with
         | true=>rw [beq_iff_eq.mp e1,beq_iff_eq.mp e2]
         | false=>rw [e1] at q1;rw [e2] at q2;cases q1;exact absurd (hl y _ q2) (Y5 _)
       | false=>
         cases e2:y == m with
         | true=>rw [e1] at q1;rw [e2] at q2;cases q2;exact absurd (hl x _ q1) (Y5 _)
         | false=>rw [e1] at q1;rw [e2] at q2;exact h x y c q1 q2
   . exact jhf r n tF hl h
theorem jbJ {env:Env}:∀{names:List (Str×NameKind)} {x:Str},
 ((names.map fun (n,k)=>if ‹"z"› then (n,NameKind.cell) else (n,k)).lookup x=some .cell \/
  (names.map fun (n,k)=>if (k == NameKind.free && env.scope.kind == .function && env.kindOf n == some .cell) then (n,NameKind.cell) else (n,k)).lookup x=some .free)->(x,NameKind.free)∈names\/(x,NameKind.cell)∈names
 | [],_,h=>by simp at h
 | (n,k)::r,x,h=>by
   have ih:=jbJ (env:=env) (names:=r) (x:=x);rw [List.map_cons] at h;by_cases hx:x=n
   . subst hx;by_cases hk:(k == NameKind.free && env.scope.kind == .function && env.kindOf x == some .cell)=true
     . have:k=NameKind.free:=by simp only [yi] at hk;simpa using hk.1.1
       subst this;exact .inl Yf
     . simp only [hk,YR,beq_self_eq_true] at h;rcases h with h | h
       . have:k=NameKind.cell:=by simpa using h
         subst this;exact .inr Yf
       . have:k=NameKind.free:=by simpa using h
         subst this;exact .inl Yf
   . have hb:(x == n)=false:=by simpa using hx
     have ih':=ih (by
       by_cases hk:‹"z"›=true
       . simpa only [hk,yo,YR,hb] using h
       . simpa only [hk,YX,yy,YR,hb] using h)
     rcases ih' with z | z
     . exact .inl (Yj _ z)
     . exact .inr (Yj _ z)
def Z6 (scope:Scope) (x:Str):Bool:=match scope.names.lookup x with
 | some .cell=>true
 | _=>false
theorem jdc {scope:Scope} {x:Str} (h:Z6 scope x=true):(x,NameKind.cell)∈scope.names:=by
 unfold Z6 at h;split at h
 . rename_i e;exact ZE e
 . cases h
def bcl (C:Addr) (scope:Scope) (cells:List (Str×Addr)):List (Str×Addr):=cellsFrom (C+1) scope.names (jcZ cells scope.names [])
section
variable {M:Model} {A:Around} {E:Value->Shared->Prop} {s:Shared}
theorem Ql {scope:Scope} {globals:Addr} {closure:List (Str×Addr)} {qual:Str} {func:Option Addr} {code:Value} {outer:Env} {builtins:Addr} {Q:Env->Shared->Prop}
 (hQ:Q (newEnv scope s.heap.objs.size globals (cellsFrom (s.heap.objs.size+1) scope.names closure) qual func code (some outer) builtins) { s with heap:=pushCells (s.heap.push { cls:=.type "dict",data:=.dict #[] }) scope.names }) :
 wpAny M A (newFunctionEnv scope globals closure [] qual func code (some outer) builtins) Q E s:=by
 simp only [newFunctionEnv,Option.isSome_some,yo];refine Yb (wpAny_alloc ?_);refine Yb (wpAny_layCells _ (fun name kind cells=>by cases hkc:kind == NameKind.cell <;> simp [hkc]) _ _ _ _ ?_);rw [show ({ s with heap:=s.heap.push { cls:=.type "dict",data:=.dict #[] } }:Shared).heap.objs.size=s.heap.objs.size+1 from yh ..];rw [List.forIn_nil];exact Yb (Yk (Yk hQ))
end
def Cx.blk (X:Cx) (N:List Str) (scope:Scope) (C:Addr) (s:Shared) (H:Hp) (fp:List Addr):Cx:={ X with N:=N,s₀:=s,H₀:=H,env:=compEnvC scope (bcl C scope X.env.cells) C X.env,outer:=X.stack,stack:=X.stack,ex:=fp,fn:=Z6 scope,pn:=[],xe:=fun _ _=>False }
def capt (σ:St) (ix:List Nat):St:=ix.map fun k=>(σ[k]?).getD none
def JJ (n:Nat) (σ:St) (ix:List Nat):St:=List.replicate n none++capt σ ix
def jgS (n:Nat) (g:TG):Prop:=∀x σ H Q,g x σ H Q->g x σ H fun σ2 H2=>Q σ2 H2/\σ2.length=σ.length/\∀j,n<=j->σ2[j]?=σ[j]?
theorem jiQ {n i:Nat} (h:i<n):jgS n (ZR i):=fun x σ H Q q=>⟨q,by simp,fun j hj=>by rw [YQ (by omega)]⟩
def PTs (X:Cx) (ifs:List Expr) (t:TT):Prop:=
 ∀(tf:List (Addr×Obj)) (s:Shared) (σ:St) (H:Hp) (Q:Bool->Hp->Prop) (E:Value->Shared->Prop),(∀e s',X.xe e s'->E e s')->Inv X tf σ H s->t σ H Q->
   wpAny ‹"h"› X.A (forIn ifs true fun c r=>if r=true then do let ok <- isTrue c X.env (eval c X.env);pure (ForInStep.yield ok) else pure (ForInStep.yield r)) (TP X tf σ Q) E s
def jm7:TT:=fun _ H Q=>Q true H
theorem jlJ {X:Cx}:PTs X [] jm7:=fun _ _ _ H _ _ _ I h=>wpAny_tests_nil ⟨H,I,h⟩
theorem jmn {X:Cx} {c:Expr} {t:TT} (h:PT X c t):PTs X [c] t:=fun tf s σ H Q E hE I q=>wpAny_tests_one (yr (h tf s σ H Q I q) (fun _ _ z=>z) hE)
def tLC (wi:TI) (g:TG) (tt:TT) (te:TE) (n:Nat) (ix:List Nat):TE:=fun σ H Q=>wi σ H fun J H1=>∃W:Nat->Nat->List V->Hp->Prop,(∃m,W 0 m [] H1)/\∀i m ys H,W i m ys H->
 (J.stop i H/\ys.length<=sizeLine/\∀p,H p=none->Q (.ref p) (upd H p (.lst ys))) \/
 (J.go i H/\ys.length<sizeLine/\∃N:List V->Hp->Prop,(∀ys' H',N ys' H'->∃m',m'<m/\W (i+1) m' ys' H')/\∀x H',J.yld i H x H'->g x (JJ n σ ix) H' fun σ2 H2=>tt σ2 H2 fun b H3=>if b=true then te σ2 H3 fun v H4=>N (ys++[v]) H4 else N ys H3)
section
variable {prog:Program} {w:World} {A:Around} {E:Value->Shared->Prop} {R:Result->Shared->Prop} {s:Shared}
theorem Zd {elt target iter:Expr} {ifs:List Expr} {scope:Scope} {pos:Pos} {it tF:Value} {env:Env} (I:Nat->Shared->Prop)
 (turn:∀n s,I n s->wpAny (model prog w) A (pyNext it) (fun r s₁=>match r with
  | none=>R (.ok .next) s₁
  | some v=>wpAny (model prog w) A (letOwnedTupleGo target it v) (fun _ s₁'=>wpAny (model prog w) A (assign target env v) (fun _ s₂=>
      wpAny (model prog w) A (forIn ifs true fun c r=>if r=true then do let ok <- isTrue c env (eval c env);pure (ForInStep.yield ok) else pure (ForInStep.yield r)) (fun ok s₃=>
        if ok=true then wpAny (model prog w) A (eval elt env) (fun x s₄=>wpAny (model prog w) A (call (.builtin "list.append") [tF,x]) (fun _ s₅=>∃m,m<n ∧ I m s₅) (fun _ _=>False) s₄) (fun _ _=>False) s₃
        else ∃m,m<n/\I m s₃) (fun _ _=>False) s₂) (fun _ _=>False) s₁') (fun _ _=>False) s₁) (fun _ _=>False) s)
 (n:Nat) (h:I n s) :
 codeAny (model prog w) A (.compLoop (.ListComp elt [⟨target,iter,ifs,0⟩] scope pos) 0 it tF env) R s:=by
 refine codeAny_loop rfl I (fun n s hI=>?_) n h;show wpAny _ A ((compTurn (.ListComp elt [⟨target,iter,ifs,0⟩] scope pos) 0 it tF env).onRaise (fun x=>do noteFrame x env;theTreesLotGoes x)) _ _ s;refine wpAny_noted ?_;rw [compTurn_list];refine Yb (wpAny_standAt (Yb (yr (turn n s hI) (fun r s₁ h₁=>?_) fun _ _ h'=>h'.elim)));cases r with
 | none=>exact Yk h₁
 | some v=>
   refine Yb (yr h₁ (fun _ s₁' h₁'=>?_) fun _ _ h'=>h'.elim);refine Yb (yr h₁' (fun _ s₂ h₂=>Yb (yr h₂ (fun ok s₃ h₃=>?_) fun _ _ h'=>h'.elim)) fun _ _ h'=>h'.elim);cases ok with
   | false=>exact Yk ⟨rfl,h₃⟩
   | true=>exact Yb (Yb (yr h₃ (fun x s₄ h₄=>Yb (yr h₄ (fun _ s₅ h₅=>Yk (Yk ⟨rfl,h₅⟩)) fun _ _ h'=>h'.elim)) fun _ _ h'=>h'.elim))
end
section
variable {X:Cx} {tf:List (Addr×Obj)} {σ:St} {H:Hp} {s:Shared} {scope:Scope} {C:Addr} {fp:List Addr}
theorem Inv.bclOld (I:Inv X tf σ H s) (hC:s.heap.objs.size<=C) {x:Str} {c:Addr} (e:(bcl C scope X.env.cells).lookup x=some c):X.env.cells.lookup x=some c\/C<c:=by
 by_cases h:(x,NameKind.cell)∈scope.names
 . exact .inr (jez _ _ _ h e)
 . unfold bcl at e;rw [jcQ _ _ _ h] at e;exact .inl (JU e)
theorem Inv.blkOk (I:Inv X tf σ H s) (N:List Str) (hC:s.heap.objs.size<=C) (hkind:scope.kind=.function)
 (hfree:∀n,(n,NameKind.free)∈scope.names->X.env.scope.names.lookup n=some .cell\/X.env.scope.names.lookup n=some .free)
 (hf:∀b∈fp,jcN X tf H b) (hfl:∀b∈fp,b<s.heap.objs.size):(X.blk N scope C s H fp).Ok where
 mod:=I.ok.mod
 kind:=hkind
 glob:=I.ok.glob
 blt:=I.ok.blt
 above:=hC
 inj:=jhf _ _ _ (fun x c e=>by obtain ⟨v,q⟩:=I.cell x c (JU e);exact yO (Ym q.lt hC)) fun x y c e1 e2=>I.ok.inj x y c (JU e1) (JU e2)
 has:=fun x hx=>by
  rcases jbJ (env:=X.env) hx with q | q
  . obtain ⟨c,e⟩:=I.ok.has x (hfree x q);exact jcr _ _ _ c (jfc q e)
  . exact je1 _ _ _ q
 cab:=fun x c e q=>Y2 hC (yL (jez _ _ _ (jdc e) q))
 hd:=I.ok.hd
 frames:=I.ok.frames
 stk:=.inl rfl
 exf:=fun b hb=>⟨Yt (Ym (hfl b hb) hC),fun x c e=>by
  rcases I.bclOld hC e with z | z
  . exact (hf b hb).2.2.2.2.1 x c z
  . exact yp (Ym (hfl b hb) (Y2 hC (yL z)))⟩
 bs:=I.bs
 bsz:=Y2 I.ok.bsz I.sz
 noex:=fun b o e hb=>by
  rcases (hf b hb).2.2.2.1 with z | z
  . exact I.ok.noex b o e z
  . exact absurd (Ym (Yw (I.ok.bs b o e).1) z) (Y5 _)
 exfs:=fun b hb z=>by
  rcases Yq.mp (I.stkSub b z) with q | q
  . exact (hf b hb).2.1 q
  . exact (hf b hb).2.2.1 q
 funs:=I.stack
 frf:=I.stkFree
theorem Inv.unblk {σ':St} {H':Hp} {s':Shared} {N:List Str} {D:Addr} {ys:List V} {tu:List Value} {n:Nat} {pl:List (Addr×Obj)} (I:Inv X tf σ H s) (hf:∀b∈fp,jcN X tf H b) (hD:s.heap.objs.size<=D)
 (J:Inv (X.blk N scope C s H fp) pl σ' H' s') (hv:Vals ys tu) (hz:ys.length ≤ sizeLine) (hl:s'.heap.get? D=some { cls:=.type "list",data:=.seq tu.toArray n }) (hn:H' D=none):Inv X tf σ (upd H' D (.lst ys)) s':=by
 have u:Un (frs X.stack) fp H H' s.heap s'.heap:=J.base;have neD:∀b o,s.heap.get? b=some o->b≠D:=fun b o e=>Yt (Ym (Yw e) hD);refine I.call' (ch:=fp) J.os (u:=⟨u.keep,u.slot,fun b o e n' hx=>?_,u.there,fun b xs e=>?_,fun b o x e=>?_,fun b ps e=>?_⟩) ?_ J.bare fun b hb=>⟨(hf b hb).2.2.2.1,(hf b hb).2.1,(hf b hb).2.2.2.2.1,(hf b hb).2.2.2.2.2⟩
 . rw [jC (neD b o e)];exact u.free b o e n' hx
 . rw [jC (jG (u.tups b xs e) hn)];exact u.tups b xs e
 . rw [jC (jG (u.frzs b o x e) hn)];exact u.frzs b o x e
 . obtain ⟨more,q⟩:=u.tbls b ps e;exact ⟨more,by rw [jC (jG q hn)];exact q⟩
 . intro b o e;by_cases hb:b=D
   . subst hb;rw [jB] at e;cases e;exact ⟨hz,tu,n,hv,hl⟩
   . rw [jC hb] at e;exact (J.hok b o e).stay (fun c v _ q=>q) (fun c q=>by rw [jC (jG q hn)];exact q) fun c xs q=>by rw [jC (jG q hn)];exact q
end
section
variable {X:Cx} {elt iter tg:Expr} {ifs:List Expr} {scope:Scope} {pos:Pos} {Lc F:List Str} {ix:List Nat} {wi:TI} {g:TG} {tt:TT} {te:TE}
theorem jj9 {σ:St} {ix:List Nat} {j:Nat} {v:V} (h:(capt σ ix)[j]?=some (some v)):∃k,ix[j]?=some k/\σ[k]?=some (some v):=by
 unfold capt at h;rw [List.getElem?_map] at h;cases e:ix[j]? with
 | none=>rw [e] at h;cases h
 | some k=>
   rw [e] at h;have h':(σ[k]?).getD none=some v:=Option.some.inj h;refine ⟨k,rfl,?_⟩;cases q:σ[k]? with
   | none=>rw [q] at h';cases h'
   | some o=>rw [q] at h';rw [show o=some v from h']
theorem jfP {tf:List (Addr×Obj)} {σ:St} {H:Hp} {s:Shared} {it:Addr} {fp:List Addr} {tn:Nat->Heap->Prop} {J:It} {E:Value->Shared->Prop} {Qv:List V->Hp->Prop} {RR:Value->Addr->Result->Shared->Prop}
 (hc:X.calm=true) (hkind:scope.kind=.function) (hcell:∀y∈scope.names,y.2=.cell->scope.names.lookup y.1=some .cell)
 (hfree:∀n,(n,NameKind.free)∈scope.names->X.env.scope.names.lookup n=some .cell\/X.env.scope.names.lookup n=some .free)
 (hix:ix.length=F.length) (hF:∀(j:Nat) (x:Str) (k:Nat),F[j]?=some x->ix[j]?=some k->X.N[k]?=some x/\(X.env.scope.names.lookup x=some .cell\/X.env.scope.names.lookup x=some .free)/\scope.names.lookup x=some .free)
 (hg:∀C s H fp,PG ‹"g"› tg g) (hloc:jgS Lc.length g) (ht:∀C s H fp,PTs ‹"g"› ifs tt) (he:∀C s H fp,PE ‹"g"› elt te)
 (I:Inv X tf σ H s) (T:Turn X.prog X.w X.K tg J fp it tn) (st0:tn 0 s.heap) (hf:∀b∈fp,jcN X tf H b)
 (W:Nat->Nat->List V->Hp->Prop) (w0:∃m,W 0 m [] H)
 (turn:∀i m ys H,W i m ys H->(J.stop i H/\ys.length<=sizeLine/\Qv ys H) \/
  (J.go i H/\ys.length<sizeLine/\∃N:List V->Hp->Prop,(∀ys' H',N ys' H'->∃m',m'<m/\W (i+1) m' ys' H')/\∀x H',J.yld i H x H'->g x (JJ Lc.length σ ix) H' fun σ2 H2=>tt σ2 H2 fun b H3=>if b=true then te σ2 H3 fun v H4=>N (ys++[v]) H4 else N ys H3))
 (hRR:∀(D C:Addr) (H':Hp) (s':Shared) (ys:List V) (m:Str->Option Value),D≠C->s.heap.objs.size<=D->s.heap.objs.size<=C->H' D=none->H' C=none->s'.heap.Ns C m->Inv X tf σ (upd H' D (.lst ys)) s'->Qv ys H'->RR (.ref D) C (.ok .next) s') :
 wpAny ‹"h"› X.A (newList []) (fun tF s₃=>wpAny ‹"h"› X.A (newFunctionEnv scope X.env.globals (jcZ X.env.cells scope.names []) [] X.env.qual none .none (some X.env)) (fun cenv s₄=>codeAny ‹"h"› X.A (.compStart ‹"p"› 0 (.ref it) tF { cenv with scope:=relabel scope X.env }) (RR tF cenv.locals) s₄) E s₃) E s:=by
 refine Kt (Ql ?_);dsimp only;generalize hH2:s.heap.push { cls:=.type "list",dict:=none,data:=.seq ([]:List Value).toArray }=G;have hCs:G.objs.size=s.heap.objs.size+1:=by rw [<-hH2,yh]
 have hDC:s.heap.objs.size≠G.objs.size:=by rw [hCs];exact Yt (yT _)
 have hCle:s.heap.objs.size<=G.objs.size:=by rw [hCs];exact ka _
 have hns₁:‹"J"›.Ns G.objs.size fun _=>none:=(Heap.Ns.new G (.type "dict")).keeps (K8 _ _);have old:∀b o,s.heap.get? b=some o → ‹"J"›.get? b=some o:=fun b o e=>K8 _ _ _ _ (Yl _ (hH2 ▸ Yl _ e));have hacc:‹"J"›.get? s.heap.objs.size=some { cls:=.type "list",data:=.seq ([]:List Value).toArray }:=K8 _ _ _ _ (Yl _ (hH2 ▸ Yx _ rfl));have hcs:∀x c,(bcl G.objs.size scope X.env.cells).lookup x=some c → X.env.cells.lookup x=some c ∨ (‹"J"›.IsCell c none ∧ G.objs.size<c):=fun x c e=>by
  unfold bcl at e;rw [← yh G { cls:=.type "dict",data:=.dict #[] }] at e;rcases jju _ _ _ e with z | ⟨z1,z2⟩
  . exact .inl (JU z)
  . rw [yh] at z2;exact .inr ⟨z1,z2⟩
 generalize hh1:pushCells (G.push { cls:=.type "dict",data:=.dict #[] }) scope.names=h₁ at hns₁ old hacc hcs ⊢;generalize hD:s.heap.objs.size=D at *
 generalize hC:G.objs.size=C at *
 have hfl:∀b∈fp,b<D:=fun b hb=>by obtain ⟨o,e,_⟩:=T.obj 0 _ st0 b hb;rw [<-hD];exact Yw e
 have hfl':∀b∈fp,b<s.heap.objs.size:=fun b hb=>by rw [hD];exact hfl b hb
 have ok:‹"g"›.Ok:=I.blkOk (Lc++F) (by rw [hD];exact hCle) hkind hfree hf hfl';have hσl:(JJ Lc.length σ ix).length=(Lc++F).length:=by unfold JJ capt;rw [YU,YU,List.length_replicate,Yc,hix]
 have fpB:∀{H':Hp} {pl:List (Addr×Obj)},(∀b∈fp,H' b=none)->(∀p∈pl,p.1=D)->∀b∈fp,jcN ‹"g"› pl H' b:=fun {H' pl} hn hp b hb=>
  ⟨hn b hb,Yt (Ym (hfl b hb) hCle),ok.exfs b hb,.inl hb,(ok.exf b hb).2,fun p hp'=>by
   have hp2:p∈pl:=by simpa [Cx.blk] using hp'
   rw [hp p hp2];exact yp (hfl b hb)⟩
 have HD:H D=none:=I.hok.fresh (by rw [hD];exact Ys _);have HC:H C=none:=I.hok.fresh (by rw [hD];exact hCle);have nfsD:∀b,D<=b->b∉frs X.stack:=fun b hb z=>by obtain ⟨_,o,ho,_⟩:=I.stack.mem z;have:=Yw ho;rw [hD] at this;exact absurd (Ym this hb) (Y5 _)
 have nD:∀x c,(bcl C scope X.env.cells).lookup x=some c->c≠D:=fun x c e z=>by
  rcases hcs x c e with e | ⟨_,e⟩
  . obtain ⟨v,q⟩:=I.cell x c e;have:=q.lt;rw [hD,z] at this;exact absurd this (Y5 _)
  . rw [z] at e;exact absurd (Kl hCle e) (Y5 _)
 have Z0:∀s3:Shared,s3={ s with heap:=h₁ } → Inv ‹"g"› [(D,{ cls:=.type "list",data:=.seq ([]:List Value).toArray })] (JJ Lc.length σ ix) H s3:=by
  rintro s3 rfl;refine ⟨ok,rfl,I.bare,Un.kept old,⟨_,hns₁,fun i x v e1 e2 e3=>?_⟩,fun x c e=>?_,HC,fun x c e=>?_,fun p hp=>?_,I.hok.kept old,hσl⟩
  . have hi:Lc.length<=i:=by
      rcases YT i Lc.length with q | q
      . unfold JJ at e2;rw [YB (by simpa using q),List.getElem?_replicate] at e2;rw [if_pos q] at e2;cases e2
      . exact q
    have e2':(capt σ ix)[i-Lc.length]?=some (some v):=by
      unfold JJ at e2
      rwa [YC ‹"an"›,List.length_replicate] at e2
    have e1':F[i-Lc.length]?=some x:=by
      have e1'':(Lc++F)[i]?=some x:=e1
      rwa [YC hi] at e1''
    obtain ⟨k,hk,hσ⟩:=jj9 e2';obtain ⟨hN,hcl,hfr⟩:=hF _ x k e1' hk;obtain ⟨m,hn,hl⟩:=I.loc;obtain ⟨u,r,lk⟩:=hl k x v hN hσ (by rcases hcl with z | z;exact .inr (.inl z);exact .inr (.inr z));refine ⟨u,r,.inr ⟨?_,?_⟩⟩
    . exact jau (env:=X.env) hfr
    . rcases lk with ⟨hk1,_⟩ | ⟨_,c,hc1,hc2⟩
      . have hk1':X.env.scope.names.lookup x=some .local:=hk1;rcases hcl with z | z <;> · rw [hk1'] at z;cases z
      . refine ⟨c,(jcQ _ _ _ fun z=>?_).trans (jfc (ZE hfr) hc1),?_⟩
        . have:=hcell _ z rfl;rw [hfr] at this;cases this
        obtain ⟨o,ho,hd⟩:=hc2;exact ⟨o,old c o ho,hd⟩
  . rcases hcs x c e with e | ⟨e,_⟩
    . obtain ⟨v,o,ho,hd⟩:=I.cell x c e;exact ⟨v,o,old c o ho,hd⟩
    . exact ⟨none,e⟩
  . rcases hcs x c e with e | ⟨_,e⟩
    . exact I.freeC x c e
    . exact I.hok.fresh (by rw [hD];exact Y2 hCle (yL e))
  . have:p=(D,{ cls:=.type "list",data:=.seq ([]:List Value).toArray }):=by simpa [Cx.blk] using hp
    subst this;exact ⟨hacc,HD,hDC,nfsD D (Ys _),fun v z=>nomatch z⟩
 have loop:∀s3:Shared,s3={ s with heap:=h₁ }->
  codeAny ‹"h"› X.A (.compLoop ‹"p"› 0 (.ref it) (.ref D) ‹"g"›.env) (RR (.ref D) C) s3:=by
  intro s3 hs3;obtain ⟨m0,w0⟩:=w0;have st3:tn 0 s3.heap:=by subst hs3;exact T.keep 0 _ _ st0 fun b _ o e=>old b o e
  refine Zd (fun n s'=>∃i ys tu k H',Inv ‹"g"› [(D,{ cls:=.type "list",data:=.seq tu.toArray k })] (JJ Lc.length σ ix) H' s' ∧ Vals ys tu ∧ tn i s'.heap ∧ (∀b∈fp,H' b=none) ∧ W i n ys H')
   ?_ m0 ⟨0,[],[],0,H,Z0 s3 hs3,.nil,st3,fun b hb=>(hf b hb).1,w0⟩
  rintro n s4 ⟨i,ys,tu,k,H4,I4,rv,st4,fr4,w4⟩;have pD:∀p∈[((D,{ cls:=.type "list",data:=.seq tu.toArray k }):Addr×Obj)],p.1=D:=fun p hp=>by simp at hp;rw [hp]
  rcases turn i n ys H4 w4 with ⟨stop,hz,q⟩ | ⟨go,hz,N,hN,step⟩
  . refine qD (T.done ‹"g"› rfl rfl rfl hc i _ s4 _ H4 _ I4 (fpB fr4 pD) st4 stop) fun r s5 zz=>?_;obtain ⟨hr,I5⟩:=zz;subst hr;obtain ⟨p1,p2,p3,p4,p5⟩:=I5.pin _ (YI _ Yf);obtain ⟨m,hn,_⟩:=I5.loc;exact hRR D C H4 s5 ys m hDC (Ys _) hCle p2 I5.free hn (I.unblk (C:=C) (scope:=scope) hf (by rw [hD];exact Ys _) I5 rv hz p1 p2) q
  . refine qD (T.item ‹"g"› rfl rfl rfl hc i _ s4 _ H4 _ I4 (fpB fr4 pD) st4 go) fun r s5 zz=>?_;obtain ⟨u,hr,h5⟩:=zz;subst hr;refine qD h5 fun _ s6 zz=>?_;obtain ⟨x,H6,I6,r6,y6,st6,fr6⟩:=zz;have I6':=I6.pinned (fpB fr6 pD) (T.obj _ _ st6);refine qD (hg C s H fp _ s6 _ H6 x u _ I6' r6 (hloc _ _ _ _ (step x H6 y6))) fun _ s7 zz=>?_;obtain ⟨σ7,H7,I7,q7,l7,k7⟩:=zz;have weak:∀(j:Nat) v,(JJ Lc.length σ ix)[j]?=some (some v)->σ7[j]?=some (some v):=fun j v e=>by
      rw [k7 j ?_];exact e;rcases YT j Lc.length with z | z
      . unfold JJ at e;rw [YB (by simpa using z),List.getElem?_replicate,if_pos z] at e;cases e
      . exact z
    have fin:∀{s':Shared} {H':Hp} {i':Nat} {ys':List V} {its':List Value} {k':Nat},Inv ‹"g"› [] σ7 H' s' → s'.heap.get? D=some { cls:=.type "list",data:=.seq its'.toArray k' } → H' D=none → Inv ‹"g"› [(D,{ cls:=.type "list",data:=.seq its'.toArray k' })] (JJ Lc.length σ ix) H' s':=fun {s' H' i' ys' its' k'} I' e n'=>
      (I'.weak (by rw [l7]) weak).pins_of fun p hp=>by
       have:p=(D,{ cls:=.type "list",data:=.seq its'.toArray k' }):=by simpa using hp
       subst this;exact ⟨e,n',hDC,nfsD D (Ys _),fun v z=>nomatch z⟩
    refine qD (ht C s H fp _ s7 σ7 H7 _ _ (fun _ _ z=>z) I7 q7) fun b s8 zz=>?_;obtain ⟨H8,I8,q8⟩:=zz;have keepS:∀{s':Shared} {H':Hp},Inv ‹"g"› ([((D,{ cls:=.type "list",data:=.seq tu.toArray k }):Addr×Obj)]++jcV fp s6.heap) σ7 H' s' → tn (i+1) s'.heap ∧ (∀b∈fp,H' b=none) ∧ s'.heap.get? D=some { cls:=.type "list",data:=.seq tu.toArray k } ∧ H' D=none:=fun {s' H'} I'=>by
      refine ⟨T.keep _ _ _ st6 fun b hb o e=>(I'.pin (b,o) (YI _ (YI _ (QG hb e)))).1,fun b hb=>?_,?_⟩
      . obtain ⟨o,e,d⟩:=T.obj _ _ st6 b hb;exact (I'.pin (b,o) (YI _ (YI _ (QG hb e)))).2.1
      . have:=I'.pin (D,{ cls:=.type "list",data:=.seq tu.toArray k }) (YI _ (Y9 _ Yf));exact ⟨this.1,this.2.1⟩
    cases b with
    | false=>rw [if_neg Yo] at q8 ⊢;obtain ⟨m',hm,w8⟩:=hN _ _ q8;obtain ⟨a1,a2,a3,a4⟩:=keepS I8;exact ⟨m',hm,i+1,ys,tu,k,H8,fin (i':=i) (ys':=ys) (I8.pins_of fun p hp=>nomatch hp) a3 a4,rv,a1,a2,w8⟩
    | true=>
      rw [if_pos rfl] at q8 ⊢;refine qD (he C s H fp _ s8 σ7 H8 _ I8 q8) fun xv s9 zz=>?_;obtain ⟨v,H9,I9,r9,q9⟩:=zz;obtain ⟨m',hm,w9⟩:=hN _ _ q9;obtain ⟨a1,a2,a3,a4⟩:=keepS I9;have tK:=rv.length;refine wpAny_list_append_plain (hsz:=by simp;omega) ⟨k,a3⟩ fun h10 hl10 hs10=>?_;obtain ⟨k10,e10⟩:=hl10;have I9':Inv ‹"g"› [] σ7 H9 s9:=I9.pins_of fun p hp=>nomatch hp;have I10:Inv ‹"g"› [] σ7 H9 { s9 with heap:=h10,toks:=s9.toks }:=I9'.turned (it:=D) (fun b o hb e=>(hs10.2 b hb).trans e) a4 hDC (.inr (by show s.heap.objs.size<=D;rw [hD];exact Ys _)) nD (fun p hp=>nomatch hp);have e10':h10.get? D=some { cls:=.type "list",data:=.seq (tu++[xv]).toArray k10 }:=by rw [e10,List.push_toArray]
      refine ⟨m',hm,i+1,ys++[v],tu++[xv],k10,H9,fin (i':=i) (ys':=ys) I10 e10' a4,Paired.snoc rv r9,?_,a2,w9⟩;exact T.keep _ _ _ a1 fun b hb o e=>(hs10.2 b (Yt (hfl b hb))).trans e
 exact codeAny_compStart_list (loop _ rfl) (T.self _ 0 _ _ _ (T.keep 0 _ _ st0 fun b _ o e=>old b o e) (loop _ rfl))
theorem jp4 (hc:X.calm=true) (hkind:scope.kind=.function) (hnames:∀x∈scope.names,x.2=.local->scope.names.lookup x.1=some .local) (hcell:∀y∈scope.names,y.2=.cell->scope.names.lookup y.1=some .cell)
 (hfree:∀n,(n,NameKind.free)∈scope.names->X.env.scope.names.lookup n=some .cell\/X.env.scope.names.lookup n=some .free)
 (hix:ix.length=F.length) (hF:∀(j:Nat) (x:Str) (k:Nat),F[j]?=some x->ix[j]?=some k->X.N[k]?=some x/\(X.env.scope.names.lookup x=some .cell\/X.env.scope.names.lookup x=some .free)/\scope.names.lookup x=some .free)
 (hi:PI X tg iter wi) (hg:∀C s H fp,PG ‹"g"› tg g) (hloc:jgS Lc.length g) (ht:∀C s H fp,PTs ‹"g"› ifs tt) (he:∀C s H fp,PE ‹"g"› elt te)
 (hs:∀x,foldedSetIterable iter X.env x=pure x:=by intro _;rfl):PE X ‹"p"› (tLC wi g tt te Lc.length ix):=by
 intro tf s σ H Q I h;rw [eval_ListComp];refine wpAny_comprehension_free (use:=none) rfl hs (ZY fun n hn=>I.ok.has n (hfree n hn)) hkind hnames (qD (hi tf s σ H _ I h) fun xv s₁ h₁=>qD h₁ fun itv s₂ h₂=>?_);obtain ⟨it,fp,tn,J,H2,rfl,I2,T,st2,f2,W,w0,turn⟩:=h₂;refine jfP (RR:=fun tF C=>compPost ‹"h"› X.A X.xe none (EP X tf σ Q) tF C) (Qv:=fun ys H'=>∀p,H' p=none->Q (.ref p) (upd H' p (.lst ys))) hc hkind hcell hfree hix hF hg hloc ht he I2 T st2 f2 W w0 turn ?_;intro D C H' s' ys m hDC hD hC nD nC hn I' q;refine ⟨m,hn,fun h' hsb=>⟨.ref D,upd H' D (.lst ys),?_,rfl,q D nD⟩⟩;refine I'.turned (it:=C) (t':=s'.toks) (fun b o hb e=>(hsb.2 b hb).trans e) (by rw [jC (Ne.symm hDC)];exact nC) (fun z=>?_) (.inr (Y2 I2.sz hC)) (fun x c e z=>?_) fun p hp z=>?_
 . exact absurd (Ym (by rw [z];exact I2.lt) hC) (Y5 _)
 . obtain ⟨v,w⟩:=I2.cell x c e;exact absurd (Ym w.lt (by rw [z];exact hC)) (Y5 _)
 . have:=Yw (I2.pin p hp).1;rw [z] at this;exact absurd (Ym this hC) (Y5 _)
theorem ji7 {i:Nat} {y:Str} {py spos:Pos} (hN:X.N.Nodup) (hy:X.N[i]?=some y) (hyl:X.env.scope.names.lookup y=some .local)
 (hc:X.calm=true) (hkind:scope.kind=.function) (hnames:∀x∈scope.names,x.2=.local->scope.names.lookup x.1=some .local) (hcell:∀y∈scope.names,y.2=.cell->scope.names.lookup y.1=some .cell)
 (hfree:∀n,(n,NameKind.free)∈scope.names->X.env.scope.names.lookup n=some .cell\/X.env.scope.names.lookup n=some .free)
 (hix:ix.length=F.length) (hF:∀(j:Nat) (x:Str) (k:Nat),F[j]?=some x->ix[j]?=some k->X.N[k]?=some x/\(X.env.scope.names.lookup x=some .cell\/X.env.scope.names.lookup x=some .free)/\scope.names.lookup x=some .free)
 (hi:PI X tg iter wi) (hg:∀C s H fp,PG ‹"g"› tg g) (hloc:jgS Lc.length g) (ht:∀C s H fp,PTs ‹"g"› ifs tt) (he:∀C s H fp,PE ‹"g"› elt te)
 (hsw:swapsWith ‹"p"› (some (.Name y py)) spos.line X.env=pure true)
 (hs:∀x,foldedSetIterable iter X.env x=pure x:=by intro _;rfl):PS X (.Assign [.Name y py] ‹"p"› spos) (jdr (tLC wi g tt te Lc.length ix) (ZR i)):=by
 intro tf s σ H D₀ I h;rw [exec_Assign_Name_used _ _ _ _ hsw];refine Yb (wpAny_standAt (Yb ?_));show wpAny _ X.A (do let _ <- comprehension ‹"p"› scope X.env _ (newList []) false (eval iter X.env) (some (assign (.Name y py) X.env))) _ _ s;refine Yb (yr (wpAny_comprehension_free (use:=some (assign (.Name y py) X.env)) (Q:=fun _ s'=>SP X tf D₀ .next s') rfl hs (ZY fun n hn=>I.ok.has n (hfree n hn)) hkind hnames
  (qD (hi tf s σ H _ I h) fun xv s₁ h₁=>qD h₁ fun itv s₂ h₂=>?_)) (fun _ s' hq=>Yk (Yk hq)) fun _ _ e=>e)
 obtain ⟨it,fp,tn,J,H2,rfl,I2,T,st2,f2,W,w0,turn⟩:=h₂;refine jfP (RR:=fun tF C=>compPost ‹"h"› X.A X.xe (some (assign (.Name y py) X.env)) (fun _ s'=>SP X tf D₀ .next s') tF C) (Qv:=fun ys H'=>∀p,H' p=none->D₀.nx (σ.set i (some (.ref p))) (upd H' p (.lst ys)))
  hc hkind hcell hfree hix hF hg hloc ht he I2 T st2 f2 W w0 turn ?_
 intro D C H' s' ys m hDC hD hC nD nC hn I' q;show wpAny _ X.A (assign (.Name y py) X.env (.ref D)) _ _ s';refine wpAny_assign_Name (jdU I' hN hy (.inl hyl) (v:=.ref D) rfl (fun s2 I2' zz=>?_) (.inr hyl));obtain ⟨a,hsb,ha⟩:=zz;have hCL:C≠X.env.locals:=fun z=>absurd (Ym (by rw [z];exact I2.lt) hC) (Y5 _);have hCc:∀x c,X.env.cells.lookup x=some c->c≠C:=fun x c e z=>by obtain ⟨v,w⟩:=I2.cell x c e;exact absurd (Ym w.lt (by rw [z];exact hC)) (Y5 _)
 have hCa:C≠a:=by
  rcases ha with z | z
  . rw [z];exact hCL
  . exact fun w=>hCc y a z w.symm
 refine ⟨m,hn.sameBut hsb hCa,fun h' hsb'=>⟨σ.set i (some (.ref D)),upd H' D (.lst ys),?_,q D nD⟩⟩;refine I2'.turned (it:=C) (t':=s2.toks) (fun b o hb e=>(hsb'.2 b hb).trans e) (by rw [jC (Ne.symm hDC)];exact nC) hCL (.inr (Y2 I2.sz hC)) hCc fun p hp z=>?_;have:=Yw (I2.pin p hp).1;rw [z] at this;exact absurd (Ym this hC) (Y5 _)
end
end L2
namespace L2
open PySem PySem.Spec PyProof.Rows
section
variable {X:Cx}
def jhB (i j:Int):Prop:=0<j/\j<2 ^ 200
theorem jkw:OpR X (binaryOp .FloorDiv) (rI jhB fun i j=>.int (i/j)):=opI fun i j _ _ _ _ _ hc q=>by
 have h1:(0:Int)<j:=hc.1;have h2:j<2 ^ 200:=hc.2;refine floordiv_int (by omega) (by rw [Int.fdiv_eq_ediv_of_nonneg i (by omega)];exact q) (.inl (PyProof.noPylong_of_log2 ?_));have h3:j.natAbs<2 ^ 200:=by omega
 have h4:j.natAbs≠0:=by omega
 have h5:=(Nat.log2_lt h4).mpr h3;omega
def IsT (K:PySem.W.Frag) (H:Hp) (x:V) (T:String) (b:Bool):Prop:=∃t,TyOf K H x t/\PySem.W.kitOne K t (.type T)=some b
theorem jgd:CallR X (.builtin "isinstance") (fun xs H Q=>∃x T b,xs=[x,.ty T] ∧ IsT X.K H x T b ∧ Q (.bl b) H):=by intro tf s σ H xs us Q I r h;obtain ⟨x,T,b,rfl,⟨t,ty,e⟩,q⟩:=h;obtain ⟨u,v,rfl,rx,ry⟩:=Vals.two r;have:v=Value.type T:=ry;subst this;exact jiE I rx ty e fun tk=>⟨.bl b,H,I.tok _,rfl,q⟩
theorem jj1 (hc:X.calm=true):CallR X (.builtin "sum") (fun xs H Q=>∃(p:Addr) (ns:List Int),xs=[.ref p] ∧ Jn X.K H p (ns.map V.int) ∧ Q (.int ns.sum) H):=by
 intro tf s σ H xs us Q I r h;obtain ⟨p,ns,rfl,hq,q⟩:=h;obtain ⟨u,rfl,rx⟩:=Vals.one r;cases rx;obtain ⟨tu,rv,pl,hz⟩:=I.list hq;have hi:IntsAre tu ns:=jac rv;obtain ⟨ys,hx⟩:=hi.allInts.items;have hl':s.heap.IsList p (intItems ys):=hx ▸ pl.isList;refine sum_intListG (I.ok.hd hc) hl' fun h' tk t' hk=>?_;have e1:ns=ys.toList.map (·.1):=by rw [<-nums_intItems,<- hx];exact (show numsOf tu.toArray.toList=ns from hi.numsOf).symm
 have e2:preSum (numAt ys) ys.size=ns.sum:=by rw [preSum_eq,List.take_of_length_le (by simp),e1]
 rw [e2];exact ⟨.int ns.sum,H,I.kept hk,⟨_,rfl⟩,q⟩
theorem jkk (hc:X.calm=true):CallR X (.builtin "all") (fun xs H Q=>∃(p:Addr) (bs:List Bool),xs=[.ref p] ∧ Jn X.K H p (bs.map V.bl) ∧ Q (.bl (bs.all id)) H):=by
 intro tf s σ H xs us Q I r h;obtain ⟨p,bs,rfl,hq,q⟩:=h;obtain ⟨u,rfl,rx⟩:=Vals.one r;cases rx;obtain ⟨tu,rv,pl,hz⟩:=I.list hq;have hl:=pl.isList;have hlt:p<s.heap.objs.size:=by obtain ⟨_,e,_⟩:=hl;exact Yw e
 have tK:tu.length=bs.length:=by have:=rv.length;rw [Yc] at this;exact this.symm
 refine call_all_walk (wpAny_pyIter_list hl ?_);refine ⟨s.heap.objs.size,[s.heap.objs.size,p],[s.heap.objs.size],tu.toArray.size,_,_,fun i=>(bs[i]?).getD true,rfl,Walks.list (A:=X.A.in1) (I.ok.hd hc) _ p (Yt hlt) tu.toArray,
  ⟨⟨_,Yx _ rfl,rfl,rfl⟩,hl.push _⟩,fun i v s' Q' E' hP hQ=>?_,fun h' tk hk=>?_⟩
 . have hP':tu[i]?=some v:=by simpa using hP
   cases e:bs[i]? with
   | none=>have:bs.length<=i:=YV.mp e;have:tu[i]?=none:=YV.mpr (by omega);rw [this] at hP';cases hP'
   | some b=>obtain ⟨u,e1,e2⟩:=rv.get (i:=i) (x:=V.bl b) (by rw [List.getElem?_map,e];rfl);rw [hP'] at e1;cases e1;have:v=Value.bool b:=e2;subst this;simp only [e,Option.getD_some] at hQ;exact yN hQ
 . have e:((List.range tu.toArray.size).all fun i=>(bs[i]?).getD true)=bs.all id:=by rw [YD,tK];exact LSm.range_all bs
   rw [e];exact ⟨.bl (bs.all id),H,I.kept (LSm.kept_iter hk),rfl,q⟩
end
theorem jmv {X:Cx} {x:Str} {i:Int} {t:Tok} {pos:Pos} (hg:Gl X x) (hm:X.mg x=some (.int i t)) (hd:‹"q"›=false:=by decide):PE X (.Name x pos) (tC (.int i)):=jlP hg hm ⟨t,rfl⟩ hd
theorem jqy {X:Cx} {x:Str} {T:String} {pos:Pos} (hg:Gl X x) (hm:X.mg x=none) (hv:bootBuiltins x=some (.type T)) (hn:x ≠ "__name__":=by decide) (hd:‹"q"›=false:=by decide):PE X (.Name x pos) (tC (.ty T)):=jlM hg hm hv rfl hn hd
section
variable {t u:TS} {te ta tb tc:TE} {nx bk ct:St->Hp->Prop} {rt:VK} {σ:St} {H:Hp} {i:Nat} {v:V} {Q:VK} {r r':R2} {c c':TT} {QB:Bool->Hp->Prop} {QA:List V->Hp->Prop} {A B:TA}
end
theorem Same.seqT {K:PySem.W.Frag} {H H':Hp} {a:Addr} {xs:List V} (e:Same H H') (h:SqT K H a xs):SqT K H' a xs:=by
 rcases h with (h | ⟨o,h⟩) | h
 . exact .inl (.inl (e _ _ h))
 . exact .inl (.inr ⟨o,e _ _ h⟩)
 . exact .inr h
theorem Same.upd {H:Hp} {p:Addr} {o:HO} (h:H p=none):Same H (upd H p o):=fun b u e=>by rw [jC (jG e h)];exact e
end L2
namespace L2
open PySem PySem.Spec PyProof.Rows
theorem HOk.grow {P:Program} {w:World} {H H':Hp} {h h':Heap} (x:HOk P w H h) (k:∀b u,h.get? b=some u->h'.get? b=some u) (same:∀b,@LT.lt Nat instLTNat b h.objs.size->H' b=H b)
 (new:∀b o,h.objs.size<=b->H' b=some o->ObjOk P w H' h' b o):HOk P w H' h':=fun b o e=>by
 rcases YT b h.objs.size with z | z
 . rw [same b z] at e;exact (x b o e).stay (fun c v _ q=>k c v q) (fun c q=>by rw [same c (x.lt q)];exact q) fun c xs q=>by rw [same c (x.lt q)];exact q
 . exact new b o z e
section
variable {X:Cx} {tf:List (Addr×Obj)} {σ:St} {H H':Hp} {s:Shared} {h':Heap}
theorem Inv.grow {t':Nat} {d':Drawn} (I:Inv X tf σ H s) (k:∀b u,s.heap.get? b=some u->h'.get? b=some u) (same:∀b,@LT.lt Nat instLTNat b s.heap.objs.size->H' b=H b)
 (new:∀b o,s.heap.objs.size<=b->H' b=some o->ObjOk X.prog X.w H' h' b o):Inv X tf σ H' { s with heap:=h',drawn:=d',toks:=t' }:=
 I.step (g':=s.gens) (d':=d') (ch:=[]) (fun _ z=>nomatch z) (fun b o _ _ _ e _=>k b o e) (fun b o _ _ _ e _=>⟨o.slots,k b o e⟩) (fun b o _ e n=>by rw [same b (Yw e)];exact n) (fun b o _ e=>⟨o,k b o e⟩)
  (fun b xs e=>by rw [same b (I.hok.lt e)];exact e) (fun b o u e=>by rw [same b (I.hok.lt e)];exact e) (fun b ps e=>⟨#[],by rw [same b (I.hok.lt e),e];simp⟩) (fun m hm=>hm.keeps k) (I.hok.grow k same new) I.bare
theorem Inv.turnNew {ch:List Addr} {t:Addr} {o:HO} {tk:Nat} (I:Inv X tf σ H s) (hf:∀b∈ch,jcN X tf H b) (k:∀b u,b∉ch->s.heap.get? b=some u->h'.get? b=some u) (ht:s.heap.objs.size<=t)
 (new:ObjOk X.prog X.w (upd H t o) h' t o):Inv X tf σ (upd H t o) { s with heap:=h',toks:=tk }:=by
 have hn:H t=none:=I.hok.fresh ht;have lt:∀b u,s.heap.get? b=some u->b≠t:=fun b u e=>Yt (Ym (Yw e) ht);have nch:∀b u,H b=some u->b∉ch:=fun b u e z=>by rw [(hf b z).1] at e;cases e
 refine I.step (g':=s.gens) (d':=s.drawn) (ch:=ch) ‹"aU"› (fun b u _ _ hc e _=>k b u hc e) (fun b u _ _ hc e _=>⟨u.slots,k b u hc e⟩)
  (fun b u _ e n=>by rw [jC (lt b u e)];exact n) (fun b u hc e=>⟨u,k b u hc e⟩) (fun b xs e=>by rw [jC (jG e hn)];exact e) (fun b u v e=>by rw [jC (jG e hn)];exact e) (fun b ps e=>⟨#[],by rw [jC (jG e hn),e];simp⟩)
  (fun m hm=>?_) (fun b u e=>?_) I.bare
 . obtain ⟨ol,es,ep,ho,r⟩:=hm;exact ⟨ol,es,ep,k _ ol (fun z=>(hf _ z).2.1 rfl) ho,r⟩
 . by_cases hb:b=t
   . subst hb;rw [jB] at e;cases e;exact new
   . rw [jC hb] at e;refine (I.hok b u e).stay (fun c v hc q=>k c v ?_ q) (fun c q=>by rw [jC (jG q hn)];exact q) fun c xs q=>by rw [jC (jG q hn)];exact q
     rcases hc with z | z
     . rw [z];exact nch b u e
     . exact nch c _ z
end
def Itz (K:PySem.W.Frag) (p q:Addr):It:=
 ⟨fun i H=>∃xs ys x y,Jn K H p xs/\Jn K H q ys/\xs[i]?=some x/\ys[i]?=some y,
  fun i H v H'=>∃t x y,H t=none/\v=.ref t/\H'=upd H t (.tup [x,y])/\(∀xs,Jn K H p xs->xs[i]?=some x)/\∀ys,Jn K H q ys->ys[i]?=some y,
  fun i H=>∃xs ys,Jn K H p xs/\Jn K H q ys/\(xs.length<=i\/ys.length<=i)⟩
theorem jca {h:Heap} {T:Addr} {a b:Value} (e:IsPair h T a b):IsTup h T [a,b].toArray:=⟨_,e,rfl,0,rfl⟩
theorem jkB {P:Program} {w:World} {K:PySem.W.Frag} {elts:List Expr} {x1:Nat} {tpos:Pos} {z TI TO i1 i2 p q:Addr} (D:ZipApart z TI TO i1 i2 p q) :
 Turn P w K (.Tuple elts x1 tpos) (Itz K p q) [z,TI,TO,i1,i2] z (fun i h=>IsZip h z TI TO .none/\IsPair h TI (.ref i1) (.ref i2)/\(∃a b,IsPair h TO a b)/\h.IsListIter i1 p i/\h.IsListIter i2 q i) where
 mem:=by simp
 obj:=fun i h st b hb=>by
  obtain ⟨hz,hTI,⟨a,c,hTO⟩,⟨o1,e1,_,d1⟩,⟨o2,e2,_,d2⟩⟩:=st;simp only [Yq,YJ,Ku] at hb;rcases hb with rfl | rfl | rfl | rfl | rfl
  . exact ⟨_,hz,fun v y=>nomatch y⟩
  . exact ⟨_,hTI,fun v y=>nomatch y⟩
  . exact ⟨_,hTO,fun v y=>nomatch y⟩
  . exact ⟨o1,e1,fun v y=>by rw [d1] at y;cases y⟩
  . exact ⟨o2,e2,fun v y=>by rw [d2] at y;cases y⟩
 keep:=fun i h h' st k=>by obtain ⟨hz,hTI,⟨a,c,hTO⟩,h1,h2⟩:=st;exact ⟨k _ (by simp) _ hz,k _ (by simp) _ hTI,⟨a,c,k _ (by simp) _ hTO⟩,h1.at fun o e=>k _ (by simp) o e,h2.at fun o e=>k _ (by simp) o e⟩
 item:=by
  intro X hP hw hK hc i tf s σ H E I hf st hg;subst hP hw hK;obtain ⟨xs,ys,x,y,hp,hq,hx,hy⟩:=hg;obtain ⟨tu,rv,pl,_⟩:=I.list hp;obtain ⟨its2,rv2,pl2,_⟩:=I.list hq;obtain ⟨u,hu,ru⟩:=rv.get hx;obtain ⟨u2,hu2,ru2⟩:=rv2.get hy;obtain ⟨hz,hTI,⟨a,c,hTO⟩,h1,h2⟩:=st;refine wpAny_pyNext_zip_item D hz hTI hTO h1 h2 pl.isList pl2.isList (x:=u) (y:=u2) (by simpa using hu) (by simpa using hu2) fun h' r1 r2 r3 r4 r5 r6 r7=>?_;have kk:∀b o,b∉[z,TI,TO,i1,i2]->s.heap.get? b=some o->h'.get? b=some o:=fun b o hb e=>by simp only [Yq,YJ,Ku,not_or] at hb;exact r7 b o hb.1 hb.2.2.1 hb.2.2.2.1 hb.2.2.2.2 e
  have I1:Inv X tf σ (upd H s.heap.objs.size (.tup [x,y])) { s with heap:=h',toks:=s.toks }:=I.turnNew hf kk (Ys _) ⟨by show 2<=sizeLine;decide,[u,u2],.cons ru (.cons ru2 .nil),jca r5⟩;have hTI':IsPair h' TI (.ref i1) (.ref i2):=r7 _ _ D.TIz D.TITO D.TIi1 D.TIi2 hTI;have nt:∀b∈[z,TI,TO,i1,i2],b≠s.heap.objs.size:=fun b hb=>by
   simp only [Yq,YJ,Ku] at hb;rcases hb with rfl | rfl | rfl | rfl | rfl
   . exact Yt (ltN hz)
   . exact Yt (ltN hTI)
   . exact Yt (ltN hTO)
   . obtain ⟨_,e,_⟩:=h1;exact Yt (ltN e)
   . obtain ⟨_,e,_⟩:=h2;exact Yt (ltN e)
  refine ⟨_,rfl,wpAny_letOwnedTupleGo_zip (s:={ s with heap:=h' }) r1 fun h'' z' sb=>?_⟩;obtain ⟨f0,f1,f2,f3,f4,f5⟩:=hf z (by simp);have hn:H s.heap.objs.size=none:=I.hok.fresh (Ys _);have I2:Inv X tf σ (upd H s.heap.objs.size (.tup [x,y])) { s with heap:=h'',toks:=s.toks }:=Inv.turned (s:={ s with heap:=h',toks:=s.toks }) (h':=h'') I1 (t':=s.toks) (it:=z) (fun b o hb e=>(sb.2 b hb).trans e) (by rw [jC (nt z (by simp))];exact f0) f1 f3 f4 f5;refine ⟨.ref s.heap.objs.size,_,I2,rfl,⟨_,x,y,hn,rfl,rfl,fun xs' h'=>by rw [I.list_inj h' hp];exact hx,fun ys' h'=>by rw [I.list_inj h' hq];exact hy⟩,⟨z',sb.extBut _ _ D.TIz hTI',⟨_,_,sb.extBut _ _ D.TOz r2⟩,r3.extBut sb.extBut D.i1z,r4.extBut sb.extBut D.i2z⟩,fun b hb=>?_⟩;rw [jC (nt b hb)];exact (hf b hb).1
 done:=by
  intro X hP hw hK hc i tf s σ H E I hf st hg;subst hP hw hK;obtain ⟨xs,ys,hp,hq,he⟩:=hg;obtain ⟨tu,rv,pl,_⟩:=I.list hp;obtain ⟨its2,rv2,pl2,_⟩:=I.list hq;obtain ⟨hz,hTI,⟨a,c,hTO⟩,h1,h2⟩:=st;have l1:=rv.length;have l2:=rv2.length;refine wpAny_pyNext_zip_end (I.ok.hd hc) D hz hTI hTO h1 h2 pl.isList pl2.isList (by rcases he with e | e;exact .inl (by simp;omega);exact .inr (by simp;omega)) fun h' kk=>⟨rfl,?_⟩;have J:∀b o,b∉[z,TI,TO,i1,i2]->s.heap.get? b=some o->h'.get? b=some o:=fun b o hb e=>by simp only [Yq,YJ,Ku,not_or] at hb;exact kk b o hb.1 hb.2.2.1 hb.2.2.2.1 hb.2.2.2.2 e
  have nch:∀b u,H b=some u->b∉[z,TI,TO,i1,i2]:=fun b u e y=>by rw [(hf b y).1] at e;cases e
  refine I.step (g':=s.gens) (d':=s.drawn) (t':=s.toks) (ch:=[z,TI,TO,i1,i2]) ‹"aU"› (fun b u _ _ hc e _=>J b u hc e) (fun b u _ _ hc e _=>⟨u.slots,J b u hc e⟩)
   (fun _ _ _ _ n=>n) (fun b u hc e=>⟨u,J b u hc e⟩) (fun _ _ e=>e) (fun _ _ _ e=>e) (fun b ps e=>⟨#[],by rw [e];simp⟩) (fun m hm=>?_) (fun b u e=>?_) I.bare
  . obtain ⟨ol,es,ep,ho,r⟩:=hm;exact ⟨ol,es,ep,J _ ol (fun y=>(hf _ y).2.1 rfl) ho,r⟩
  . refine (I.hok b u e).stay (fun c v hc q=>J c v ?_ q) (fun _ q=>q) fun _ _ q=>q;rcases hc with y | y
    . rw [y];exact nch b u e
    . exact nch c _ y
 self:=fun _ _ _ _ _ st h=>wpAny_pyIter_zip st.1 h
section
variable {X:Cx}
def jnD (K:PySem.W.Frag) (ta:TA):TI:=fun σ H R=>ta σ H fun vs H1=>∃p q xs ys,vs=[.ref p,.ref q]/\Jn K H1 p xs/\Jn K H1 q ys/\R (Itz K p q) H1
theorem jnI {a b:Expr} {ta:TA} {p pos:Pos} {elts:List Expr} {x1:Nat} {tpos:Pos} (hg:Gl X "zip") (hm:X.mg "zip"=none) (ha:PA X [a,b] ta) (hs:starEach [a,b] X.env=[(false,eval a X.env),(false,eval b X.env)]:=by rfl) (hs2:starEach [b] X.env=[(false,eval b X.env)]:=by rfl) :
 PI X (.Tuple elts x1 tpos) (.Call (.Name "zip" p) [a,b] [] pos) (jnD X.K ta):=by
 intro tf s σ H R I h;refine Call_ (Qh I hg hm boot_zip (YY (qD (ha pos tf s σ H _ I h) fun us s1 zz=>?_) (by rw [hs,hs2]) (by rw [hs2];rfl)));obtain ⟨vs,H1,I1,r1,q1⟩:=zz;obtain ⟨pa,pb,xs,ys,e,hp,hq,q⟩:=q1;subst e;obtain ⟨u,v,rfl,ru,rv⟩:=Vals.two r1;cases ru;cases rv;obtain ⟨tu,rx,pl,_⟩:=I1.list hp;obtain ⟨its2,ry,pl2,_⟩:=I1.list hq;have lta:@LT.lt Nat instLTNat pa s1.heap.objs.size:=by obtain ⟨_,e,_⟩:=pl.isList;exact ltN e
 have ltb:@LT.lt Nat instLTNat pb s1.heap.objs.size:=by obtain ⟨_,e,_⟩:=pl2.isList;exact ltN e
 refine call_zip_2 pl.isList pl2.isList fun h' r1 r2 r3 r4 r5 r6 r7=>wpAny_pyIter_zip (s:={ s1 with heap:=h' }) r1 ?_;have I2:Inv X tf σ H1 { s1 with heap:=h',toks:=s1.toks }:=I1.kept (t':=s1.toks) r7;refine ⟨_,[s1.heap.objs.size+4,s1.heap.objs.size+2,s1.heap.objs.size+3,s1.heap.objs.size,s1.heap.objs.size+1],_,_,H1,rfl,I2,jkB (zipApart_new lta ltb),⟨r1,r2,⟨_,_,r3⟩,r4,r5⟩,fun b hb=>?_,q⟩;have ge:s1.heap.objs.size<=b:=by
  simp only [Yq,YJ,Ku] at hb;rcases hb with rfl | rfl | rfl | rfl | rfl
  . exact yC _ 4
  . exact yC _ 2
  . exact yC _ 3
  . exact Ys _
  . exact yC _ 1
 exact I1.fpOk ge (I1.hok.fresh ge)
end
def Ite (K:PySem.W.Frag) (p:Addr):It:=
 ⟨fun i H=>∃xs x,Jn K H p xs/\xs[i]?=some x,
  fun i H v H'=>∃t x,H t=none/\v=.ref t/\H'=upd H t (.tup [.int i,x])/\∀xs,Jn K H p xs->xs[i]?=some x,
  fun i H=>∃xs,Jn K H p xs/\xs.length<=i⟩
theorem jiC {P:Program} {w:World} {K:PySem.W.Frag} {elts:List Expr} {x1:Nat} {tpos:Pos} {e it p:Addr} (hei:e≠it) :
 Turn P w K (.Tuple elts x1 tpos) (Ite K p) [e,it] e (fun i h=>(∃old,IsEnum h e it i old)/\h.IsListIter it p i) where
 mem:=by simp
 obj:=fun i h st b hb=>by
  obtain ⟨⟨old,he⟩,⟨o1,e1,_,d1⟩⟩:=st;simp only [Yq,YJ,Ku] at hb;rcases hb with rfl | rfl
  . exact ⟨_,he,fun v y=>nomatch y⟩
  . exact ⟨o1,e1,fun v y=>by rw [d1] at y;cases y⟩
 keep:=fun i h h' st k=>by obtain ⟨⟨old,he⟩,h1⟩:=st;exact ⟨⟨old,k _ (by simp) _ he⟩,h1.at fun o e=>k _ (by simp) o e⟩
 item:=by
  intro X hP hw hK hc i tf s σ H E I hf st hg;subst hP hw hK;obtain ⟨xs,x,hp,hx⟩:=hg;obtain ⟨tu,rv,pl,_⟩:=I.list hp;obtain ⟨u,hu,ru⟩:=rv.get hx;obtain ⟨⟨old,he⟩,h1⟩:=st;refine wpAny_pyNext_enum_item he h1 pl.isList (x:=u) (by simpa using hu) hei fun h' r1 r2 r3 r4 r5=>?_;have kk:∀b o,b∉[e,it]->s.heap.get? b=some o->h'.get? b=some o:=fun b o hb q=>by simp only [Yq,YJ,Ku,not_or] at hb;exact r5 b o hb.1 hb.2 q
  have I1:Inv X tf σ (upd H s.heap.objs.size (.tup [.int i,x])) { s with heap:=h',toks:=s.toks+1 }:=I.turnNew hf kk (Ys _) ⟨by show 2<=sizeLine;decide,[.int i s.toks,u],.cons ⟨_,rfl⟩ (.cons ru .nil),⟨_,r3,rfl,0,rfl⟩⟩;have nt:∀b∈[e,it],b≠s.heap.objs.size:=fun b hb=>by
   simp only [Yq,YJ,Ku] at hb;rcases hb with rfl | rfl
   . exact Yt (ltN he)
   . obtain ⟨_,q,_⟩:=h1;exact Yt (ltN q)
  refine ⟨_,rfl,wpAny_letOwnedTupleGo_enum (s:={ s with heap:=h',toks:=s.toks+1 }) r1 fun h'' z' sb=>?_⟩;obtain ⟨f0,f1,f2,f3,f4,f5⟩:=hf e (by simp);have hn:H s.heap.objs.size=none:=I.hok.fresh (Ys _);have I2:Inv X tf σ (upd H s.heap.objs.size (.tup [.int i,x])) { s with heap:=h'',toks:=s.toks+1 }:=Inv.turned (s:={ s with heap:=h',toks:=s.toks+1 }) (h':=h'') I1 (t':=s.toks+1) (it:=e) (fun b o hb q=>(sb.2 b hb).trans q) (by rw [jC (nt e (by simp))];exact f0) f1 f3 f4 f5;refine ⟨.ref s.heap.objs.size,_,I2,rfl,⟨_,x,hn,rfl,rfl,fun xs' h'=>by rw [I.list_inj h' hp];exact hx⟩,⟨⟨_,z'⟩,r2.extBut sb.extBut (Ne.symm hei)⟩,fun b hb=>?_⟩;rw [jC (nt b hb)];exact (hf b hb).1
 done:=by intro X hP hw hK hc i tf s σ H E I hf st hg;subst hP hw hK;obtain ⟨xs,hp,hle⟩:=hg;obtain ⟨tu,rv,pl,_⟩:=I.list hp;obtain ⟨⟨old,he⟩,h1⟩:=st;have l1:=rv.length;obtain ⟨f0,f1,f2,f3,f4,f5⟩:=hf it (by simp);exact wpAny_pyNext_enum_end (I.ok.hd hc) he h1 pl.isList (by simp;omega) fun h' kk=>⟨rfl,I.turned (t':=s.toks) (it:=it) (fun b o hb q=>kk b o hb q) f0 f1 f3 f4 f5⟩
 self:=fun _ _ s _ _ st h=>by obtain ⟨⟨old,he⟩,_⟩:=st;have hT:s.TypeIs (.ref e) "enumerate":=⟨_,he,rfl⟩;refine wpAny_pyIter_slot hT yQ (yB yQ hT PySem.F.entry_enumerate_iter ?_ (PySem.F.args_enumerate_iter_1 _));show wpAny _ _ (ret (.ref e)) _ _ s;exact Yk ⟨_,rfl, "enumerate",_,hT,PySem.F.slot_enumerate_next.lookup,h⟩
section
variable {X:Cx}
def jjw (K:PySem.W.Frag) (ta:TA):TI:=fun σ H R=>ta σ H fun vs H1=>∃p xs,vs=[.ref p]/\Jn K H1 p xs/\R (Ite K p) H1
theorem jmf {a:Expr} {ta:TA} {p pos:Pos} {elts:List Expr} {x1:Nat} {tpos:Pos} (hg:Gl X "enumerate") (hm:X.mg "enumerate"=none) (ha:PA X [a] ta) (hs:starEach [a] X.env=[(false,eval a X.env)]:=by rfl) :
 PI X (.Tuple elts x1 tpos) (.Call (.Name "enumerate" p) [a] [] pos) (jjw X.K ta):=by
 intro tf s σ H R I h;refine Call_ (Qh I hg hm boot_enumerate (YY (qD (ha pos tf s σ H _ I h) fun us s1 zz=>?_) hs rfl));obtain ⟨vs,H1,I1,r1,q1⟩:=zz;obtain ⟨pa,xs,e,hp,q⟩:=q1;subst e;obtain ⟨u,rfl,ru⟩:=Vals.one r1;cases ru;obtain ⟨tu,rx,pl,_⟩:=I1.list hp;refine call_enumerate_list pl.isList fun h' r1 r2 r3 r4=>?_;have hT:Shared.TypeIs { s1 with heap:=h' } (.ref (s1.heap.objs.size+1)) "enumerate":=⟨_,r1,rfl⟩;refine wpAny_pyIter_slot hT yQ (yB yQ hT PySem.F.entry_enumerate_iter ?_ (PySem.F.args_enumerate_iter_1 _));show wpAny _ _ (ret (.ref (s1.heap.objs.size+1))) _ _ _;refine Yk ⟨_,rfl, "enumerate",_,hT,PySem.F.slot_enumerate_next.lookup,?_⟩;have I2:Inv X tf σ H1 { s1 with heap:=h',toks:=s1.toks }:=I1.kept (t':=s1.toks) r4;refine ⟨_,[s1.heap.objs.size+1,s1.heap.objs.size],_,_,H1,rfl,I2,jiC (yp (yT _)),⟨⟨_,r1⟩,r2⟩,fun b hb=>?_,q⟩;have ge:s1.heap.objs.size<=b:=by
  simp only [Yq,YJ,Ku] at hb;rcases hb with rfl | rfl
  . exact yC _ 1
  . exact Ys _
 exact I1.fpOk ge (I1.hok.fresh ge)
def jdi (K:PySem.W.Frag) (ta:TA):TE:=fun σ H Q=>ta σ H fun vs H1=>∃p q xs ys,vs=[.ref p,.ref q]/\Jn K H1 p xs/\Jn K H1 q ys/\xs.length<sizeLine /\
 ∀(l:Addr) (ts:List Addr) (H':Hp),H1 l=none->(∀t∈ts,H1 t=none)->l∉ts->ts.Nodup->ts.length=min xs.length ys.length->(∀b,b≠l->b∉ts->H' b=H1 b)->H' l=some (.lst (ts.map V.ref))->
   (∀(i:Nat) t x y,ts[i]?=some t->xs[i]?=some x->ys[i]?=some y->H' t=some (.tup [x,y]))->Q (.ref l) H'
theorem jdF:∀ts:List Addr,Vals (ts.map V.ref) (ts.map Value.ref)
 | []=>.nil
 | _::ts=>.cons rfl (jdF ts)
theorem jev {ts:List Addr} {b:Addr} (h:b∈ts):ts.idxOf b<ts.length/\ts[ts.idxOf b]?=some b:=by have h1:=List.idxOf_lt_length_of_mem h;exact ⟨h1,by rw [Ya h1,List.getElem_idxOf h1]⟩
theorem jhq {a b:Expr} {ta:TA} {p1 p2 pos1 pos2:Pos} (hc:X.calm=true) (hg1:Gl X "list") (hm1:X.mg "list"=none) (hg2:Gl X "zip") (hm2:X.mg "zip"=none) (ha:PA X [a,b] ta)
 (hs:starEach [a,b] X.env=[(false,eval a X.env),(false,eval b X.env)]:=by rfl) (hs2:starEach [b] X.env=[(false,eval b X.env)]:=by rfl)
 (hs3:starEach [.Call (.Name "zip" p2) [a,b] [] pos2] X.env=[(false,eval (.Call (.Name "zip" p2) [a,b] [] pos2) X.env)]:=by rfl) :
 PE X (.Call (.Name "list" p1) [.Call (.Name "zip" p2) [a,b] [] pos2] [] pos1) (jdi X.K ta):=by
 intro tf s σ H Q I h;refine Call_ (Qh I hg1 hm1 Kj (YY ?_ hs3 rfl));rw [hs3];show wpAny _ _ (spliced ((false,eval (.Call (.Name "zip" p2) [a,b] [] pos2) X.env)::backTo pos1 [])) _ _ s;refine KQ (Call_ (Qh I hg2 hm2 boot_zip (YY (qD (ha pos2 tf s σ H _ I h) fun us s1 zz=>?_) (by rw [hs,hs2]) (by rw [hs2];rfl))));obtain ⟨vs,H1,I1,r1,q1⟩:=zz;obtain ⟨pa,pb,xs,ys,e,hp,hq,hxl,q⟩:=q1;subst e;obtain ⟨u,v,rfl,ru,rv⟩:=Vals.two r1;cases ru;cases rv;obtain ⟨tu,rx,pl,hz1⟩:=I1.list hp;obtain ⟨its2,ry,pl2,hz2⟩:=I1.list hq;have lx:=rx.length;have ly:=ry.length;have lta:@LT.lt Nat instLTNat pa s1.heap.objs.size:=by obtain ⟨_,e,_⟩:=pl.isList;exact ltN e
 have ltb:@LT.lt Nat instLTNat pb s1.heap.objs.size:=by obtain ⟨_,e,_⟩:=pl2.isList;exact ltN e
 refine call_zip_2 pl.isList pl2.isList fun h' r1 r2 r3 r4 r5 r6 r7=>?_;refine K1 ?_;refine jjY (h₀:=s1.heap) (xs:=tu.toArray) (ys:=its2.toArray) (I.ok.hd hc) (zipApart_new lta ltb) r1 r2 ⟨_,_,r3⟩ r4 r5 pl.isList pl2.isList r7 ⟨yC _ 4,yC _ 3,Ys _,yC _ 1⟩ (by show s1.heap.objs.size<=h'.objs.size;rw [r6];exact yC _ 5) (by simp;omega) fun S g tF c hS eS M=>?_
 -- the tuples' addresses
 have hmin:min tu.toArray.size its2.toArray.size=min xs.length ys.length:=by simp;omega
 have hts:∃ts:List Addr,tF.toList=ts.map Value.ref:=by
  have:∀v∈tF.toList,∃t,v=Value.ref t:=fun v hv=>by
   obtain ⟨j,hj,e⟩:=yf hv;have hj':j<tF.size:=by simpa using hj
   obtain ⟨T,x,y,e1,_⟩:=M.pair j (by rw [<-M.size];exact hj');rw [YH hj'] at e1;exact ⟨T,by rw [<-e];simpa using Option.some.inj e1⟩
  generalize tF.toList=l at this;clear eS M;induction l with
  | nil=>exact ⟨[],rfl⟩
  | cons v l ih=>obtain ⟨t,rfl⟩:=this v Yf;obtain ⟨ts,e⟩:=ih fun x hx=>this x (Yj _ hx);exact ⟨t::ts,by rw [e];rfl⟩
 obtain ⟨ts,hts⟩:=hts;have tl:ts.length=min xs.length ys.length:=by have:=congrArg List.length hts;rw [Yc,yx,M.size,hmin] at this;exact this.symm
 have at_:∀(j:Nat) (t:Addr),ts[j]?=some t->tF[j]?=some (.ref t):=fun j t e=>by rw [<-yG,hts,List.getElem?_map,e];rfl
 have info:∀(j:Nat) (t:Addr),ts[j]?=some t->∃x y,tu[j]?=some x/\its2[j]?=some y/\IsPair g t x y/\s1.heap.objs.size<=t/\t≠S/\∀k,k<j->tF[k]?≠some (.ref t):=fun j t e=>by
  have hj:j<ts.length:=(Yh.mp e).1;obtain ⟨T,x,y,e1,e2,e3,e4,e5,e6,_,e7⟩:=M.pair j (by rw [hmin,<- tl];exact hj);rw [at_ j t e] at e1;have:t=T:=by injection (Option.some.inj e1)
  subst this;exact ⟨x,y,by simpa using e2,by simpa using e3,e4,e5,e6,e7⟩
 have nd:ts.Nodup:=by rw [List.nodup_iff_pairwise_ne,KA];intro i j hi hj hij e;obtain ⟨_,_,_,_,_,_,_,q7⟩:=info j ts[j] (Ya hj);exact q7 i hij (by rw [<-e];exact at_ i _ (Ya hi))
 have fresh:∀t∈ts,s1.heap.objs.size<=t/\t≠S:=fun t ht=>by obtain ⟨h1,h2⟩:=jev ht;obtain ⟨_,_,_,_,_,q5,q6,_⟩:=info _ t h2;exact ⟨q5,q6⟩
 let H':Hp:=fun b=>if b=S then some (.lst (ts.map V.ref)) else if b∈ts then some (.tup [(xs[ts.idxOf b]?).getD .non,(ys[ts.idxOf b]?).getD .non]) else H1 b
 have HS:H' S=some (.lst (ts.map V.ref)):=if_pos rfl;have HT:∀(i:Nat) t x y,ts[i]?=some t->xs[i]?=some x->ys[i]?=some y->H' t=some (.tup [x,y]):=fun i t x y e e1 e2=>by
  have hi:i<ts.length:=(Yh.mp e).1;have ht:t∈ts:=YE e;have hix:ts.idxOf t=i:=by obtain ⟨h1,h2⟩:=jev ht;exact (List.getElem_inj (h₀:=h1) (h₁:=hi) nd).mp ((Yh.mp h2).2.trans (Yh.mp e).2.symm)
  show (if t=S then _ else if t∈ts then _ else _)=_;rw [if_neg (fresh t ht).2,if_pos ht,hix,e1,e2];rfl
 have HO':∀b,b≠S->b∉ts->H' b=H1 b:=fun b h1 h2=>by show (if b=S then _ else if b∈ts then _ else _)=_;rw [if_neg h1,if_neg h2]
 have I2:Inv X tf σ H' { s1 with heap:=g,drawn:=s1.drawn,toks:=s1.toks }:=by
  refine I1.grow M.keep (fun b hb=>HO' b (fun z=>?_) (fun z=>?_)) fun b o hb e=>?_
  . rw [z] at hb;exact Nat.not_lt.mpr hS hb
  . exact Nat.not_lt.mpr (fresh b z).1 hb
  . by_cases hbS:b=S
    . subst hbS;rw [HS] at e;cases e;refine ⟨by rw [Yc,tl];omega,tF.toList,c,?_,by simpa using eS⟩;rw [hts];exact jdF ts
    . by_cases hbt:b∈ts
      . obtain ⟨h1,h2⟩:=jev hbt;obtain ⟨x,y,e1,e2,e3,_⟩:=info _ b h2;have hxi:ts.idxOf b<xs.length:=by omega
        have hyi:ts.idxOf b<ys.length:=by omega
        rw [HT _ b _ _ h2 (Ya hxi) (Ya hyi)] at e;cases e;obtain ⟨u1,g1,g2⟩:=rx.get (Ya hxi);obtain ⟨u2,g3,g4⟩:=ry.get (Ya hyi);rw [e1] at g1;rw [e2] at g3;cases g1;cases g3;exact ⟨by show 2<=sizeLine;decide,[x,y],.cons g2 (.cons g4 .nil),jca e3⟩
      . rw [HO' b hbS hbt] at e;exact absurd (I1.hok.lt e) (Nat.not_lt.mpr hb)
 have nS:H1 S=none:=I1.hok.fresh hS;exact ⟨.ref S,H',I2,rfl,q S ts H' nS (fun t ht=>I1.hok.fresh (fresh t ht).1) (fun z=>(fresh S z).2 rfl) nd tl HO' HS HT⟩
def jep (X:Cx) (a:Addr) (ns:List Int):HO:=.ext fun h=>L2S.ZK X.prog X.w h a ns
theorem jiN {P:Program} {w:World} {a:Addr} {ns:List Int} {h1 h2:Heap} (r:L2S.ZK P w h1 a ns) (k:∀o,h1.get? a=some o->h2.get? a=some o):L2S.ZK P w h2 a ns:=by obtain ⟨o,es,ep,t,ho,q⟩:=r;exact ⟨o,es,ep,t,k o ho,q⟩
theorem jgC (hc:X.calm=true):CallR X (.type "set") (fun xs H Q=>∃(p:Addr) (ns:List Int),xs=[.ref p] ∧ Jn X.K H p (ns.map V.int) ∧ ns.length<64 ∧ ∀a,H a=none → Q (.ref a) (upd H a (jep X a ns))):=by intro tf s σ H xs us Q I r h;obtain ⟨p,ns,rfl,hq,hl,q⟩:=h;obtain ⟨u,rfl,rx⟩:=Vals.one r;cases rx;obtain ⟨tu,rv,pl,hz⟩:=I.list hq;have hi:IntsAre tu ns:=jac rv;refine L2S.jgR (I.ok.hd hc) pl.isList ‹"an"› (by show ns.length+1<4096;omega) fun h' tk hS hk=>?_;refine ⟨.ref s.heap.objs.size,upd H s.heap.objs.size (jep X s.heap.objs.size ns),?_,rfl,q _ (I.hok.fresh (Ys _))⟩;refine I.laid hk (Ys _) ⟨hS,?_,fun h1 h2 r k=>jiN r k⟩;obtain ⟨o,es,ep,t,ho,_⟩:=hS;exact ⟨o,ho⟩
theorem jcO (hc:X.calm=true):CallR X (.builtin "sorted") (fun xs H Q=>∃(a:Addr) (ns:List Int),xs=[.ref a] ∧ H a=some (jep X a ns) ∧ ns.length<64 ∧
 ∀(l:Addr) (ks:List Int),H l=none->ks.Pairwise (· < ·)->(∀k,k∈ks ↔ k∈ns)->ks.length<=ns.length->Q (.ref l) (upd H l (.lst (ks.map V.int)))):=by
 intro tf s σ H xs us Q I r h;obtain ⟨a,ns,rfl,ha,hl,q⟩:=h;obtain ⟨u,rfl,rx⟩:=Vals.one r;cases rx;obtain ⟨hS,_,_⟩:=I.hok a _ ha;refine L2S.jhe (I.ok.hd hc) hS hl fun h' d tk l out c ks hk hle he hi hp hm hn=>?_;have nl:H l=none:=I.hok.fresh hle;refine ⟨.ref l,upd H l (.lst (ks.map V.int)),?_,rfl,q l ks nl hp hm hn⟩;refine I.grow hk (fun b hb=>jC (Yt (Ym hb hle))) fun b o hb e=>?_;by_cases hbl:b=l
 . subst hbl;rw [jB] at e;cases e;refine ⟨by rw [Yc];exact Y2 (by omega:ks.length<=64) (by decide),out.toList,c,jbc hi,by simpa using he⟩
 . rw [jC hbl] at e;exact absurd (I.hok.lt e) (Nat.not_lt.mpr hb)
inductive DEq (K:PySem.W.Frag) (H:Hp):Nat->V->V->Bool->Prop where
 | flat {n:Nat} {x y:V} (fx:Qg x=true) (fy:Qg y=true):DEq K H n x y (eqV x y)
 | same {n:Nat} {a:Addr}:DEq K H n (.ref a) (.ref a) true
 | lens {n:Nat} {a b:Addr} {xs ys:List V} (ha:Jn K H a xs) (hb:Jn K H b ys) (hl:xs.length≠ys.length):DEq K H (n+1) (.ref a) (.ref b) false
 | lsts {n:Nat} {a b:Addr} {xs ys:List V} {e:Nat->Bool} (ha:Jn K H a xs) (hb:Jn K H b ys) (hl:xs.length=ys.length) (hne:a≠b) (he:∀(j:Nat) x y,xs[j]?=some x->ys[j]?=some y->DEq K H n x y (e j)):DEq K H (n+1) (.ref a) (.ref b) ((List.range xs.length).all e)
 | tups {n:Nat} {a b:Addr} {xs ys:List V} {e:Nat->Bool} (ha:SqT K H a xs) (hb:SqT K H b ys) (hl:xs.length=ys.length) (hne:a≠b) (he:∀(j:Nat) x y,xs[j]?=some x->ys[j]?=some y->DEq K H n x y (e j)):DEq K H (n+1) (.ref a) (.ref b) ((List.range xs.length).all e)
theorem DEq.ok {tf:List (Addr×Obj)} {σ:St} {H:Hp} {s:Shared} (I:Inv X tf σ H s):∀{n:Nat} {x y:V} {b:Bool},DEq X.K H n x y b->∀{u v:Value} {A:Around},RelV x u->RelV y v->A.units+n<cLine->SeqAt.EqAt A s u v b:=by
 intro n x y b d;induction d with
 | flat fx fy=>intro u v A ru rv _;exact jaU ru rv fx fy
 | same=>intro u v A ru rv _;cases ru;cases rv;exact SeqAt.EqAt.same _
 | @lens n a b xs ys ha hb hl=>
   intro u v A ru rv hu;cases ru;cases rv;obtain ⟨i1,r1,p1,_⟩:=I.list ha;obtain ⟨i2,r2,p2,_⟩:=I.list hb;have l1:=r1.length;have l2:=r2.length;by_cases hab:a=b
   . subst hab;exact absurd (by rw [I.list_inj ha hb]) hl
   . exact Kk hab (SeqAt.RcAt.lists_lengths p1.isList p2.isList (by simp;omega) (by omega))
 | @lsts n a b xs ys e ha hb hl hne he ih=>
   intro u v A ru rv hu;cases ru;cases rv;obtain ⟨i1,r1,p1,_⟩:=I.list ha;obtain ⟨i2,r2,p2,_⟩:=I.list hb;have l1:=r1.length;have l2:=r2.length;have e1:xs.length=i1.toArray.size:=by simpa using l1
   rw [e1];refine Kk hne (SeqAt.RcAt.lists p1.isList p2.isList (by simp;omega) (by omega) fun j h1 h2=>?_);have hj1:j<xs.length:=by omega
   have hj2:j<ys.length:=by omega
   obtain ⟨u1,g1,g2⟩:=r1.get (Ya hj1);obtain ⟨u2,g3,g4⟩:=r2.get (Ya hj2);have k1:i1.toArray[j]=u1:=by have:=Yh.mp g1;simpa using this.2
   have k2:i2.toArray[j]=u2:=by have:=Yh.mp g3;simpa using this.2
   rw [k1,k2];exact ih j _ _ (Ya hj1) (Ya hj2) g2 g4 (by show A.units+1+n<cLine;omega)
 | @tups n a b xs ys e ha hb hl hne he ih=>
   intro u v A ru rv hu;cases ru;cases rv;obtain ⟨i1,r1,p1,_⟩:=I.tuple ha;obtain ⟨i2,r2,p2,_⟩:=I.tuple hb;have l1:=r1.length;have l2:=r2.length;have e1:(List.range xs.length).all e=‹"P"›:=by
    have q1:i1.toArray.size=xs.length:=by simpa using l1.symm
    have q2:i2.toArray.size=xs.length:=by simp;omega
    rw [q1,q2];simp
   rw [e1];refine Kk hne (SeqAt.RcAt.tuples (show s.heap.IsTuple a i1.toArray from p1) (show s.heap.IsTuple b i2.toArray from p2) (by omega) fun j h1 h2=>?_);have hj1:j<xs.length:=by simp at h1;omega
   have hj2:j<ys.length:=by simp at h2;omega
   obtain ⟨u1,g1,g2⟩:=r1.get (Ya hj1);obtain ⟨u2,g3,g4⟩:=r2.get (Ya hj2);have k1:i1.toArray[j]=u1:=by have:=Yh.mp g1;simpa using this.2
   have k2:i2.toArray[j]=u2:=by have:=Yh.mp g3;simpa using this.2
   rw [k1,k2];exact ih j _ _ (Ya hj1) (Ya hj2) g2 g4 (by show A.units+1+n<cLine;omega)
end
end L2
namespace L2
open PySem PySem.Spec PyProof.Rows
section
variable {X:Cx}
end
end L2
namespace L2
open PySem PySem.Spec PyProof.Rows
section
variable {K:PySem.W.Frag} {g:TG} {tt:TT} {te:TE} {σ0:St} {H:Hp} {Q:VK}
end
section
variable {K:PySem.W.Frag} {g:TG} {tb:TS} {D:Ends} {σ:St} {H:Hp}
end
end L2
namespace L2
open PySem PySem.Spec PyProof.Rows
def ins (k:Int):List Int->List Int
 | []=>[k]
 | x::l=>if k<x then k::x::l else if k=x then x::l else x::ins k l
def srt (l:List Int):List Int:=l.foldr ins []
theorem mem_ins {k j:Int}:∀{l:List Int},j∈ins k l ↔ j=k\/j∈l
 | []=>by simp [ins]
 | x::l=>by
   unfold ins;split
   . simp
   . split
     . rename_i h;subst h;simp
     . rw [Yq,mem_ins (l:=l),Yq];constructor
       . rintro (h | h | h) <;> simp [h]
       . rintro (h | h | h) <;> simp [h]
theorem jcj {k:Int}:∀{l:List Int},l.Pairwise (· < ·)->(ins k l).Pairwise (· < ·)
 | [],_=>by simp [ins]
 | x::l,h=>by
   have h':=YA.mp h;unfold ins;split
   . rename_i hk;exact YA.mpr ⟨fun y hy=>by
       rcases Yq.mp hy with rfl | hy
       . exact hk
       . exact K2 hk (h'.1 y hy),h⟩
   . split
     . exact h
     . rename_i h1 h2;refine YA.mpr ⟨fun y hy=>?_,jcj h'.2⟩;rcases mem_ins.mp hy with rfl | hy
       . omega
       . exact h'.1 y hy
theorem jb8 {j:Int}:∀{l:List Int},j∈srt l ↔ j∈l
 | []=>by simp [srt]
 | x::l=>by show j∈ins x (srt l) ↔ _;rw [mem_ins,jb8 (l:=l),Yq]
theorem QI:∀{l:List Int},(srt l).Pairwise (· < ·)
 | []=>by simp [srt]
 | x::l=>jcj (QI (l:=l))
theorem QH:∀{l m:List Int},l.Pairwise (· < ·)->m.Pairwise (· < ·)->(∀k,k∈l ↔ k∈m)->l=m
 | [],[],_,_,_=>rfl
 | [],y::m,_,_,h=>absurd ((h y).mpr Yf) (by simp)
 | x::l,[],_,_,h=>absurd ((h x).mp Yf) (by simp)
 | x::l,y::m,h1,h2,h=>by
   have p1:=YA.mp h1;have p2:=YA.mp h2;have e:x=y:=by
     rcases Yq.mp ((h x).mp Yf) with z | z
     . exact z
     . rcases Yq.mp ((h y).mpr Yf) with z' | z'
       . exact z'.symm
       . have:=p2.1 x z;have:=p1.1 y z';omega
   subst e;rw [QH p1.2 p2.2 fun k=>⟨fun hk=>?_,fun hk=>?_⟩]
   . rcases Yq.mp ((h k).mp (Yj _ hk)) with z | z
     . have:=p1.1 k hk;omega
     . exact z
   . rcases Yq.mp ((h k).mpr (Yj _ hk)) with z | z
     . have:=p2.1 k hk;omega
     . exact z
structure Ship where
 b:Int
 e:Int
 n:Int
 m:Int
structure Ship.Ok (s:Ship):Prop where
 lt:s.b<s.e
 long:s.e-s.b<=300000000000000
 lo:-500000000000000<=s.b
 hi:s.b<=500000000000000
 m0:0<=s.m
 m1:s.m<=1000000000000000
 n0:0<=s.n
 n1:s.n<=s.m*(s.e-s.b)
def hrs (fl:List Ship):List Int:=fl.map (·.b)++fl.map (·.e)
def J8 (fl:List Ship):List Int:=srt (hrs fl)
def jg (fl:List Ship):List (Int×Int):=(J8 fl).zip (J8 fl).tail
section
variable {K:PySem.W.Frag} {H H':Hp}
def ShipV (K:PySem.W.Frag) (H:Hp) (v:V) (s:Ship):Prop:=∃a,v=.ref a/\SqT K H a [.int s.b,.int s.e,.int s.n,.int s.m]
def SpanV (K:PySem.W.Frag) (H:Hp) (v:V) (p:Int×Int):Prop:=∃a,v=.ref a/\SqT K H a [.int p.1,.int p.2]
def FleetAt (K:PySem.W.Frag) (H:Hp) (a:Addr) (fl:List Ship):Prop:=∃vs,Jn K H a vs/\Paired (ShipV K H) vs fl
def SpansAt (K:PySem.W.Frag) (H:Hp) (a:Addr) (sp:List (Int×Int)):Prop:=∃vs,Jn K H a vs/\Paired (SpanV K H) vs sp
theorem ShipV.same {v:V} {s:Ship} (h:ShipV K H v s) (e:Same H H'):ShipV K H' v s:=let ⟨a,h1,h2⟩:=h;⟨a,h1,e.seqT h2⟩
theorem SpanV.same {v:V} {p:Int×Int} (h:SpanV K H v p) (e:Same H H'):SpanV K H' v p:=let ⟨a,h1,h2⟩:=h;⟨a,h1,e.seqT h2⟩
theorem FleetAt.same {a:Addr} {fl:List Ship} (h:FleetAt K H a fl) (e:Same H H'):FleetAt K H' a fl:=let ⟨vs,h1,h2⟩:=h;⟨vs,e.seq h1,Paired.mapP h2 fun _ _ q=>q.same e⟩
theorem SpansAt.same {a:Addr} {sp:List (Int×Int)} (h:SpansAt K H a sp) (e:Same H H'):SpansAt K H' a sp:=let ⟨vs,h1,h2⟩:=h;⟨vs,e.seq h1,Paired.mapP h2 fun _ _ q=>q.same e⟩
theorem Paired.get {α β:Type} {F:α->β->Prop} {xs:List α} {ys:List β} {i:Nat} {x:α} (h:Paired F xs ys) (e:xs[i]?=some x):∃y,ys[i]?=some y/\F x y:=by
 induction h generalizing i with
 | nil=>rw [Kv] at e;cases e
 | cons r _ ih=>
   cases i with
   | zero=>cases e;exact ⟨_,rfl,r⟩
   | succ i=>exact ih (i:=i) e
theorem Paired.of {α β:Type} {F:α->β->Prop}:∀{xs:List α} {ys:List β},xs.length=ys.length->(∀(i:Nat) x y,xs[i]?=some x->ys[i]?=some y->F x y)->Paired F xs ys
 | [],[],_,_=>.nil
 | x::xs,y::ys,hl,h=>.cons (h 0 x y rfl rfl) (Paired.of (by simpa using hl) fun i a b e1 e2=>h (i+1) a b (by simpa using e1) (by simpa using e2))
 | [],y::ys,hl,_=>by simp at hl
 | x::xs,[],hl,_=>by simp at hl
theorem FleetAt.len {a:Addr} {fl:List Ship} {vs:List V} (h2:Paired (ShipV K H) vs fl):vs.length=fl.length:=Paired.length h2
end
end L2
namespace L2
open PySem PySem.Spec PyProof.Rows
set_option genInjectivity true in
inductive D where
 | int (i:Int) | bl (b:Bool) | non | str (x:Str) | lst (l:List D) | tup (l:List D)
 /-- the script -/
 | scr (ns:List Int)
 /-- a dict: tu keys, whole numbers, and what stands at each -/
 | dic (ks:List Int) (ds:List D)
theorem bind_some {α β:Type} {o:Option α} {f:α->Option β} {b:β} (h:o.bind f=some b):∃a,o=some a/\f a=some b:=by
 cases o with
 | none=>cases h
 | some a=>exact ⟨a,rfl,h⟩
theorem map_some {α β:Type} {o:Option α} {f:α->β} {b:β} (h:o.map f=some b):∃a,o=some a/\f a=b:=by
 cases o with
 | none=>cases h
 | some a=>exact ⟨a,rfl,Option.some.inj h⟩
theorem jlp {α β:Type} {f:α->β} {l:List α} {i:Int}:L2.atI (l.map f) i=(L2.atI l i).map f:=by
 unfold L2.atI;rw [Yc];cases ixN l.length i with
 | none=>rfl
 | some j=>simp
instance (i j:Int):Decidable (CMul i j):=inferInstanceAs (Decidable (_\/_))
def CMulB (i j:Int):Prop:=CMul i j\/(i.natAbs<2 ^ 400/\j.natAbs<2 ^ 400)
instance (i j:Int):Decidable (CMulB i j):=inferInstanceAs (Decidable (_\/_))
theorem CMulB.ok {i j:Int} (h:CMulB i j):IntMulOk i j:=by
 rcases h with h | ⟨h1,h2⟩
 . exact h.ok
 . exact IntMulOk.of_bits (Y2 (intBits_le h1) (by decide)) (Y2 (intBits_le h2) (by decide))
theorem jmz {X:Cx}:OpR X (binaryOp .Mult) (rI CMulB fun i j=>.int (i*j)):=opI fun _ _ _ _ _ _ _ hc q=>mul_int q hc.ok
class Fr where
 K:PySem.W.Frag
section
variable [Fr]
def qG:D->Bool
 | .lst _=>false
 | .tup _=>false
 | .scr _=>false
 | .dic _ _=>false
 | _=>true
def qZ (ks:List Int) (vs:List V):List (zw×V):=(ks.map Sum.inl).zip vs
mutual
/-- the value v stands for the data d in the heap G -/
inductive Rep (G:Hp):V->D->Prop where
 | int (i:Int):Rep G (.int i) (.int i)
 | bl (b:Bool):Rep G (.bl b) (.bl b)
 | non:Rep G .non .non
 | str (x:Str):Rep G (.str x) (.str x)
 | lst {a:Addr} {vs:List V} {ds:List D} (h:Rd G a (.lst vs)) (r:Reps G vs ds):Rep G (.ref a) (.lst ds)
 | tup {a:Addr} {vs:List V} {ds:List D} (h:G a=some (.tup vs)) (r:Reps G vs ds):Rep G (.ref a) (.tup ds)
 | scr {a:Addr} {ns:List Int} (h:Jn Fr.K G a (ns.map V.int)):Rep G (.ref a) (.scr ns)
 | dic {a:Addr} {o:Obj} {ks:List Int} {vs:List V} {ds:List D} (h:G a=some (.frz o (.dK (qZ ks vs)))) (hl:ks.length=vs.length) (r:Reps G vs ds):Rep G (.ref a) (.dic ks ds)
inductive Reps (G:Hp):List V->List D->Prop where
 | nil:Reps G [] []
 | cons {v:V} {d:D} {vs:List V} {ds:List D}:Rep G v d->Reps G vs ds->Reps G (v::vs) (d::ds)
end
theorem Rd.same {G H:Hp} {a:Addr} {u:HO} (e:Same G H) (h:Rd G a u):Rd H a u:=by
 rcases h with h | ⟨o,h⟩
 . exact .inl (e _ _ h)
 . exact .inr ⟨o,e _ _ h⟩
theorem Rep.mono {G G':Hp} (e:Same G G') {v:V} {d:D} (h:Rep G v d):Rep G' v d:=Rep.rec (motive_1:=fun v d _=>Rep G' v d) (motive_2:=fun vs ds _=>Reps G' vs ds) .int .bl .non .str (fun h _ i=>.lst (h.same e) i) (fun h _ i=>.tup (e _ _ h) i) (fun h=>.scr (e.seq h)) (fun h hl _ i=>.dic (e _ _ h) hl i) .nil (fun _ _ i j=>.cons i j) h
theorem Reps.ind {G:Hp} {P:List V->List D->Prop} (h0:P [] []) (h1:∀{v:V} {d:D} {vs:List V} {ds:List D},Rep G v d->Reps G vs ds->P vs ds->P (v::vs) (d::ds)) {vs:List V} {ds:List D} (h:Reps G vs ds):P vs ds:=Reps.rec (motive_1:=fun _ _ _=>True) (motive_2:=fun vs ds _=>P vs ds) (fun _=>trivial) (fun _=>trivial) trivial (fun _=>trivial) (fun _ _ _=>trivial) (fun _ _ _=>trivial) (fun _=>trivial) (fun _ _ _ _=>trivial) h0 (fun r t _ i=>h1 r t i) h
theorem Reps.mono {G G':Hp} (e:Same G G') {vs:List V} {ds:List D} (h:Reps G vs ds):Reps G' vs ds:=h.ind (P:=fun vs ds=>Reps G' vs ds) .nil fun r _ i=>.cons (r.mono e) i
theorem Rep.flat {G G':Hp} {v:V} {d:D} (h:Rep G v d) (f:qG d=true):Rep G' v d:=by
 cases h with
 | int i=>exact .int i
 | bl i=>exact .bl i
 | non=>exact .non
 | str i=>exact .str i
 | lst h r=>cases f
 | tup h r=>cases f
 | scr h=>cases f
 | dic h hl r=>cases f
section
variable {G G':Hp} {vs us:List V} {ds es:List D} {v:V} {d:D}
theorem Reps.length {vs:List V} {ds:List D} (h:Reps G vs ds):vs.length=ds.length:=h.ind (P:=fun vs ds=>vs.length=ds.length) rfl fun _ _ i=>congrArg (· + 1) i
theorem Reps.get {vs:List V} {ds:List D} {i:Nat} {d:D} (h:Reps G vs ds):ds[i]?=some d->∃v,vs[i]?=some v/\Rep G v d:=
 h.ind (P:=fun vs ds=>∀i d,ds[i]?=some d->∃v,vs[i]?=some v/\Rep G v d) (fun _ _ e=>by rw [Kv] at e;cases e) (fun r _ ih i _ e=>by
  cases i with
  | zero=>cases e;exact ⟨_,rfl,r⟩
  | succ i=>exact ih i _ e) i d
theorem Reps.getV {vs:List V} {ds:List D} {i:Nat} {v:V} (h:Reps G vs ds):vs[i]?=some v->∃d,ds[i]?=some d/\Rep G v d:=
 h.ind (P:=fun vs ds=>∀i v,vs[i]?=some v->∃d,ds[i]?=some d/\Rep G v d) (fun _ _ e=>by rw [Kv] at e;cases e) (fun r _ ih i _ e=>by
  cases i with
  | zero=>cases e;exact ⟨_,rfl,r⟩
  | succ i=>exact ih i _ e) i v
theorem Reps.append {vs us:List V} {ds es:List D} (h:Reps G vs ds) (s:Reps G us es):Reps G (vs++us) (ds++es):=h.ind (P:=fun vs ds=>Reps G (vs++us) (ds++es)) s fun r _ i=>.cons r i
theorem Reps.snoc (r:Reps G vs ds) (q:Rep G v d):Reps G (vs++[v]) (ds++[d]):=r.append (.cons q .nil)
theorem Reps.set (q:Rep G v d) {vs:List V} {ds:List D} (i:Nat) (h:Reps G vs ds):Reps G (vs.set i v) (ds.set i d):=
 h.ind (P:=fun vs ds=>∀i,Reps G (vs.set i v) (ds.set i d)) (fun _=>.nil) (fun r t ih i=>by
  cases i with
  | zero=>exact .cons q t
  | succ i=>exact .cons r (ih i)) i
theorem Reps.take {vs:List V} {ds:List D} (n:Nat) (h:Reps G vs ds):Reps G (vs.take n) (ds.take n):=
 h.ind (P:=fun vs ds=>∀n,Reps G (vs.take n) (ds.take n)) (fun n=>by cases n <;> exact .nil) (fun r t ih n=>by
  cases n with
  | zero=>exact .nil
  | succ n=>exact .cons r (ih n)) n
theorem Reps.drop {vs:List V} {ds:List D} (n:Nat) (h:Reps G vs ds):Reps G (vs.drop n) (ds.drop n):=
 h.ind (P:=fun vs ds=>∀n,Reps G (vs.drop n) (ds.drop n)) (fun n=>by cases n <;> exact .nil) (fun r t ih n=>by
  cases n with
  | zero=>exact .cons r t
  | succ n=>exact ih n) n
theorem Reps.reverse (h:Reps G vs ds):Reps G vs.reverse ds.reverse:=h.ind (P:=fun vs ds=>Reps G vs.reverse ds.reverse) .nil fun r _ i=>by rw [List.reverse_cons,List.reverse_cons];exact i.snoc r
theorem Reps.one_inv {vs:List V} {d:D} {ds:List D} (h:Reps G vs (d::ds)):∃v us,vs=v::us/\Rep G v d/\Reps G us ds:=by cases h with | cons r t=>exact ⟨_,_,rfl,r,t⟩
theorem Reps.ints {ns:List Int} {vs:List V} (h:Reps G vs (ns.map D.int)):vs=ns.map V.int:=by
 induction ns generalizing vs with
 | nil=>cases h;rfl
 | cons n ns ih=>obtain ⟨v,us,rfl,r,t⟩:=h.one_inv;cases r;rw [ih t];rfl
theorem Reps.of_ints:∀(ns:List Int),Reps G (ns.map V.int) (ns.map D.int)
 | []=>.nil
 | n::ns=>.cons (.int n) (Reps.of_ints ns)
theorem Reps.bls {ns:List Bool} {vs:List V} (h:Reps G vs (ns.map D.bl)):vs=ns.map V.bl:=by
 induction ns generalizing vs with
 | nil=>cases h;rfl
 | cons n ns ih=>obtain ⟨v,us,rfl,r,t⟩:=h.one_inv;cases r;rw [ih t];rfl
end
inductive RepT (G H:Hp):V->D->Prop where
 | int (i:Int):RepT G H (.int i) (.int i)
 | bl (b:Bool):RepT G H (.bl b) (.bl b)
 | non:RepT G H .non .non
 | str (x:Str):RepT G H (.str x) (.str x)
 | lst {a:Addr} {vs:List V} {ds:List D} (h:Rd H a (.lst vs)) (r:Reps G vs ds):RepT G H (.ref a) (.lst ds)
 | tup {a:Addr} {vs:List V} {ds:List D} (h:H a=some (.tup vs)) (r:Reps G vs ds):RepT G H (.ref a) (.tup ds)
 | scr {a:Addr} {ns:List Int} (h:Jn Fr.K H a (ns.map V.int)):RepT G H (.ref a) (.scr ns)
 | dic {a:Addr} {ks:List Int} {vs:List V} {ds:List D} (h:Rd H a (.dK (qZ ks vs))) (hl:ks.length=vs.length) (r:Reps G vs ds):RepT G H (.ref a) (.dic ks ds)
inductive RepTs (G H:Hp):List V->List D->Prop where
 | nil:RepTs G H [] []
 | cons {v:V} {d:D} {vs:List V} {ds:List D}:RepT G H v d->RepTs G H vs ds->RepTs G H (v::vs) (d::ds)
theorem Rep.top {G H:Hp} {v:V} {d:D} (h:Rep G v d) (e:Same G H):RepT G H v d:=by
 cases h with
 | int i=>exact .int i
 | bl i=>exact .bl i
 | non=>exact .non
 | str i=>exact .str i
 | lst h r=>exact .lst (h.same e) r
 | tup h r=>exact .tup (e _ _ h) r
 | scr h=>exact .scr (e.seq h)
 | dic h hl r=>exact .dic (.inr ⟨_,e _ _ h⟩) hl r
theorem RepT.of_int {G H:Hp} {v:V} {i:Int} (h:RepT G H v (.int i)):v=.int i:=by cases h;rfl
theorem RepT.of_bl {G H:Hp} {v:V} {i:Bool} (h:RepT G H v (.bl i)):v=.bl i:=by cases h;rfl
theorem RepT.of_non {G H:Hp} {v:V} (h:RepT G H v .non):v=.non:=by cases h;rfl
theorem RepT.of_str {G H:Hp} {v:V} {i:Str} (h:RepT G H v (.str i)):v=.str i:=by cases h;rfl
theorem RepT.of_lst {G H:Hp} {v:V} {ds:List D} (h:RepT G H v (.lst ds)):∃a vs,v=.ref a/\Rd H a (.lst vs)/\Reps G vs ds:=by cases h;exact ⟨_,_,rfl,by assumption,by assumption⟩
theorem RepT.of_tup {G H:Hp} {v:V} {ds:List D} (h:RepT G H v (.tup ds)):∃a vs,v=.ref a/\H a=some (.tup vs)/\Reps G vs ds:=by cases h;exact ⟨_,_,rfl,by assumption,by assumption⟩
theorem RepT.of_scr {G H:Hp} {v:V} {ns:List Int} (h:RepT G H v (.scr ns)):∃a,v=.ref a/\Jn Fr.K H a (ns.map V.int):=by cases h;exact ⟨_,rfl,by assumption⟩
theorem RepT.of_dic {G H:Hp} {v:V} {ks:List Int} {ds:List D} (h:RepT G H v (.dic ks ds)):∃a vs,v=.ref a/\Rd H a (.dK (qZ ks vs))/\ks.length=vs.length/\Reps G vs ds:=by cases h;exact ⟨_,_,rfl,by assumption,by assumption,by assumption⟩
theorem Rep.tt {G:Hp} {v:V} {d:D} (h:Rep G v d):RepT G G v d:=h.top fun _ _ e=>e
theorem Rep.of_int {G:Hp} {v:V} {i:Int} (h:Rep G v (.int i)):v=.int i:=h.tt.of_int
theorem Rep.of_lst {G:Hp} {v:V} {ds:List D} (h:Rep G v (.lst ds)):∃a vs,v=.ref a/\Rd G a (.lst vs)/\Reps G vs ds:=h.tt.of_lst
theorem Rep.of_tup {G:Hp} {v:V} {ds:List D} (h:Rep G v (.tup ds)):∃a vs,v=.ref a/\G a=some (.tup vs)/\Reps G vs ds:=h.tt.of_tup
theorem RepT.mono {G H G' H':Hp} {v:V} {d:D} (h:RepT G H v d) (e:Same G G') (e':Same H H'):RepT G' H' v d:=by
 cases h with
 | int i=>exact .int i
 | bl i=>exact .bl i
 | non=>exact .non
 | str i=>exact .str i
 | lst h r=>exact .lst (h.same e') (r.mono e)
 | tup h r=>exact .tup (e' _ _ h) (r.mono e)
 | scr h=>exact .scr (e'.seq h)
 | dic h hl r=>exact .dic (h.same e') hl (r.mono e)
theorem RepTs.mono {G H G' H':Hp} (e:Same G G') (e':Same H H') {vs:List V} {ds:List D} (h:RepTs G H vs ds):RepTs G' H' vs ds:=by
 induction h with
 | nil=>exact .nil
 | cons r _ ih=>exact .cons (r.mono e e') ih
structure Ext (G H G' H':Hp):Prop where
 hh:Same H H'
 gg:Same G G'
 gh:Same G' H'
 nw:∀a o,G' a=some o->G a=some o\/H a=none
section
variable {G H G' H' G'' H'':Hp} {a:Addr} {o:HO}
theorem Ext.refl (h:Same G H):Ext G H G H:=⟨.refl _,.refl _,h,fun _ _ e=>.inl e⟩
theorem Ext.trans (x:Ext G H G' H') (y:Ext G' H' G'' H''):Ext G H G'' H'':=
 ⟨x.hh.trans y.hh,x.gg.trans y.gg,y.gh,fun a o e=>by
  rcases y.nw a o e with z | z
  . exact x.nw a o z
  . exact .inr (x.hh.free z)⟩
theorem Ext.new (h:Same G H) (hn:H a=none):Ext G H G (upd H a o):=⟨.upd hn,.refl _,fun b u e=>by rw [jC (jG (h b u e) hn)];exact h b u e,fun _ _ e=>.inl e⟩
theorem Ext.freeze (x:Ext G H G' H') (hn:H a=none) (hg:G' a=none) (ho:H' a=some o):Ext G H (upd G' a o) H':=
 ⟨x.hh,x.gg.trans (.upd hg),fun b u e=>by
  by_cases hb:b=a
  . subst hb;rw [jB] at e;cases e;exact ho
  . rw [jC hb] at e;exact x.gh b u e,fun b u e=>by
  by_cases hb:b=a
  . subst hb;exact .inr hn
  . rw [jC hb] at e;exact x.nw b u e⟩
theorem Ext.gone (x:Ext G H G' H') (hg:G a=none) (hh:H a=some o):G' a=none:=by
 cases e:G' a with
 | none=>rfl
 | some u=>
   rcases x.nw a u e with z | z
   . rw [hg] at z;cases z
   . rw [hh] at z;cases z
end
inductive Slot where
 | un | sh (d:D) | ow (ds:List D)
 /-- a dict of one's own -/
 | od (ks:List Int) (ds:List D)
 /-- a list of one's own, of lists of one's own -/
 | oo (dss:List (List D))
abbrev Env:=List Slot
abbrev ee:=L2.Env
inductive Rows (G H:Hp):List Addr->List (List D)->Prop where
 | nil:Rows G H [] []
 | cons {b:Addr} {us:List V} {ds:List D} {bs:List Addr} {dss:List (List D)} (h:H b=some (.lst us)) (r:Reps G us ds) (t:Rows G H bs dss):Rows G H (b::bs) (ds::dss)
def Qr (H:Hp):Option V->Slot->Addr->Prop
 | some (.ref a),.ow _,b=>b=a
 | some (.ref a),.od _ _,b=>b=a
 | some (.ref a),.oo _,b=>b=a\/∃vs,H a=some (.lst vs)/\V.ref b∈vs
 | _,_,_=>False
inductive SlotOk (H0 G H:Hp):Option V->Slot->Prop where
 | un (o:Option V):SlotOk H0 G H o .un
 | sh {v:V} {d:D} (r:Rep G v d):SlotOk H0 G H (some v) (.sh d)
 | ow {a:Addr} {vs:List V} {ds:List D} (h0:H0 a=none) (hg:G a=none) (h:H a=some (.lst vs)) (r:Reps G vs ds):SlotOk H0 G H (some (.ref a)) (.ow ds)
 | od {a:Addr} {ks:List Int} {vs:List V} {ds:List D} (h0:H0 a=none) (hg:G a=none) (h:H a=some (.dK (qZ ks vs))) (hl:ks.length=vs.length) (r:Reps G vs ds):SlotOk H0 G H (some (.ref a)) (.od ks ds)
 | oo {a:Addr} {bs:List Addr} {dss:List (List D)} (h:H a=some (.lst (bs.map V.ref))) (nd:(a::bs).Nodup) (own:∀b∈a::bs,H0 b=none/\G b=none) (rows:Rows G H bs dss):SlotOk H0 G H (some (.ref a)) (.oo dss)
structure EnvOk (G0 H0 G H:Hp) (σ:St) (ρ:ee):Prop where
 ext:Ext G0 H0 G H
 len:σ.length=ρ.length
 slot:∀(i:Nat) o s,σ[i]?=some o->ρ[i]?=some s->SlotOk H0 G H o s
 dist:∀(i j:Nat) o o' s s' b,σ[i]?=some o->ρ[i]?=some s->σ[j]?=some o'->ρ[j]?=some s'->Qr H o s b->Qr H o' s' b->i=j
section
variable {G0 H0 G H G' H':Hp} {σ:St} {ρ:ee} {i:Nat} {d:D} {ds:List D} {v:V} {vs:List V} {a:Addr}
theorem Rows.there {bs:List Addr} {dss:List (List D)} (h:Rows G H bs dss):∀b∈bs,∃us,H b=some (.lst us):=by
 induction h with
 | nil=>intro b hb;cases hb
 | cons h r t ih=>
   intro b hb;rcases Yq.mp hb with rfl | hb
   . exact ⟨_,h⟩
   . exact ih b hb
theorem Rows.keep {bs:List Addr} {dss:List (List D)} (h:Rows G H bs dss) (gg:Same G G') (k:∀b∈bs,H' b=H b):Rows G' H' bs dss:=by
 induction h with
 | nil=>exact .nil
 | cons h r t ih=>exact .cons (by rw [k _ Yf];exact h) (r.mono gg) (ih fun b hb=>k b (Yj _ hb))
theorem Rows.length {bs:List Addr} {dss:List (List D)} (h:Rows G H bs dss):bs.length=dss.length:=by
 induction h with
 | nil=>rfl
 | cons h r t ih=>simp [ih]
theorem Rows.get {bs:List Addr} {dss:List (List D)} (h:Rows G H bs dss):∀{j:Nat} {ds:List D},dss[j]?=some ds->∃b us,bs[j]?=some b/\H b=some (.lst us)/\Reps G us ds:=by
 induction h with
 | nil=>intro j ds e;simp at e
 | cons h r t ih=>
   intro j ds e;cases j with
   | zero=>simp at e;subst e;exact ⟨_,_,rfl,h,r⟩
   | succ j=>obtain ⟨b,us,h1,h2,h3⟩:=ih (j:=j) (ds:=ds) (by simpa using e);exact ⟨b,us,by simpa using h1,h2,h3⟩
theorem Rows.put {bs:List Addr} {dss:List (List D)} {us:List V} (h:Rows G H bs dss) (r:Reps G us ds):∀{j:Nat} {b:Addr},bs.Nodup->bs[j]?=some b->Rows G (upd H b (.lst us)) bs (dss.set j ds):=by
 induction h with
 | nil=>intro j b _ e;simp at e
 | @cons c us' ds' bs dss h q t ih=>
   intro j b nd e;have nd':=ye.mp nd;cases j with
   | zero=>simp at e;subst e;exact .cons jB r (t.keep (.refl _) fun b' hb'=>jC fun z=>nd'.1 (z ▸ hb'))
   | succ j=>
     have e':bs[j]?=some b:=by simpa using e
     have hb:c≠b:=fun z=>nd'.1 (z ▸ YE e');exact .cons (by rw [jC hb];exact h) q (ih nd'.2 e')
theorem Rows.frozen {bs:List Addr} {dss:List (List D)} (h:Rows G H bs dss) (gg:Same G G') (k:∀b∈bs,G' b=H b):Reps G' (bs.map V.ref) (dss.map D.lst):=by
 induction h with
 | nil=>exact .nil
 | cons h r t ih=>exact .cons (.lst (.inl ((k _ Yf).trans h)) (r.mono gg)) (ih fun b hb=>k b (Yj _ hb))
theorem EnvOk.same (e:EnvOk G0 H0 G H σ ρ):Same G H:=e.ext.gh
theorem SlotOk.foot {o:Option V} {s:Slot} {b:Addr} (h:SlotOk H0 G H o s) (f:Qr H o s b):H0 b=none/\G b=none/\∃u,H b=some u:=by
 cases h with
 | un=>cases o with | none=>exact f.elim | some v=>cases v <;> exact f.elim
 | @sh v d r=>cases v <;> exact f.elim
 | ow h0 hg h r=>cases (show b=_ from f);exact ⟨h0,hg,_,h⟩
 | od h0 hg h hl r=>cases (show b=_ from f);exact ⟨h0,hg,_,h⟩
 | @oo a bs dss h nd own rows=>
   have f':b=a\/∃vs,H a=some (.lst vs)/\V.ref b∈vs:=f;rcases f' with rfl | ⟨vs,q,hb⟩
   . exact ⟨(own b Yf).1,(own b Yf).2,_,h⟩
   . rw [h] at q;cases q;obtain ⟨c,hc,e⟩:=Y3.mp hb;injection e with e;subst e;obtain ⟨us,hu⟩:=rows.there c hc;exact ⟨(own c (Yj _ hc)).1,(own c (Yj _ hc)).2,_,hu⟩
theorem JK {bs:List Addr} {dss:List (List D)} {b:Addr} (h:H a=some (.lst (bs.map V.ref))):Qr H (some (.ref a)) (.oo dss) b ↔ b∈a::bs:=by
 show (b=a\/∃vs,H a=some (.lst vs)/\V.ref b∈vs) ↔ _;rw [Yq];constructor
 . rintro (z | ⟨vs,q,hb⟩)
   . exact .inl z
   . rw [h] at q;cases q;obtain ⟨c,hc,e⟩:=Y3.mp hb;injection e with e;subst e;exact .inr hc
 . rintro (z | z)
   . exact .inl z
   . exact .inr ⟨_,h,kb z⟩
theorem SlotOk.keep {o:Option V} {s:Slot} (h:SlotOk H0 G H o s) (gg:Same G G') (k:∀b,Qr H o s b->H' b=H b/\G' b=none):SlotOk H0 G' H' o s/\∀b,Qr H' o s b->Qr H o s b:=by
 cases h with
 | un=>exact ⟨.un _,fun b f=>by cases o with | none=>exact f.elim | some v=>cases v <;> exact f.elim⟩
 | @sh v d r=>exact ⟨.sh (r.mono gg),fun b f=>by cases v <;> exact f.elim⟩
 | @ow a vs ds h0 hg h r=>have q:=k a rfl;exact ⟨.ow h0 q.2 (by rw [q.1];exact h) (r.mono gg),fun b f=>f⟩
 | @od a ks vs ds h0 hg h hl r=>have q:=k a rfl;exact ⟨.od h0 q.2 (by rw [q.1];exact h) hl (r.mono gg),fun b f=>f⟩
 | @oo a bs dss h nd own rows=>
   have h':H' a=some (.lst (bs.map V.ref)):=by rw [(k a (.inl rfl)).1];exact h
   refine ⟨.oo h' nd (fun b hb=>⟨(own b hb).1,(k b ((JK h).mpr hb)).2⟩) (rows.keep gg fun b hb=>(k b ((JK h).mpr (Yj _ hb))).1),fun b f=>?_⟩;exact (JK h).mpr ((JK h').mp f)
theorem EnvOk.grow (e:EnvOk G0 H0 G H σ ρ) (x:Ext G H G' H'):EnvOk G0 H0 G' H' σ ρ:=by
 have key:∀(i:Nat) o s,σ[i]?=some o->ρ[i]?=some s->_:=fun i o s h1 h2=>(e.slot i o s h1 h2).keep (H':=H') x.gg fun b f=>by obtain ⟨_,g,u,hu⟩:=(e.slot i o s h1 h2).foot f;exact ⟨by rw [hu];exact x.hh _ _ hu,x.gone g hu⟩
 exact ⟨e.ext.trans x,e.len,fun i o s h1 h2=>(key i o s h1 h2).1,fun i j o o' s s' b h1 h2 h3 h4 f f'=>e.dist i j o o' s s' b h1 h2 h3 h4 ((key i o s h1 h2).2 b f) ((key j o' s' h3 h4).2 b f')⟩
theorem EnvOk.at {s:Slot} (e:EnvOk G0 H0 G H σ ρ) (h:ρ[i]?=some s):∃o,σ[i]?=some o/\SlotOk H0 G H o s:=by
 have hi:i<σ.length:=by rw [e.len];exact (Yh.mp h).1
 exact ⟨σ[i],Ya hi,e.slot i _ _ (Ya hi) h⟩
theorem EnvOk.sh (e:EnvOk G0 H0 G H σ ρ) (h:ρ[i]?=some (.sh d)):∃v,σ[i]?=some (some v)/\Rep G v d:=by
 obtain ⟨o,h1,h2⟩:=e.at h;cases h2 with
 | sh r=>exact ⟨_,h1,r⟩
theorem EnvOk.ow (e:EnvOk G0 H0 G H σ ρ) (h:ρ[i]?=some (.ow ds)):∃a vs,σ[i]?=some (some (.ref a))/\H0 a=none/\G a=none/\H a=some (.lst vs)/\Reps G vs ds:=by
 obtain ⟨o,h1,h2⟩:=e.at h;cases h2 with
 | ow h0 hg h r=>exact ⟨_,_,h1,h0,hg,h,r⟩
theorem EnvOk.od {ks:List Int} (e:EnvOk G0 H0 G H σ ρ) (h:ρ[i]?=some (.od ks ds)):∃a vs,σ[i]?=some (some (.ref a))/\H0 a=none/\G a=none/\H a=some (.dK (qZ ks vs))/\ks.length=vs.length/\Reps G vs ds:=by
 obtain ⟨o,h1,h2⟩:=e.at h;cases h2 with
 | od h0 hg h hl r=>exact ⟨_,_,h1,h0,hg,h,hl,r⟩
theorem EnvOk.oo {dss:List (List D)} (e:EnvOk G0 H0 G H σ ρ) (h:ρ[i]?=some (.oo dss)):∃a bs,σ[i]?=some (some (.ref a))/\H a=some (.lst (bs.map V.ref))/\(a::bs).Nodup/\(∀b∈a::bs,H0 b=none/\G b=none)/\Rows G H bs dss:=by
 obtain ⟨o,h1,h2⟩:=e.at h;cases h2 with
 | oo h nd own rows=>exact ⟨_,_,h1,h,nd,own,rows⟩
theorem EnvOk.change {o':Option V} {s':Slot} (e:EnvOk G0 H0 G H σ ρ) (x:Ext G0 H0 G' H') (gg:Same G G')
 (keep:∀j,j≠i->∀o s,σ[j]?=some o->ρ[j]?=some s->∀b,Qr H o s b->H' b=H b/\G' b=none) (new:SlotOk H0 G' H' o' s')
 (foot:∀b,Qr H' o' s' b->H b=none\/∃o s,σ[i]?=some o/\ρ[i]?=some s/\Qr H o s b):EnvOk G0 H0 G' H' (σ.set i o') (ρ.set i s'):=by
 have key:∀(j:Nat) o s,j≠i->σ[j]?=some o->ρ[j]?=some s->_:=fun j o s hj h1 h2=>(e.slot j o s h1 h2).keep (H':=H') gg (keep j hj o s h1 h2);have at_i:∀o s,(σ.set i o')[i]?=some o->(ρ.set i s')[i]?=some s->o=o'/\s=s':=fun o s h1 h2=>by rw [KZ] at h1 h2;simp at h1 h2;exact ⟨h1.2.symm,h2.2.symm⟩
 refine ⟨x,by simp [e.len],fun j o s h1 h2=>?_,fun j k o p s t b h1 h2 h3 h4 f g=>?_⟩
 . by_cases hj:i=j
   . subst hj;obtain ⟨rfl,rfl⟩:=at_i o s h1 h2;exact new
   . rw [YQ hj] at h1 h2;exact (key j o s (Ne.symm hj) h1 h2).1
 . have other:∀(m:Nat) q u,i≠m->(σ.set i o')[m]?=some q->(ρ.set i s')[m]?=some u->Qr H' q u b->Qr H' o' s' b->False:=fun m q u hm g1 g2 f1 f2=>by
    rw [YQ hm] at g1 g2;have f1':=(key m q u (Ne.symm hm) g1 g2).2 b f1;obtain ⟨_,_,w,hw⟩:=(e.slot m q u g1 g2).foot f1';rcases foot b f2 with z | ⟨o2,s2,z1,z2,z3⟩
    . rw [hw] at z;cases z
    . exact hm (e.dist i m _ _ _ _ b z1 z2 g1 g2 z3 f1')
   by_cases hj:i=j
   . by_cases hk:i=k
     . exact hj.symm.trans hk
     . subst hj;obtain ⟨rfl,rfl⟩:=at_i o s h1 h2;exact (other k p t hk h3 h4 g f).elim
   . by_cases hk:i=k
     . subst hk;obtain ⟨rfl,rfl⟩:=at_i p t h3 h4;exact (other j o s hj h1 h2 f g).elim
     . rw [YQ hj] at h1 h2;rw [YQ hk] at h3 h4;exact e.dist j k o p s t b h1 h2 h3 h4 ((key j o s (Ne.symm hj) h1 h2).2 b f) ((key k p t (Ne.symm hk) h3 h4).2 b g)
theorem EnvOk.stay (e:EnvOk G0 H0 G H σ ρ):∀j,j≠i->∀o s,σ[j]?=some o->ρ[j]?=some s->∀b,Qr H o s b->H b=H b/\G b=none:=fun j _ o s h1 h2 b f=>⟨rfl,((e.slot j o s h1 h2).foot f).2.1⟩
theorem EnvOk.set (e:EnvOk G0 H0 G H σ ρ) (r:Rep G v d):EnvOk G0 H0 G H (σ.set i (some v)) (ρ.set i (.sh d)):=e.change e.ext (.refl _) e.stay (.sh r) fun b f=>by cases v <;> exact f.elim
theorem EnvOk.fresh (e:EnvOk G0 H0 G H σ ρ) (x:Ext G H G' H') {o':Option V} {s':Slot} (new:SlotOk H0 G' H' o' s') (foot:∀b,Qr H' o' s' b->H b=none):EnvOk G0 H0 G' H' (σ.set i o') (ρ.set i s'):=
 e.change (e.ext.trans x) x.gg (fun j _ o s h1 h2 b f=>by obtain ⟨_,g,u,hu⟩:=(e.slot j o s h1 h2).foot f;exact ⟨by rw [hu];exact x.hh _ _ hu,x.gone g hu⟩) new fun b f=>.inl (foot b f)
theorem EnvOk.setO (e:EnvOk G0 H0 G H σ ρ) (x:Ext G H G' H') (hn:H a=none) (hg:G' a=none) (h:H' a=some (.lst vs)) (r:Reps G' vs ds):EnvOk G0 H0 G' H' (σ.set i (some (.ref a))) (ρ.set i (.ow ds)):=e.fresh x (.ow (e.ext.hh.free hn) hg h r) fun b f=>by cases (show b=a from f);exact hn
theorem EnvOk.setD {ks:List Int} (e:EnvOk G0 H0 G H σ ρ) (x:Ext G H G' H') (hn:H a=none) (hg:G' a=none) (h:H' a=some (.dK (qZ ks vs))) (hl:ks.length=vs.length) (r:Reps G' vs ds):EnvOk G0 H0 G' H' (σ.set i (some (.ref a))) (ρ.set i (.od ks ds)):=e.fresh x (.od (e.ext.hh.free hn) hg h hl r) fun b f=>by cases (show b=a from f);exact hn
theorem EnvOk.setOO {bs:List Addr} {dss:List (List D)} (e:EnvOk G0 H0 G H σ ρ) (x:Ext G H G' H') (hn:∀b∈a::bs,H b=none/\G' b=none) (nd:(a::bs).Nodup) (h:H' a=some (.lst (bs.map V.ref))) (r:Rows G' H' bs dss):EnvOk G0 H0 G' H' (σ.set i (some (.ref a))) (ρ.set i (.oo dss)):=e.fresh x (.oo h nd (fun b hb=>⟨e.ext.hh.free (hn b hb).1,(hn b hb).2⟩) r) fun b f=>(hn b ((JK h).mp f)).1
theorem EnvOk.write {u:HO} {o:Option V} {s s':Slot} (e:EnvOk G0 H0 G H σ ρ) (h1:ρ[i]?=some s) (h2:σ[i]?=some o) (f:Qr H o s a) (new:SlotOk H0 G (upd H a u) o s') (foot:∀b,Qr (upd H a u) o s' b->Qr H o s b):EnvOk G0 H0 G (upd H a u) σ (ρ.set i s'):=by
 obtain ⟨q1,q2,_⟩:=(e.slot i o s h2 h1).foot f;have hi:i<σ.length:=(Yh.mp h2).1;have key:=e.change (i:=i) (o':=o) (s':=s') (G':=G) (H':=upd H a u) ⟨fun b o z=>by rw [jC (jG z q1)];exact e.ext.hh b o z,e.ext.gg,fun b o z=>by rw [jC (jG z q2)];exact e.ext.gh b o z,e.ext.nw⟩ (.refl _)
  (fun j hj o' s' g1 g2 b f'=>by
   have hb:b≠a:=fun z=>by subst z;exact hj (e.dist j i _ _ _ _ b g1 g2 h2 h1 f' f)
   exact ⟨jC hb,((e.slot j o' s' g1 g2).foot f').2.1⟩) new fun b f'=>.inr ⟨o,s,h2,h1,foot b f'⟩
 have e':σ.set i o=σ:=by
  refine Kw fun j=>?_;by_cases hj:i=j
  . subst hj;rw [Y1 hi,h2]
  . rw [YQ hj]
 rw [e'] at key;exact key
theorem EnvOk.put (e:EnvOk G0 H0 G H σ ρ) (h1:ρ[i]?=some (.ow ds)) (h2:σ[i]?=some (some (.ref a))) {es:List D} (r:Reps G vs es):EnvOk G0 H0 G (upd H a (.lst vs)) σ (ρ.set i (.ow es)):=by obtain ⟨b,us,q1,q2,q3,q4,q5⟩:=e.ow h1;rw [h2] at q1;cases q1;exact e.write h1 h2 rfl (.ow q2 q3 jB r) fun b f=>f
theorem EnvOk.putD {ks ls:List Int} (e:EnvOk G0 H0 G H σ ρ) (h1:ρ[i]?=some (.od ks ds)) (h2:σ[i]?=some (some (.ref a))) {es:List D} (hl:ls.length=vs.length) (r:Reps G vs es):EnvOk G0 H0 G (upd H a (.dK (qZ ls vs))) σ (ρ.set i (.od ls es)):=by obtain ⟨b,us,q1,q2,q3,q4,_,q5⟩:=e.od h1;rw [h2] at q1;cases q1;exact e.write h1 h2 rfl (.od q2 q3 jB hl r) fun b f=>f
theorem EnvOk.putOO {dss:List (List D)} {bs:List Addr} {j:Nat} {b:Addr} (e:EnvOk G0 H0 G H σ ρ) (h1:ρ[i]?=some (.oo dss)) (h2:σ[i]?=some (some (.ref a))) (h3:H a=some (.lst (bs.map V.ref))) (hb:bs[j]?=some b) (r:Reps G vs ds):EnvOk G0 H0 G (upd H b (.lst vs)) σ (ρ.set i (.oo (dss.set j ds))):=by
 obtain ⟨a',bs',q1,q2,q3,q4,q5⟩:=e.oo h1;rw [h2] at q1;cases q1;rw [h3] at q2;have ebs:bs'=bs:=by have:=HO.lst.inj (Option.some.inj q2);exact ((List.map_inj_right (f:=V.ref) fun x y z=>V.ref.inj z).mp this).symm
 subst ebs;have nd':=ye.mp q3;have hm:=YE hb;have hab:a≠b:=fun z=>nd'.1 (z ▸ hm);have h3':upd H b (.lst vs) a=some (.lst (bs'.map V.ref)):=by rw [jC hab];exact h3
 exact e.write h1 h2 ((JK h3).mpr (Yj _ hm)) (.oo h3' q3 q4 (q5.put r nd'.2 hb)) fun c f=>(JK h3).mpr ((JK h3').mp f)
def frz (i:Nat) (ρ:ee):ee:=match ρ[i]? with
 | some (.ow ds)=>ρ.set i (.sh (.lst ds))
 | some (.oo dss)=>ρ.set i (.sh (.lst (dss.map .lst)))
 | _=>ρ
theorem EnvOk.let {o:Option V} {s s':Slot} (e:EnvOk G0 H0 G H σ ρ) (h1:ρ[i]?=some s) (h2:σ[i]?=some o) (gg:Same G G') (gh:Same G' H) (nw:∀b u,G' b=some u->G b=some u\/Qr H o s b)
 (new:SlotOk H0 G' H o s') (foot:∀b,Qr H o s' b->Qr H o s b):EnvOk G0 H0 G' H σ (ρ.set i s'):=by
 have hi:i<σ.length:=(Yh.mp h2).1;have key:=e.change (i:=i) (o':=o) (s':=s') (G':=G') (H':=H) ⟨e.ext.hh,e.ext.gg.trans gg,gh,fun b u z=>by
  rcases nw b u z with w | w
  . exact e.ext.nw b u w
  . exact .inr ((e.slot i o s h2 h1).foot w).1⟩ gg
  (fun j hj o' s' g1 g2 b f'=>⟨rfl,by
   obtain ⟨_,g,_⟩:=(e.slot j o' s' g1 g2).foot f';cases q:G' b with
   | none=>rfl
   | some u=>
     rcases nw b u q with w | w
     . rw [g] at w;cases w
     . exact (hj (e.dist j i _ _ _ _ b g1 g2 h2 h1 f' w)).elim⟩) new fun b f'=>.inr ⟨o,s,h2,h1,foot b f'⟩
 have e':σ.set i o=σ:=by
  refine Kw fun j=>?_;by_cases hj:i=j
  . subst hj;rw [Y1 hi,h2]
  . rw [YQ hj]
 rw [e'] at key;exact key
theorem joV {u w:HO} {b:Addr} (h:upd G a u b=some w):G b=some w\/b=a:=by
 by_cases hb:b=a
 . exact .inr hb
 . rw [jC hb] at h;exact .inl h
theorem jn2 {u:HO} (s:Same G H) (h:H a=some u):Same (upd G a u) H:=fun b w e=>by
 by_cases hb:b=a
 . subst hb;rw [jB] at e;cases e;exact h
 . rw [jC hb] at e;exact s b w e
theorem EnvOk.freeze (e:EnvOk G0 H0 G H σ ρ) (h1:ρ[i]?=some (.ow ds)) (h2:σ[i]?=some (some (.ref a))) (h3:H a=some (.lst vs)) (h4:Reps G vs ds):EnvOk G0 H0 (upd G a (.lst vs)) H σ (ρ.set i (.sh (.lst ds))):=by obtain ⟨b,us,q1,q2,q3,q4,q5⟩:=e.ow h1;rw [h2] at q1;cases q1;have up:Same G (upd G a (.lst vs)):=.upd q3;exact e.let h1 h2 up (jn2 e.same h3) (fun b u z=>joV z) (.sh (.lst (.inl jB) (h4.mono up))) fun b f=>f.elim
open Classical in
/-- the heap with more of it known -/
def more (G H:Hp) (bs:List Addr):Hp:=fun b=>if b∈bs then H b else G b
theorem jb4 {bs:List Addr} {b:Addr} (h:b∈bs):more G H bs b=H b:=if_pos h
theorem JW {bs:List Addr} {b:Addr} (h:b∉bs):more G H bs b=G b:=if_neg h
theorem jbk {bs:List Addr} (s:Same G H):Same G (more G H bs)/\Same (more G H bs) H:=by
 refine ⟨fun b u e=>?_,fun b u e=>?_⟩
 . by_cases hb:b∈bs
   . rw [jb4 hb];exact s b u e
   . rw [JW hb];exact e
 . by_cases hb:b∈bs
   . rw [jb4 hb] at e;exact e
   . rw [JW hb] at e;exact s b u e
theorem EnvOk.half {dss:List (List D)} {bs:List Addr} (e:EnvOk G0 H0 G H σ ρ) (h1:ρ[i]?=some (.oo dss)) (h2:σ[i]?=some (some (.ref a))) (h3:H a=some (.lst (bs.map V.ref))) (nd:(a::bs).Nodup) (own:∀b∈a::bs,H0 b=none/\G b=none) (rows:Rows G H bs dss) :
 EnvOk G0 H0 (more G H bs) H σ (ρ.set i (.ow (dss.map .lst)))/\Reps (more G H bs) (bs.map V.ref) (dss.map D.lst):=by
 have ss:=jbk (bs:=bs) e.same;have nd':=ye.mp nd;have rr:=rows.frozen ss.1 fun b hb=>jb4 hb;refine ⟨e.let h1 h2 ss.1 ss.2 (fun b u z=>?_) (.ow (own a Yf).1 (by rw [JW nd'.1];exact (own a Yf).2) h3 rr) fun b f=>.inl f,rr⟩;by_cases hb:b∈bs
 . exact .inr ((JK h3).mpr (Yj _ hb))
 . rw [JW hb] at z;exact .inl z
end
def EOk (t:TE) (f:ee->Option D):Prop:=∀G0 H0 G H σ ρ (Q:VK) d,EnvOk G0 H0 G H σ ρ->f ρ=some d->(∀v G' H',Ext G H G' H'->Rep G' v d->Q v H')->t σ H Q
def Ji (t:TE) (f:ee->Option D):Prop:=∀G0 H0 G H σ ρ (Q:VK) d,EnvOk G0 H0 G H σ ρ->f ρ=some d->(∀v G' H',Ext G H G' H'->RepT G' H' v d->Q v H')->t σ H Q
def EOkO (t:TE) (f:ee->Option (List D)):Prop:=∀G0 H0 G H σ ρ (Q:VK) ds,EnvOk G0 H0 G H σ ρ->f ρ=some ds->
 ‹"ax"›->t σ H Q
def TOk (t:TT) (f:ee->Option Bool):Prop:=∀G0 H0 G H σ ρ (Q:Bool->Hp->Prop) b,EnvOk G0 H0 G H σ ρ->f ρ=some b->(∀G' H',Ext G H G' H'->Q b H')->t σ H Q
def AOk (t:TA) (f:ee->Option (List D)):Prop:=∀G0 H0 G H σ ρ (Q:List V->Hp->Prop) ds,EnvOk G0 H0 G H σ ρ->f ρ=some ds->(∀vs G' H',Ext G H G' H'->Reps G' vs ds->Q vs H')->t σ H Q
def jbd (t:TA) (f:ee->Option (List D)):Prop:=∀G0 H0 G H σ ρ (Q:List V->Hp->Prop) ds,EnvOk G0 H0 G H σ ρ->f ρ=some ds->(∀vs G' H',Ext G H G' H'->RepTs G' H' vs ds->Q vs H')->t σ H Q
def jN (f:ee->Option (List D)):ee->Option D:=fun ρ=>(f ρ).map .lst
theorem EOkO.e {t:TE} {f:ee->Option (List D)} (h:EOkO t f):EOk t (jN f):=fun G0 H0 G H σ ρ Q d e q k=>by
 unfold jN at q;cases z:f ρ with
 | none=>rw [z] at q;cases q
 | some ds=>rw [z] at q;cases q;exact h G0 H0 G H σ ρ Q ds e z fun a vs G' H' x hn hg ha r=>k _ _ _ (x.freeze hn hg ha) (.lst (.inl jB) (r.mono (.upd hg)))
theorem EOk.t {t:TE} {f:ee->Option D} (h:EOk t f):Ji t f:=fun G0 H0 G H σ ρ Q d e q k=>h G0 H0 G H σ ρ Q d e q fun v G' H' x r=>k v G' H' x (r.top x.gh)
theorem AOk.t {t:TA} {f:ee->Option (List D)} (h:AOk t f):jbd t f:=fun G0 H0 G H σ ρ Q d e q k=>h G0 H0 G H σ ρ Q d e q fun v G' H' x r=>k v G' H' x (by
 clear k e q;induction r using Reps.rec (motive_1:=fun _ _ _=>True) with
 | nil=>exact .nil
 | cons r _ _ ih=>exact .cons (r.top x.gh) ih
 | _=>trivial)
def jq (i:Nat):ee->Option D:=fun ρ=>match ρ[i]? with
 | some (.sh d)=>some d
 | _=>none
def ja (i:Nat):ee->Option D:=fun ρ=>match ρ[i]? with
 | some (.sh d)=>some d
 | some (.ow ds)=>some (.lst ds)
 | some (.od ks ds)=>some (.dic ks ds)
 | _=>none
def eC (d:D):ee->Option D:=fun _=>some d
theorem jql (i:Nat):EOk (jeg i) (jq i):=fun G0 H0 G H σ ρ Q d e q k=>by
 unfold jq at q;split at q
 . rename_i d' h;cases q;obtain ⟨v,h1,r⟩:=e.sh h;exact ⟨v,h1,k v G H (.refl e.same) r⟩
 . cases q
theorem job (i:Nat):Ji (jeg i) (ja i):=fun G0 H0 G H σ ρ Q d e q k=>by
 unfold ja at q;split at q
 . rename_i d' h;cases q;obtain ⟨v,h1,r⟩:=e.sh h;exact ⟨v,h1,k v G H (.refl e.same) (r.top e.same)⟩
 . rename_i ds h;cases q;obtain ⟨a,vs,h1,_,_,h2,r⟩:=e.ow h;exact ⟨_,h1,k _ G H (.refl e.same) (.lst (.inl h2) r)⟩
 . rename_i ks ds h;cases q;obtain ⟨a,vs,h1,_,_,h2,hl,r⟩:=e.od h;exact ⟨_,h1,k _ G H (.refl e.same) (.dic (.inl h2) hl r)⟩
 . cases q
theorem jna {i:Int}:EOk (tC (.int i)) (eC (.int i)):=fun G0 H0 G H σ ρ Q d e q k=>by cases q;exact k _ G H (.refl e.same) (.int i)
theorem jro {i:Bool}:EOk (tC (.bl i)) (eC (.bl i)):=fun G0 H0 G H σ ρ Q d e q k=>by cases q;exact k _ G H (.refl e.same) (.bl i)
theorem jpo:EOk (tC .non) (eC .non):=fun G0 H0 G H σ ρ Q d e q k=>by cases q;exact k _ G H (.refl e.same) .non
def ROk (r:R2) (f:D->D->Option D):Prop:=∀G H x y dx dy d (Q:VK),Same G H->RepT G H x dx->RepT G H y dy->f dx dy=some d->(∀v G' H',Ext G H G' H'->Rep G' v d->Q v H')->r x y H Q
def joX (r:R2) (f:D->D->Option (List D)):Prop:=∀G H x y dx dy ds (Q:VK),Same G H->RepT G H x dx->RepT G H y dy->f dx dy=some ds->
 ‹"ax"›->r x y H Q
def jl {β:Type} (f:D->D->Option β) (a b:ee->Option D):ee->Option β:=fun ρ=>(a ρ).bind fun x=>(b ρ).bind fun y=>f x y
section
variable {ta tb tc:TE} {fa fb fc:ee->Option D} {r r':R2} {f f':D->D->Option D}
theorem jmq (h:ROk r f) (ha:Ji ta fa) (hb:Ji tb fb):EOk (tOp r ta tb) (jl f fa fb):=fun G0 H0 G H σ ρ Q d e q k=>by obtain ⟨x,qa,q⟩:=bind_some q;obtain ⟨y,qb,q⟩:=bind_some q;refine ha G0 H0 G H σ ρ _ x e qa fun u G1 H1 x1 r1=>?_;refine hb G0 H0 G1 H1 σ ρ _ y (e.grow x1) qb fun v G2 H2 x2 r2=>?_;exact h G2 H2 u v x y d Q x2.gh (r1.mono x2.gg x2.hh) r2 q fun w G3 H3 x3 r3=>k w G3 H3 ‹"aE"› r3
theorem jmM {f:D->D->Option (List D)} (h:joX r f) (ha:Ji ta fa) (hb:Ji tb fb):EOkO (tOp r ta tb) (jl f fa fb):=fun G0 H0 G H σ ρ Q d e q k=>by obtain ⟨x,qa,q⟩:=bind_some q;obtain ⟨y,qb,q⟩:=bind_some q;refine ha G0 H0 G H σ ρ _ x e qa fun u G1 H1 x1 r1=>?_;refine hb G0 H0 G1 H1 σ ρ _ y (e.grow x1) qb fun v G2 H2 x2 r2=>?_;exact h G2 H2 u v x y d Q x2.gh (r1.mono x2.gg x2.hh) r2 q fun w vs G3 H3 x3 hn hg hh r3=>k w vs G3 H3 ‹"aE"› ((x1.hh.trans x2.hh).free hn) hg hh r3
def dI0 (g:Int->Int->D):D->D->Option D
 | .int i,.int j=>some (g i j)
 | _,_=>none
def dI (C:Int->Int->Prop) [∀i j,Decidable (C i j)] (g:Int->Int->D):D->D->Option D
 | .int i,.int j=>if C i j then some (g i j) else none
 | _,_=>none
theorem qo {α:Type} {P:Prop} {d:α} (h:none=some d):P:=nomatch h
theorem jlz {m:Int->Int->D} {x y d:D} (q:dI0 m x y=some d):∃i j,x=.int i/\y=.int j/\m i j=d:=by
 cases x with
 | int i=>
   cases y with
   | int j=>exact ⟨i,j,rfl,rfl,Option.some.inj q⟩
   | _=>exact qo q
 | _=>exact qo q
theorem jnn {C:Int->Int->Prop} [∀i j,Decidable (C i j)] {m:Int->Int->D} {x y d:D} (q:dI C m x y=some d):∃i j,x=.int i/\y=.int j/\C i j/\m i j=d:=by
 cases x with
 | int i=>
   cases y with
   | int j=>
     by_cases c:C i j
     . exact ⟨i,j,rfl,rfl,c,Option.some.inj ((if_pos c).symm.trans q)⟩
     . exact qo ((if_neg c).symm.trans q)
   | _=>exact qo q
 | _=>exact qo q
theorem jiu {g:Int->Int->V} {m:Int->Int->D} (hg:∀G i j,Rep G (g i j) (m i j)):ROk (rI0 g) (dI0 m):=fun G H x y dx dy d Q s rx ry q k=>by
 obtain ⟨i,j,rfl,rfl,rfl⟩:=jlz q
 (have hh:=RepT.of_int rx;subst hh)
 (have hh:=RepT.of_int ry;subst hh)
 exact ⟨_,_,rfl,rfl,k _ G H (.refl s) (hg _ _ _)⟩
theorem o_I {C:Int->Int->Prop} [∀i j,Decidable (C i j)] {g:Int->Int->V} {m:Int->Int->D} (hg:∀G i j,Rep G (g i j) (m i j)):ROk (rI C g) (dI C m):=fun G H x y dx dy d Q s rx ry q k=>by
 obtain ⟨i,j,rfl,rfl,hc,rfl⟩:=jnn q
 (have hh:=RepT.of_int rx;subst hh)
 (have hh:=RepT.of_int ry;subst hh)
 exact ⟨_,_,rfl,rfl,hc,k _ G H (.refl s) (hg _ _ _)⟩
instance (i j:Int):Decidable (jhB i j):=inferInstanceAs (Decidable (_/\_))
instance (i j:Int):Decidable (jc7 i j):=inferInstanceAs (Decidable (_/\_))
def qp:=dI0 fun i j=>.int (i+j)
def qI:=dI0 fun i j=>.int (i-j)
def za:=dI CMulB fun i j=>.int (i*j)
def zy:=dI jhB fun i j=>.int (i/j)
def qu:=dI (fun _ j=>0<j) fun i j=>.int (i%j)
def QM:=dI jc7 fun i j=>.int (i ^ j.toNat)
def dLt:=dI0 fun i j=>.bl (decide (i<j))
def dLe:=dI0 fun i j=>.bl (decide (i<=j))
def dGt:=dI0 fun i j=>.bl (decide (j<i))
def dGe:=dI0 fun i j=>.bl (decide (j<=i))
theorem jpB:ROk (rI0 fun i j=>.int (i+j)) qp:=jiu fun _ _ _=>.int _
theorem jqk:ROk (rI0 fun i j=>.int (i-j)) qI:=jiu fun _ _ _=>.int _
theorem jqK:ROk (rI CMulB fun i j=>.int (i*j)) za:=o_I fun _ _ _=>.int _
theorem jqD:ROk (rI jhB fun i j=>.int (i/j)) zy:=o_I fun _ _ _=>.int _
theorem jqM:ROk (rI (fun _ j=>0<j) fun i j=>.int (i%j)) qu:=o_I fun _ _ _=>.int _
theorem jpH:ROk (rI jc7 fun i j=>.int (i ^ j.toNat)) QM:=o_I fun _ _ _=>.int _
theorem jry:ROk (rI0 fun i j=>.bl (decide (i<j))) dLt:=jiu fun _ _ _=>.bl _
theorem jrb:ROk (rI0 fun i j=>.bl (decide (i<=j))) dLe:=jiu fun _ _ _=>.bl _
theorem jrL:ROk (rI0 fun i j=>.bl (decide (j<i))) dGt:=jiu fun _ _ _=>.bl _
theorem jrj:ROk (rI0 fun i j=>.bl (decide (j<=i))) dGe:=jiu fun _ _ _=>.bl _
def jM:D->D->Option D
 | .lst l,.int i=>atI l i
 | .tup l,.int i=>atI l i
 | .scr ns,.int i=>(atI ns i).map .int
 | .str z,.int i=>if z.length<=sizeLine then (atI z.cps.toList i).map fun c=>.str ⟨#[c]⟩ else none
 | _,_=>none
theorem Reps.atI {G:Hp} {vs:List V} {ds:List D} {i:Int} {d:D} (r:Reps G vs ds) (h:L2.atI ds i=some d):∃v,L2.atI vs i=some v/\Rep G v d:=by unfold L2.atI at h ⊢;rw [r.length];obtain ⟨j,h1,h2⟩:=bind_some h;obtain ⟨v,h3,h4⟩:=r.get h2;exact ⟨v,by rw [h1];exact h3,h4⟩
theorem jmc {x y d:D} (q:jM x y=some d):∃i,y=.int i/\((∃l,x=.lst l/\atI l i=some d)\/(∃l,x=.tup l/\atI l i=some d)\/(∃ns n,x=.scr ns/\atI ns i=some n/\d=.int n)\/∃z c,x=.str z/\z.length<=sizeLine/\atI z.cps.toList i=some c/\d=.str ⟨#[c]⟩):=by
 cases y with
 | int i=>
   refine ⟨i,rfl,?_⟩;cases x with
   | lst l=>exact .inl ⟨l,rfl,q⟩
   | tup l=>exact .inr (.inl ⟨l,rfl,q⟩)
   | scr ns=>obtain ⟨n,h1,h2⟩:=map_some (show (atI ns i).map D.int=some d from q);exact .inr (.inr (.inl ⟨ns,n,rfl,h1,h2.symm⟩))
   | str z=>
     have q':(if z.length<=sizeLine then (atI z.cps.toList i).map fun c=>D.str ⟨#[c]⟩ else none)=some d:=q;by_cases c:z.length<=sizeLine
     . rw [if_pos c] at q';obtain ⟨n,h1,h2⟩:=map_some q';exact .inr (.inr (.inr ⟨z,n,rfl,c,h1,h2.symm⟩))
     . rw [if_neg c] at q';exact qo q'
   | _=>exact qo q
 | _=>exact qo (show none=some d from by cases x <;> exact q)
theorem jrx:ROk (rIx Fr.K) jM:=fun G H x y dx dy d Q s rx ry q k=>by
 obtain ⟨i,rfl,z⟩:=jmc q
 (have hh:=RepT.of_int ry;subst hh)
 rcases z with ⟨l,rfl,q⟩ | ⟨l,rfl,q⟩ | ⟨ns,n,rfl,e,rfl⟩ | ⟨z,c,rfl,hz,e,rfl⟩
 . cases rx with
   | lst h r=>obtain ⟨v,h1,h2⟩:=r.atI q;exact .inl ⟨_,_,_,v,rfl,rfl,.inl h,h1,k v G H (.refl s) h2⟩
 . cases rx with
   | tup h r=>obtain ⟨v,h1,h2⟩:=r.atI q;exact .inr (.inl ⟨_,_,_,v,rfl,rfl,.inl (.inl h),h1,k v G H (.refl s) h2⟩)
 . cases rx with
   | scr h=>exact .inl ⟨_,_,_,_,rfl,rfl,h,by rw [jlp,e];rfl,k _ G H (.refl s) (.int n)⟩
 . cases rx with
   | str z=>exact .inr (.inr ⟨_,_,c,rfl,rfl,hz,e,k _ G H (.refl s) (.str _)⟩)
def jcL (fa:ee->Option D):ee->Option D:=fun ρ=>match fa ρ with
 | some (.int i)=>some (.int (-i))
 | _=>none
theorem jpD (ha:Ji ta fa):EOk (tUn (rU fun i=>.int (-i)) ta) (jcL fa):=fun G0 H0 G H σ ρ Q d e q k=>by
 unfold jcL at q;split at q
 . rename_i i h;cases q;refine ha G0 H0 G H σ ρ _ _ e h fun v G' H' x r=>?_
   (have hh:=RepT.of_int r;subst hh)
   exact ⟨_,rfl,k _ G' H' x (.int _)⟩
 . cases q
def qw (fa:ee->Option D):ee->Option Bool:=fun ρ=>match fa ρ with
 | some (.bl b)=>some b
 | _=>none
theorem jc6 (ha:Ji ta fa) {G0 H0 G H:Hp} {σ:St} {ρ:ee} {b:Bool} {Q:VK} (e:EnvOk G0 H0 G H σ ρ) (q:qw fa ρ=some b) (k:∀G' H',Ext G H G' H'->Q (.bl b) H'):ta σ H Q:=by
 unfold qw at q;split at q
 . rename_i i h;cases q;refine ha G0 H0 G H σ ρ _ _ e h fun v G' H' x r=>?_
   (have hh:=RepT.of_bl r;subst hh)
   exact k G' H' x
 . cases q
def jiy (fa:ee->Option D):ee->Option D:=fun ρ=>(qw fa ρ).map fun b=>.bl (!b)
theorem jpX (ha:Ji ta fa):EOk (jmE ta) (jiy fa):=fun G0 H0 G H σ ρ Q d e q k=>by
 unfold jiy at q;cases h:qw fa ρ with
 | none=>rw [h] at q;cases q
 | some b=>rw [h] at q;cases q;exact jc6 ha e h fun G' H' x=>⟨_,rfl,k _ G' H' x (.bl _)⟩
def jcb (fa fb:ee->Option D):ee->Option D:=fun ρ=>match qw fa ρ with
 | some true=>fb ρ
 | some false=>some (.bl false)
 | none=>none
def eOr (fa fb:ee->Option D):ee->Option D:=fun ρ=>match qw fa ρ with
 | some true=>some (.bl true)
 | some false=>fb ρ
 | none=>none
theorem jp5 (ha:Ji ta fa) (hb:EOk tb fb):EOk (jm5 ta tb) (jcb fa fb):=fun G0 H0 G H σ ρ Q d e q k=>by
 unfold jcb at q;split at q
 . rename_i h;exact jc6 ha e h fun G' H' x=>⟨true,rfl,by rw [if_pos rfl];exact hb _ _ _ _ _ _ _ _ (e.grow x) q fun v G2 H2 x2 r=>k v G2 H2 (x.trans x2) r⟩
 . rename_i h;cases q;exact jc6 ha e h fun G' H' x=>⟨false,rfl,by rw [if_neg Yo];exact k _ G' H' x (.bl _)⟩
 . cases q
def ji1 (fa:ee->Option D):ee->Option D:=fun ρ=>(fa ρ).map fun d=>.bl (match d with | .non=>true | _=>false)
def jaA (fa:ee->Option D):ee->Option D:=fun ρ=>(fa ρ).map fun d=>.bl (match d with | .non=>false | _=>true)
theorem jp9 (ha:Ji ta fa):EOk (jqh ta) (ji1 fa):=fun G0 H0 G H σ ρ Q d e q k=>by
 unfold ji1 at q;cases h:fa ρ with
 | none=>rw [h] at q;cases q
 | some dx=>rw [h] at q;cases q;refine ha G0 H0 G H σ ρ _ _ e h fun v G' H' x r=>?_;cases r <;> exact k _ G' H' x (by simp;exact .bl _)
theorem jod (ha:Ji ta fa):EOk (jmY ta) (jaA fa):=fun G0 H0 G H σ ρ Q d e q k=>by
 unfold jaA at q;cases h:fa ρ with
 | none=>rw [h] at q;cases q
 | some dx=>rw [h] at q;cases q;refine ha G0 H0 G H σ ρ _ _ e h fun v G' H' x r=>?_;cases r <;> exact k _ G' H' x (by simp;exact .bl _)
def JY (f f':D->D->Option D) (fa fb fc:ee->Option D):ee->Option D:=fun ρ=>(fa ρ).bind fun x=>(fb ρ).bind fun y=>(f x y).bind fun z=>match z with
 | .bl true=>(fc ρ).bind fun w=>f' y w
 | .bl false=>some (.bl false)
 | _=>none
theorem jlW (h:ROk r f) (h':ROk r' f') (ha:Ji ta fa) (hb:Ji tb fb) (hc:Ji tc fc):EOk (jkC r r' ta tb tc) (JY f f' fa fb fc):=fun G0 H0 G H σ ρ Q d e q k=>by
 obtain ⟨x,qa,q⟩:=bind_some q;obtain ⟨y,qb,q⟩:=bind_some q;obtain ⟨z,qz,q⟩:=bind_some q;refine ha G0 H0 G H σ ρ _ x e qa fun u G1 H1 x1 r1=>?_;refine hb G0 H0 G1 H1 σ ρ _ y (e.grow x1) qb fun v G2 H2 x2 r2=>?_;refine h G2 H2 u v x y z _ x2.gh (r1.mono x2.gg x2.hh) r2 qz fun w G3 H3 x3 r3=>?_;cases r3 with
 | bl b=>
   refine ⟨b,rfl,?_⟩;cases b with
   | false=>rw [if_neg Yo];cases q;exact k _ G3 H3 ‹"aE"› (.bl _)
   | true=>rw [if_pos rfl];obtain ⟨w,qc,q⟩:=bind_some q;refine hc G0 H0 G3 H3 σ ρ _ w (e.grow ‹"aE"›) qc fun w' G4 H4 x4 r4=>?_;exact h' G4 H4 v w' y w d Q x4.gh (r2.mono (x3.trans x4).gg (x3.trans x4).hh) r4 q fun z G5 H5 x5 r5=>k z G5 H5 ((‹"aE"›.trans x4).trans x5) r5
 | _=>cases q
theorem t_B (ha:Ji ta fa):TOk (tB ta) (qw fa):=fun G0 H0 G H σ ρ Q b e q k=>jc6 ha e q fun G' H' x=>⟨b,rfl,k G' H' x⟩
theorem jo9 (ha:Ji ta fa):TOk (jni ta) (qw fa):=fun G0 H0 G H σ ρ Q b e q k=>jc6 ha e q fun G' H' x=>⟨b,rfl,k G' H' x⟩
variable {ca cb:TT} {ga gb:ee->Option Bool}
def jat (ga gb:ee->Option Bool):ee->Option Bool:=fun ρ=>match ga ρ with
 | some true=>gb ρ
 | some false=>some false
 | none=>none
def bOr (ga gb:ee->Option Bool):ee->Option Bool:=fun ρ=>match ga ρ with
 | some true=>some true
 | some false=>gb ρ
 | none=>none
def J7 (ga:ee->Option Bool):ee->Option Bool:=fun ρ=>(ga ρ).map (!·)
theorem jh3 (ha:TOk ca ga) (hb:TOk cb gb):TOk (jqS ca cb) (jat ga gb):=fun G0 H0 G H σ ρ Q b e q k=>by
 unfold jat at q;split at q
 . rename_i h;exact ha _ _ _ _ _ _ _ _ e h fun G' H' x=>by rw [if_pos rfl];exact hb _ _ _ _ _ _ _ _ (e.grow x) q fun G2 H2 x2=>k G2 H2 (x.trans x2)
 . rename_i h;cases q;exact ha _ _ _ _ _ _ _ _ e h fun G' H' x=>by rw [if_neg Yo];exact k G' H' x
 . cases q
theorem jrk (ha:TOk ca ga) (hb:TOk cb gb):TOk (tOr ca cb) (bOr ga gb):=fun G0 H0 G H σ ρ Q b e q k=>by
 unfold bOr at q;split at q
 . rename_i h;cases q;exact ha _ _ _ _ _ _ _ _ e h fun G' H' x=>by rw [if_pos rfl];exact k G' H' x
 . rename_i h;exact ha _ _ _ _ _ _ _ _ e h fun G' H' x=>by rw [if_neg Yo];exact hb _ _ _ _ _ _ _ _ (e.grow x) q fun G2 H2 x2=>k G2 H2 (x.trans x2)
 . cases q
theorem QW (ha:TOk ca ga):TOk (jpM ca) (J7 ga):=fun G0 H0 G H σ ρ Q b e q k=>by
 unfold J7 at q;cases h:ga ρ with
 | none=>rw [h] at q;cases q
 | some c=>rw [h] at q;cases q;exact ha _ _ _ _ _ _ _ _ e h fun G' H' x=>k G' H' x
theorem jo3:TOk jm7 ‹"l"›:=fun G0 H0 G H σ ρ Q b e q k=>by cases q;exact k G H (.refl e.same)
def eIf (ga:ee->Option Bool) (fa fb:ee->Option D):ee->Option D:=fun ρ=>match ga ρ with
 | some true=>fa ρ
 | some false=>fb ρ
 | none=>none
theorem jrv (hc:TOk ca ga) (ha:EOk ta fa) (hb:EOk tb fb):EOk (tIf ca ta tb) (eIf ga fa fb):=fun G0 H0 G H σ ρ Q d e q k=>by
 unfold eIf at q;split at q
 . rename_i h;exact hc _ _ _ _ _ _ _ _ e h fun G' H' x=>by rw [if_pos rfl];exact ha _ _ _ _ _ _ _ _ (e.grow x) q fun v G2 H2 x2 r=>k v G2 H2 (x.trans x2) r
 . rename_i h;exact hc _ _ _ _ _ _ _ _ e h fun G' H' x=>by rw [if_neg Yo];exact hb _ _ _ _ _ _ _ _ (e.grow x) q fun v G2 H2 x2 r=>k v G2 H2 (x.trans x2) r
 . cases q
end
section
variable {ta tb tc:TE} {fa fb fc:ee->Option D} {As:TA} {fs:ee->Option (List D)}
def jj:ee->Option (List D):=fun _=>some []
def jc (fa:ee->Option D) (fs:ee->Option (List D)):ee->Option (List D):=fun ρ=>(fa ρ).bind fun d=>(fs ρ).map (d::·)
theorem jcn {ρ:ee} {ds:List D} (h:jc fa fs ρ=some ds):∃d es,fa ρ=some d/\fs ρ=some es/\ds=d::es:=by
 obtain ⟨d,h1,h2⟩:=bind_some h;cases z:fs ρ with
 | none=>rw [z] at h2;cases h2
 | some es=>rw [z] at h2;cases h2;exact ⟨d,es,h1,rfl,rfl⟩
theorem a_nil:AOk jiB jj:=fun G0 H0 G H σ ρ Q d e q k=>by cases q;exact k [] G H (.refl e.same) .nil
theorem joW (ha:EOk ta fa) (hs:AOk As fs):AOk (jdf ta As) (jc fa fs):=fun G0 H0 G H σ ρ Q ds e q k=>by obtain ⟨d,es,q1,q2,rfl⟩:=jcn q;refine ha _ _ _ _ _ _ _ _ e q1 fun v G1 H1 x1 r1=>hs _ _ _ _ _ _ _ _ (e.grow x1) q2 fun vs G2 H2 x2 r2=>?_;exact k _ G2 H2 (x1.trans x2) (.cons (r1.mono x2.gg) r2)
theorem joB:jbd jiB jj:=a_nil.t
theorem jl3 (ha:Ji ta fa) (hs:jbd As fs):jbd (jdf ta As) (jc fa fs):=fun G0 H0 G H σ ρ Q ds e q k=>by obtain ⟨d,es,q1,q2,rfl⟩:=jcn q;refine ha _ _ _ _ _ _ _ _ e q1 fun v G1 H1 x1 r1=>hs _ _ _ _ _ _ _ _ (e.grow x1) q2 fun vs G2 H2 x2 r2=>?_;exact k _ G2 H2 (x1.trans x2) (.cons (r1.mono x2.gg x2.hh) r2)
def Jm (n:Nat):Bool:=decide (n<sizeLine)
def QP (fs:ee->Option (List D)):ee->Option D:=fun ρ=>(fs ρ).bind fun ds=>if Jm ds.length then some (.tup ds) else none
def zH (fs:ee->Option (List D)):ee->Option (List D):=fun ρ=>(fs ρ).bind fun ds=>if Jm ds.length then some ds else none
theorem jfJ {n:Nat} (h:Jm n=true):n<=sizeLine:=yL (Ka h)
theorem Zp {n:Nat} (h:Jm n=true):n<sizeLine:=Ka h
theorem jpA (h:AOk As fs):EOk (jqe As) (QP fs):=fun G0 H0 G H σ ρ Q d e q k=>by
 obtain ⟨ds,q1,q2⟩:=bind_some q;split at q2
 . rename_i hz;cases q2;refine h _ _ _ _ _ _ _ _ e q1 fun vs G1 H1 x1 r1=>⟨by rw [r1.length];exact jfJ hz,fun p hp=>?_⟩;have hg:G1 p=none:=x1.gh.free hp;have x2:Ext G1 H1 (upd G1 p (.tup vs)) (upd H1 p (.tup vs)):=(Ext.new x1.gh hp).freeze hp hg jB;exact k _ _ _ (x1.trans x2) (.tup jB (r1.mono x2.gg))
 . cases q2
theorem jqA (h:AOk As fs):EOkO (jqn As) (zH fs):=fun G0 H0 G H σ ρ Q d e q k=>by
 obtain ⟨ds,q1,q2⟩:=bind_some q;split at q2
 . rename_i hz;cases q2;refine h _ _ _ _ _ _ _ _ e q1 fun vs G1 H1 x1 r1=>⟨by rw [r1.length];exact jfJ hz,fun p hp=>?_⟩;exact k p vs G1 _ (x1.trans (.new x1.gh hp)) (x1.hh.free hp) (x1.gh.free hp) jB r1
 . cases q2
def jeB (r:List V->Hp->VK->Prop) (f:List D->Option D):Prop:=∀G H xs ds d (Q:VK),Same G H->RepTs G H xs ds->f ds=some d->(∀v G' H',Ext G H G' H'->Rep G' v d->Q v H')->r xs H Q
def jfC (r:List V->Hp->VK->Prop) (f:List D->Option (List D)):Prop:=∀G H xs ds es (Q:VK),Same G H->RepTs G H xs ds->f ds=some es->
 (∀a vs G' H',Ext G H G' H'->H a=none->G' a=none->H' a=some (.lst vs)->Reps G' vs es->Q (.ref a) H')->r xs H Q
def jh {β:Type} (f:List D->Option β) (fs:ee->Option (List D)):ee->Option β:=fun ρ=>(fs ρ).bind f
theorem jpq {r:List V->Hp->VK->Prop} {f:List D->Option D} (h:jeB r f) (ha:jbd As fs):EOk (tCB r As) (jh f fs):=fun G0 H0 G H σ ρ Q d e q k=>by obtain ⟨ds,q1,q2⟩:=bind_some q;exact ha _ _ _ _ _ _ _ _ e q1 fun vs G1 H1 x1 r1=>h G1 H1 vs ds d Q x1.gh r1 q2 fun v G2 H2 x2 r2=>k v G2 H2 (x1.trans x2) r2
theorem jm1 {r:List V->Hp->VK->Prop} {f:List D->Option (List D)} (h:jfC r f) (ha:jbd As fs):EOkO (tCB r As) (jh f fs):=fun G0 H0 G H σ ρ Q d e q k=>by obtain ⟨ds,q1,q2⟩:=bind_some q;exact ha _ _ _ _ _ _ _ _ e q1 fun vs G1 H1 x1 r1=>h G1 H1 vs ds d Q x1.gh r1 q2 fun a us G2 H2 x2 hn hg hh r2=>k a us G2 H2 (x1.trans x2) (x1.hh.free hn) hg hh r2
def spS (f:List D->Option D):Sp:=fun vs H Q _=>∃G ds d,Same G H/\Reps G vs ds/\f ds=some d/\∀v G' H',Ext G H G' H'->Rep G' v d->Q v H'
def spO (f:List D->Option (List D)):Sp:=fun vs H Q _=>∃G ds es,Same G H/\Reps G vs ds/\f ds=some es/\∀a us G' H',Ext G H G' H'->H a=none->G' a=none->H' a=some (.lst us)->Reps G' us es->Q (.ref a) H'
theorem joD {f:List D->Option D} {E:XK} (ha:AOk As fs):EOk (jjQ (spS f) [] E As) (jh f fs):=fun G0 H0 G H σ ρ Q d e q k=>by obtain ⟨ds,q1,q2⟩:=bind_some q;exact ha _ _ _ _ _ _ _ _ e q1 fun vs G1 H1 x1 r1=>⟨G1,ds,d,x1.gh,by rw [Kd];exact r1,q2,fun v G2 H2 x2 r2=>k v G2 H2 (x1.trans x2) r2⟩
theorem jmw {f:List D->Option (List D)} {E:XK} (ha:AOk As fs):EOkO (jjQ (spO f) [] E As) (jh f fs):=fun G0 H0 G H σ ρ Q d e q k=>by obtain ⟨ds,q1,q2⟩:=bind_some q;exact ha _ _ _ _ _ _ _ _ e q1 fun vs G1 H1 x1 r1=>⟨G1,ds,d,x1.gh,by rw [Kd];exact r1,q2,fun a us G2 H2 x2 hn hg hh r2=>k a us G2 H2 (x1.trans x2) (x1.hh.free hn) hg hh r2⟩
end
inductive Res where
 | next (ρ:ee) | ret (d:D) | retO (ds:List D) | brk (ρ:ee) | cnt (ρ:ee) | fail
def ResOk (G0 H0 Gc:Hp) (r:Res) (E:Ends):Prop:=match r with
 | .next ρ=>∀G H σ,Same Gc G->EnvOk G0 H0 G H σ ρ->E.nx σ H
 | .brk ρ=>∀G H σ,Same Gc G->EnvOk G0 H0 G H σ ρ->E.bk σ H
 | .cnt ρ=>∀G H σ,Same Gc G->EnvOk G0 H0 G H σ ρ->E.ct σ H
 | .ret d=>∀G H v,Ext G0 H0 G H->Rep G v d->E.rt v H
 | .retO ds=>∀G H a vs,Ext G0 H0 G H->H0 a=none->G a=none->H a=some (.lst vs)->Reps G vs ds->E.rt (.ref a) H
 | .fail=>False
theorem ResOk.mono {G0 H0 G G':Hp} {r:Res} {E:Ends} (s:Same G G') (h:ResOk G0 H0 G r E):ResOk G0 H0 G' r E:=by
 cases r with
 | next ρ=>exact fun G2 H2 σ s2 e=>h G2 H2 σ (s.trans s2) e
 | brk ρ=>exact fun G2 H2 σ s2 e=>h G2 H2 σ (s.trans s2) e
 | cnt ρ=>exact fun G2 H2 σ s2 e=>h G2 H2 σ (s.trans s2) e
 | ret d=>exact h
 | retO d=>exact h
 | fail=>exact h
abbrev FS:=ee->Res
def ZI (t:TS) (F:FS):Prop:=∀G0 H0 G H σ ρ E,EnvOk G0 H0 G H σ ρ->ResOk G0 H0 G (F ρ) E->t E σ H
section
variable {t u:TS} {F F':FS} {te:TE} {fe:ee->Option D} {fo:ee->Option (List D)} {tc:TT} {fc:ee->Option Bool}
def jQ:FS:=.next
theorem jnR:ZI jnh jQ:=fun G0 H0 G H σ ρ E e h=>h G H σ (.refl _) e
def jt (F F':FS):FS:=fun ρ=>match F ρ with
 | .next ρ'=>F' ρ'
 | r=>r
theorem jqz (h:ZI t F) (h':ZI u F'):ZI (jpv t u) (jt F F'):=fun G0 H0 G H σ ρ E e q=>by
 refine h G0 H0 G H σ ρ _ e ?_;unfold jt at q;cases z:F ρ with
 | next ρ'=>rw [z] at q;exact fun G' H' σ' s' e'=>h' G0 H0 G' H' σ' ρ' E e' (q.mono s')
 | ret d=>rw [z] at q;exact q
 | retO d=>rw [z] at q;exact q
 | brk d=>rw [z] at q;exact q
 | cnt d=>rw [z] at q;exact q
 | fail=>rw [z] at q;exact q
def Ze (fe:ee->Option D):FS:=fun ρ=>match fe ρ with
 | some _=>.next ρ
 | none=>.fail
theorem jom (h:Ji te fe):ZI (jko te) (Ze fe):=fun G0 H0 G H σ ρ E e q=>by
 unfold Ze at q;split at q
 . rename_i d z;exact h _ _ _ _ _ _ _ _ e z fun v G' H' x r=>q G' H' σ x.gg (e.grow x)
 . exact q.elim
def j6 (fe:ee->Option D):FS:=fun ρ=>match fe ρ with
 | some d=>.ret d
 | none=>.fail
theorem jpu (h:EOk te fe):ZI (jlj te) (j6 fe):=fun G0 H0 G H σ ρ E e q=>by
 unfold j6 at q;split at q
 . rename_i d z;exact h _ _ _ _ _ _ _ _ e z fun v G' H' x r=>q G' H' v (e.ext.trans x) r
 . exact q.elim
def Jc (fo:ee->Option (List D)):FS:=fun ρ=>match fo ρ with
 | some d=>.retO d
 | none=>.fail
theorem joy (h:EOkO te fo):ZI (jlj te) (Jc fo):=fun G0 H0 G H σ ρ E e q=>by
 unfold Jc at q;split at q
 . rename_i d z;exact h _ _ _ _ _ _ _ _ e z fun a vs G' H' x hn hg hh r=>q G' H' a vs (e.ext.trans x) (e.ext.hh.free hn) hg hh r
 . exact q.elim
def jbn (i:Nat):FS:=fun ρ=>match ρ[i]? with
 | some (.ow ds)=>.retO ds
 | _=>.fail
theorem jo6 (i:Nat):ZI (jlj (jeg i)) (jbn i):=fun G0 H0 G H σ ρ E e q=>by
 unfold jbn at q;split at q
 . rename_i ds z;obtain ⟨a,vs,h1,h2,h3,h4,h5⟩:=e.ow z;exact ⟨_,h1,q G H a vs e.ext h2 h3 h4 h5⟩
 . exact q.elim
def zQ (fc:ee->Option Bool) (F F':FS):FS:=fun ρ=>match fc ρ with
 | some true=>F ρ
 | some false=>F' ρ
 | none=>.fail
theorem jre (hc:TOk tc fc) (h:ZI t F) (h':ZI u F'):ZI (jqU tc t u) (zQ fc F F'):=fun G0 H0 G H σ ρ E e q=>by
 unfold zQ at q;split at q
 . rename_i z;exact hc _ _ _ _ _ _ _ _ e z fun G' H' x=>by rw [if_pos rfl];exact h _ _ _ _ _ _ _ (e.grow x) (q.mono x.gg)
 . rename_i z;exact hc _ _ _ _ _ _ _ _ e z fun G' H' x=>by rw [if_neg Yo];exact h' _ _ _ _ _ _ _ (e.grow x) (q.mono x.gg)
 . exact q.elim
def jE (i:Nat) (fe:ee->Option D):FS:=fun ρ=>match fe ρ with
 | some d=>.next (ρ.set i (.sh d))
 | none=>.fail
theorem jmF (i:Nat) (h:EOk te fe):ZI (jdr te (ZR i)) (jE i fe):=fun G0 H0 G H σ ρ E e q=>by
 unfold jE at q;split at q
 . rename_i d z;exact h _ _ _ _ _ _ _ _ e z fun v G' H' x r=>q G' H' _ x.gg ((e.grow x).set r)
 . exact q.elim
def zc (i:Nat) (fo:ee->Option (List D)):FS:=fun ρ=>match fo ρ with
 | some d=>.next (ρ.set i (.ow d))
 | none=>.fail
theorem jjE (i:Nat) (h:EOkO te fo):ZI (jdr te (ZR i)) (zc i fo):=fun G0 H0 G H σ ρ E e q=>by
 unfold zc at q;split at q
 . rename_i d z;exact h _ _ _ _ _ _ _ _ e z fun a vs G' H' x hn hg hh r=>q G' H' _ x.gg (e.setO x hn hg hh r)
 . exact q.elim
def jad (i:Nat) (F:FS):FS:=fun ρ=>F (frz i ρ)
theorem Ext.back {G G' H:Hp} (sg:Same G G') (gh:Same G' H):∀G2 H2,Ext G' H G2 H2->∃G3,Ext G H G3 H2/\∀v d,qG d=true->Rep G2 v d->Rep G3 v d:=fun G2 H2 x=>by
 refine ⟨fun b=>match G b,G' b with | none,some _=>none | _,_=>G2 b,⟨x.hh,fun b o q=>?_,fun b o q=>?_,fun b o q=>?_⟩,fun v d f r=>r.flat f⟩
 . show (match G b,G' b with | none,some _=>none | _,_=>G2 b)=some o;rw [q,sg b o q];exact x.gg b o (sg b o q)
 . have q':(match G b,G' b with | none,some _=>none | _,_=>G2 b)=some o:=q;split at q'
   . cases q'
   . exact x.gh b o q'
 . have q':(match G b,G' b with | none,some _=>none | _,_=>G2 b)=some o:=q;cases g:G b with
   | some u=>rw [g,sg b u g] at q';have:G2 b=some u:=x.gg b u (sg b u g);rw [this] at q';exact .inl q'
   | none=>
     cases g':G' b with
     | some u=>rw [g,g'] at q';cases q'
     | none=>
       rw [g,g'] at q';rcases x.nw b o q' with w | w
       . rw [g'] at w;cases w
       . exact .inr w
theorem EnvOk.frz {G0 H0 G H:Hp} {σ:St} {ρ:ee} (i:Nat) (e:EnvOk G0 H0 G H σ ρ):∃G',EnvOk G0 H0 G' H σ (L2.frz i ρ)/\Same G G'/\∀G2 H2,Ext G' H G2 H2->∃G3,Ext G H G3 H2/\∀v d,qG d=true->Rep G2 v d->Rep G3 v d:=by
 have fin:∀(ρ':ee) G',EnvOk G0 H0 G' H σ ρ'->Same G G'->∃G',EnvOk G0 H0 G' H σ ρ'/\Same G G'/\∀G2 H2,Ext G' H G2 H2->∃G3,Ext G H G3 H2/\∀v d,qG d=true->Rep G2 v d->Rep G3 v d:=fun ρ' G' e' s=>⟨G',e',s,Ext.back s e'.same⟩;unfold L2.frz;split
 . rename_i ds z;obtain ⟨a,vs,h1,h2,h3,h4,h5⟩:=e.ow z;exact fin _ _ (e.freeze z h1 h4 h5) (.upd h3)
 . rename_i dss z;obtain ⟨a,bs,h1,h2,h3,h4,h5⟩:=e.oo z;obtain ⟨e1,rr⟩:=e.half z h1 h2 h3 h4 h5;have hi:i<ρ.length:=(Yh.mp z).1;have e2:=e1.freeze (i:=i) (by rw [Y1 hi]) h1 h2 rr;rw [List.set_set] at e2;have nd':=ye.mp h3;exact fin _ _ e2 ((jbk e.same).1.trans (.upd (by rw [JW nd'.1];exact (h4 a Yf).2)))
 . exact fin _ _ e (.refl _)
theorem jpP (i:Nat) (h:ZI t F):ZI t (jad i F):=fun G0 H0 G H σ ρ E e q=>by obtain ⟨G',e',sg,_⟩:=e.frz i;exact h G0 H0 G' H σ _ E e' (q.mono sg)
def jpU (i:Nat) (fe:ee->Option D):ee->Option D:=fun ρ=>match fe (frz i ρ) with
 | some d=>if qG d then some d else none
 | none=>none
def jpC (i:Nat) (fc:ee->Option Bool):ee->Option Bool:=fun ρ=>fc (frz i ρ)
variable {ta:TE} {fa:ee->Option D}
def zG (i:Nat) (fa:ee->Option D):FS:=fun ρ=>match ρ[i]?,fa ρ with
 | some (.ow ds),some d=>if Jm ds.length then .next (ρ.set i (.ow (ds++[d]))) else .fail
 | _,_=>.fail
theorem jp8 (i:Nat) (h:EOk ta fa):ZI (jko (tBM Fr.K "list" jeT (jeg i) (jdf ta jiB))) (zG i fa):=fun G0 H0 G H σ ρ E e q=>by
 unfold zG at q;split at q
 . rename_i ds d z1 z2;split at q
   . rename_i hz;obtain ⟨a,vs,h1,h2,h3,h4,h5⟩:=e.ow z1;refine ⟨_,h1,.inl ⟨rfl,vs,.inl (.inl h4)⟩,h _ _ _ _ _ _ _ _ e z2 fun v G' H' x r=>?_⟩;have e':=e.grow x;exact ⟨a,vs,v,rfl,rfl,x.hh _ _ h4,by rw [h5.length];exact Zp hz,q G' _ σ x.gg (e'.put z1 h1 ((h5.mono x.gg).snoc r))⟩
   . exact q.elim
 . exact q.elim
def jkY (i:Nat):FS:=fun ρ=>match ρ[i]? with
 | some (.ow _)=>.next (ρ.set i (.ow []))
 | _=>.fail
def jqc (i:Nat) (fa fb:ee->Option D):FS:=fun ρ=>match ρ[i]?,fa ρ,fb ρ with
 | some (.ow ds),some (.int k),some d=>if 0<=k/\k<=ds.length/\Jm ds.length then .next (ρ.set i (.ow (ds.take k.toNat++d::ds.drop k.toNat))) else .fail
 | _,_,_=>.fail
def Q8 (i:Nat) (fk fa:ee->Option D):FS:=fun ρ=>match ρ[i]?,fa ρ,fk ρ with
 | some (.ow ds),some d,some (.int k)=>match ixN ds.length k with
   | some j=>.next (ρ.set i (.ow (ds.set j d)))
   | none=>.fail
 | _,_,_=>.fail
theorem jpI {tk:TE} {fk:ee->Option D} (i:Nat) (hk:EOk tk fk) (h:EOk ta fa):ZI (jdr ta (jqp (jeg i) tk jk3)) (Q8 i fk fa):=fun G0 H0 G H σ ρ E e q=>by
 unfold Q8 at q;split at q
 . rename_i ds d k z1 z2 z3;split at q
   . rename_i j hj;obtain ⟨a,vs,h1,h2,h3,h4,h5⟩:=e.ow z1;refine h _ _ _ _ _ _ _ _ e z2 fun v G' H' x r=>⟨_,h1,hk _ _ _ _ _ _ _ _ (e.grow x) z3 fun w G2 H2 x2 r2=>?_⟩
     (have hh:=Rep.of_int r2;subst hh)
     have e':=(e.grow x).grow x2;exact ⟨a,vs,k,j,rfl,rfl,(x.trans x2).hh _ _ h4,by rw [h5.length];exact hj,q G2 _ σ (x.trans x2).gg (e'.put z1 h1 ((h5.mono (x.trans x2).gg).set (r.mono x2.gg) j))⟩
   . exact q.elim
 . exact q.elim
end
def GOk (g:TG) (m:D->ee->Option ee):Prop:=∀G0 H0 G H σ ρ v d ρ' (Q:St->Hp->Prop),EnvOk G0 H0 G H σ ρ->Rep G v d->m d ρ=some ρ'->(∀σ',EnvOk G0 H0 G H σ' ρ'->Q σ' H)->g v σ H Q
def jiv (g:TGs) (m:List D->ee->Option ee):Prop:=∀G0 H0 G H σ ρ vs ds ρ' (Q:St->Hp->Prop),EnvOk G0 H0 G H σ ρ->Reps G vs ds->m ds ρ=some ρ'->(∀σ',EnvOk G0 H0 G H σ' ρ'->Q σ' H)->g vs σ H Q
def jz (i:Nat):D->ee->Option ee:=fun d ρ=>some (ρ.set i (.sh d))
def Qi:List D->ee->Option ee
 | [],ρ=>some ρ
 | _,_=>none
def jZ (m:D->ee->Option ee) (ms:List D->ee->Option ee):List D->ee->Option ee
 | d::ds,ρ=>(m d ρ).bind fun ρ'=>ms ds ρ'
 | [],_=>none
def Qa (n:Nat) (ms:List D->ee->Option ee):D->ee->Option ee
 | .tup ds,ρ=>if ds.length=n then ms ds ρ else none
 | _,_=>none
theorem jg5 (i:Nat):GOk (ZR i) (jz i):=fun G0 H0 G H σ ρ v d ρ' Q e r q k=>by cases q;exact k _ (e.set r)
theorem jm6:jiv joN Qi:=fun G0 H0 G H σ ρ vs ds ρ' Q e r q k=>by
 cases r with
 | nil=>cases q;exact ⟨rfl,k _ e⟩
 | cons _ _=>cases q
theorem jlb {g:TG} {gs:TGs} {m:D->ee->Option ee} {ms:List D->ee->Option ee} (h:GOk g m) (hs:jiv gs ms):jiv (jmR g gs) (jZ m ms):=fun G0 H0 G H σ ρ vs ds ρ' Q e r q k=>by
 cases r with
 | nil=>cases q
 | cons r t=>obtain ⟨ρ1,q1,q2⟩:=bind_some q;exact ⟨_,_,rfl,h _ _ _ _ _ _ _ _ _ _ e r q1 fun σ' e'=>hs _ _ _ _ _ _ _ _ _ _ e' t q2 k⟩
theorem jmN {n:Nat} {gs:TGs} {ms:List D->ee->Option ee} (hs:jiv gs ms):GOk (jl9 Fr.K n gs) (Qa n ms):=fun G0 H0 G H σ ρ v d ρ' Q e r q k=>by
 cases r with
 | tup h r=>
   simp only [Qa] at q;split at q
   . rename_i hl;exact ⟨_,_,rfl,.inl (.inl (e.same _ _ h)),by rw [r.length];exact hl,hs _ _ _ _ _ _ _ _ _ _ e r q k⟩
   . cases q
 | _=>cases q
def jdB (m:D->ee->Option ee) (fe:ee->Option D):FS:=fun ρ=>match (fe ρ).bind fun d=>m d ρ with
 | some ρ'=>.next ρ'
 | none=>.fail
theorem jqF {g:TG} {m:D->ee->Option ee} {te:TE} {fe:ee->Option D} (hg:GOk g m) (h:EOk te fe):ZI (jdr te g) (jdB m fe):=fun G0 H0 G H σ ρ E e q=>by
 unfold jdB at q;split at q
 . rename_i ρ' z;obtain ⟨d,z1,z2⟩:=bind_some z;exact h _ _ _ _ _ _ _ _ e z1 fun v G' H' x r=>hg _ _ _ _ _ _ _ _ _ _ (e.grow x) r z2 fun σ' e'=>q G' H' σ' x.gg e'
 . exact q.elim
def Iter (G1 H1:Hp) (J:It) (ds:List D):Prop:=∀(i:Nat) G H,Same G1 G->Same H1 H->Same G H->
 (∀d,ds[i]?=some d->J.go i H/\∀x H',J.yld i H x H'->∃G',Ext G H G' H'/\Rep G' x d)/\(ds[i]?=none->J.stop i H)
def jiV (wi:TI) (f:ee->Option (List D)):Prop:=∀G0 H0 G H σ ρ (R:It->Hp->Prop) ds,EnvOk G0 H0 G H σ ρ->f ρ=some ds->(∀J G' H',Ext G H G' H'->Iter G' H' J ds->R J H')->wi σ H R
def IOk (wi:TI) (f:ee->Option (List D)):Prop:=∀G0 H0 G H σ ρ (R:It->Hp->Prop) ds,EnvOk G0 H0 G H σ ρ->f ρ=some ds->(∀J G' H',Ext G H G' H'->Iter G' G' J ds->R J H')->wi σ H R
theorem Iter.weak {G H:Hp} {J:It} {ds:List D} (h:Iter G G J ds):Iter G H J ds:=fun i G' H' a b c=>h i G' H' a (a.trans c) c
theorem IOk.t {wi:TI} {f:ee->Option (List D)} (h:IOk wi f):jiV wi f:=fun G0 H0 G H σ ρ R ds e q k=>h _ _ _ _ _ _ _ _ e q fun J G' H' x j=>k J G' H' x j.weak
section
variable {te:TE} {fe:ee->Option D} {ta:TA} {fa:ee->Option (List D)}
def qg (fe:ee->Option D):ee->Option (List D):=fun ρ=>match fe ρ with
 | some (.lst l)=>some l
 | _=>none
def Q9 (fe:ee->Option D):ee->Option (List D):=fun ρ=>match fe ρ with
 | some (.tup l)=>some l
 | _=>none
end
end
end L2
namespace L2
open PySem PySem.Spec PyProof.Rows
section
variable [Fr]
section
variable {te:TE} {fe:ee->Option D} {ta:TA} {fa:ee->Option (List D)}
theorem Reps.none_of {G:Hp} {vs:List V} {ds:List D} {i:Nat} (r:Reps G vs ds) (h:ds[i]?=none):vs.length<=i:=by rw [r.length];exact YV.mp h
theorem jdO {G1 H1:Hp} {a:Addr} {vs:List V} {ds:List D} (h:Rd H1 a (.lst vs)) (r:Reps G1 vs ds):Iter G1 H1 (Itl Fr.K a) ds:=fun i G H s1 s2 s3=>by have hq:Jn Fr.K H a vs:=.inl (h.same s2);refine ⟨fun d hd=>?_,fun hd=>⟨vs,hq,r.none_of hd⟩⟩;obtain ⟨v,h1,h2⟩:=r.get hd;refine ⟨⟨vs,v,hq,h1⟩,fun x H' y=>?_⟩;obtain ⟨e,y⟩:=y;subst e;have z:=y vs hq;rw [h1] at z;cases z;exact ⟨G,.refl s3,h2.mono s1⟩
theorem jj5 {G1 H1:Hp} {a:Addr} {vs:List V} {ds:List D} (h:H1 a=some (.tup vs)) (r:Reps G1 vs ds):Iter G1 H1 (Itt Fr.K a) ds:=fun i G H s1 s2 s3=>by have hq:SqT Fr.K H a vs:=.inl (.inl (s2 _ _ h));refine ⟨fun d hd=>?_,fun hd=>⟨vs,hq,r.none_of hd⟩⟩;obtain ⟨v,h1,h2⟩:=r.get hd;refine ⟨⟨vs,v,hq,h1⟩,fun x H' y=>?_⟩;obtain ⟨e,y⟩:=y;subst e;have z:=y vs hq;rw [h1] at z;cases z;exact ⟨G,.refl s3,h2.mono s1⟩
def rng (lo:Int) (n:Nat):List D:=(List.range n).map fun (i:Nat)=>D.int (lo+(i:Int))
theorem jla {G1 H1:Hp} {lo:Int} {n:Nat}:Iter G1 H1 (Itr lo n) (rng lo n):=fun i G H s1 s2 s3=>by
 refine ⟨fun d hd=>?_,fun hd=>?_⟩
 . unfold rng at hd;rw [List.getElem?_map] at hd;cases e:(List.range n)[i]? with
   | none=>rw [e] at hd;cases hd
   | some j=>rw [e] at hd;cases hd;obtain ⟨hi,hj⟩:=Yh.mp e;simp at hi hj;subst hj;refine ⟨hi,fun x H' y=>?_⟩;obtain ⟨e1,e2⟩:=y;subst e1 e2;exact ⟨G,.refl s3,.int _⟩
 . have:=YV.mp hd;simp [rng] at this;exact this
theorem Ext.newT {G H:Hp} {t:Addr} {o:HO} (s:Same G H) (hn:H t=none):Ext G H (upd G t o) (upd H t o):=(Ext.new s hn).freeze hn (s.free hn) jB
def jc4 (l m:List D):List D:=(l.zip m).map fun p=>.tup [p.1,p.2]
theorem jjJ {G1 H1:Hp} {a b:Addr} {vs us:List V} {ds es:List D} (h:Rd H1 a (.lst vs)) (h':Rd H1 b (.lst us)) (r:Reps G1 vs ds) (r':Reps G1 us es):Iter G1 H1 (Itz Fr.K a b) (jc4 ds es):=fun i G H s1 s2 s3=>by
 have hq:Jn Fr.K H a vs:=.inl (h.same s2);have hq':Jn Fr.K H b us:=.inl (h'.same s2);refine ⟨fun d hd=>?_,fun hd=>⟨vs,us,hq,hq',?_⟩⟩
 . unfold jc4 at hd;rw [List.getElem?_map] at hd;cases e:(ds.zip es)[i]? with
   | none=>rw [e] at hd;cases hd
   | some p=>rw [e] at hd;cases hd;obtain ⟨g1,g2⟩:=yv.mp e;obtain ⟨v,h1,h2⟩:=r.get g1;obtain ⟨u,h3,h4⟩:=r'.get g2;refine ⟨⟨vs,us,v,u,hq,hq',h1,h3⟩,fun x H' y=>?_⟩;obtain ⟨t,x',y',hn,e1,e2,y1,y2⟩:=y;subst e1 e2;have z1:=y1 vs hq;have z2:=y2 us hq';rw [h1] at z1;rw [h3] at z2;cases z1;cases z2;have x:=Ext.newT (o:=.tup [v,u]) s3 hn;exact ⟨_,x,.tup jB (.cons (h2.mono (s1.trans x.gg)) (.cons (h4.mono (s1.trans x.gg)) .nil))⟩
 . have:=YV.mp hd;simp [jc4] at this;rw [r.length,r'.length];omega
def jcw (l:List D):List D:=(l.zipIdx).map fun p=>.tup [.int p.2,p.1]
theorem jit {G1 H1:Hp} {a:Addr} {vs:List V} {ds:List D} (h:Rd H1 a (.lst vs)) (r:Reps G1 vs ds):Iter G1 H1 (Ite Fr.K a) (jcw ds):=fun i G H s1 s2 s3=>by
 have hq:Jn Fr.K H a vs:=.inl (h.same s2);refine ⟨fun d hd=>?_,fun hd=>⟨vs,hq,?_⟩⟩
 . unfold jcw at hd;rw [List.getElem?_map,List.getElem?_zipIdx] at hd;cases e:ds[i]? with
   | none=>rw [e] at hd;cases hd
   | some p=>rw [e] at hd;cases hd;obtain ⟨v,h1,h2⟩:=r.get e;refine ⟨⟨vs,v,hq,h1⟩,fun x H' y=>?_⟩;obtain ⟨t,x',hn,e1,e2,y1⟩:=y;subst e1 e2;have z1:=y1 vs hq;rw [h1] at z1;cases z1;have x:=Ext.newT (o:=.tup [.int i,v]) s3 hn;refine ⟨_,x,.tup jB (.cons ?_ (.cons (h2.mono (s1.trans x.gg)) .nil))⟩;simp;exact .int _
 . have:=YV.mp hd;simp [jcw] at this;rw [r.length];omega
theorem jco {ρ:ee} {ds:List D} (h:qg fe ρ=some ds):fe ρ=some (.lst ds):=by unfold qg at h;split at h <;> first | (cases h;assumption) | cases h
theorem jgJ {ρ:ee} {ds:List D} (h:Q9 fe ρ=some ds):fe ρ=some (.tup ds):=by unfold Q9 at h;split at h <;> first | (cases h;assumption) | cases h
theorem jnv (h:EOk te fe):IOk (jfv Fr.K te) (qg fe):=fun G0 H0 G H σ ρ R ds e q k=>by refine h _ _ _ _ _ _ _ _ e (jco q) fun v G' H' x r=>?_;obtain ⟨_,_,rfl,h,r⟩:=r.of_lst;exact ⟨_,rfl,⟨_,.inl (h.same x.gh)⟩,k _ G' H' x (jdO h r)⟩
theorem jlT (h:Ji te fe):jiV (jfv Fr.K te) (qg fe):=fun G0 H0 G H σ ρ R ds e q k=>by refine h _ _ _ _ _ _ _ _ e (jco q) fun v G' H' x r=>?_;obtain ⟨_,_,rfl,h,r⟩:=r.of_lst;exact ⟨_,rfl,⟨_,.inl h⟩,k _ G' H' x (jdO h r)⟩
theorem jqo (h:EOk te fe):IOk (jnC Fr.K te) (Q9 fe):=fun G0 H0 G H σ ρ R ds e q k=>by refine h _ _ _ _ _ _ _ _ e (jgJ q) fun v G' H' x r=>?_;obtain ⟨_,_,rfl,h,r⟩:=r.of_tup;exact ⟨_,rfl,⟨_,.inl (.inl (x.gh _ _ h))⟩,k _ G' H' x (jj5 h r)⟩
def Jt (fa:ee->Option (List D)):ee->Option (List D):=fun ρ=>match fa ρ with
 | some [.int j]=>if -(2 ^ 62)<=j/\j<2 ^ 62 then some (rng 0 j.toNat) else none
 | _=>none
theorem jow (h:jbd ta fa):IOk (jmQ ta) (Jt fa):=fun G0 H0 G H σ ρ R ds e q k=>by
 unfold Jt at q;split at q
 . rename_i j z;split at q
   . rename_i hb;cases q;refine h _ _ _ _ _ _ _ _ e z fun vs G' H' x r=>?_;cases r with
     | cons r t=>(have hh:=RepT.of_int r;subst hh);cases t;exact ⟨j,rfl,hb.1,hb.2,k _ G' H' x jla⟩
   . cases q
 . cases q
def QX (fa:ee->Option (List D)):ee->Option (List D):=fun ρ=>match fa ρ with
 | some [.lst l,.lst m]=>some (jc4 l m)
 | _=>none
theorem jou (h:jbd ta fa):jiV (jnD Fr.K ta) (QX fa):=fun G0 H0 G H σ ρ R ds e q k=>by
 unfold QX at q;split at q
 . rename_i l m z;cases q;refine h _ _ _ _ _ _ _ _ e z fun vs G' H' x r=>?_;cases r with
   | cons r t=>cases t with | cons r' t=>cases t;cases r with | lst h1 r1=>cases r' with | lst h2 r2=>exact ⟨_,_,_,_,rfl,.inl h1,.inl h2,k _ G' H' x (jjJ h1 h2 r1 r2)⟩
 . cases q
def jeU (fa:ee->Option (List D)):ee->Option (List D):=fun ρ=>match fa ρ with
 | some [.lst l]=>some (jcw l)
 | _=>none
theorem jo7 (h:AOk ta fa):IOk (jjw Fr.K ta) (jeU fa):=fun G0 H0 G H σ ρ R ds e q k=>by
 unfold jeU at q;split at q
 . rename_i l z;cases q;refine h _ _ _ _ _ _ _ _ e z fun vs G' H' x r=>?_;cases r with
   | cons r t=>cases t;cases r with | lst h1 r1=>exact ⟨_,_,rfl,.inl (h1.same x.gh),k _ G' H' x (jit h1 r1)⟩
 . cases q
end
def Qn (m:D->ee->Option ee) (B:FS):List D->FS
 | [],ρ=>.next ρ
 | d::ds,ρ=>match m d ρ with
   | none=>.fail
   | some ρ1=>match B ρ1 with
     | .next ρ2=>Qn m B ds ρ2
     | .cnt ρ2=>Qn m B ds ρ2
     | .brk ρ2=>.next ρ2
     | .ret d=>.ret d
     | .retO l=>.retO l
     | .fail=>.fail
def zP (fi:ee->Option (List D)) (m:D->ee->Option ee) (B:FS):FS:=fun ρ=>match fi ρ with
 | some ds=>Qn m B ds ρ
 | none=>.fail
theorem jqj {wi:TI} {fi:ee->Option (List D)} {g:TG} {m:D->ee->Option ee} {tb:TS} {B:FS} (hi:IOk wi fi) (hg:GOk g m) (hb:ZI tb B):ZI (jpt wi g tb) (zP fi m B):=fun G0 H0 G H σ ρ E e q=>by
 unfold zP at q;split at q
 . rename_i ds z;refine hi _ _ _ _ _ _ _ _ e z fun J G1 H1 x1 it=>?_;refine ⟨fun i n σ' H'=>n=ds.length-i/\i<=ds.length/\∃G' ρ',Same G1 G'/\EnvOk G0 H0 G' H' σ' ρ'/\ResOk G0 H0 G' (Qn m B (ds.drop i) ρ') E,⟨_,rfl,yH _,G1,ρ,.refl _,e.grow x1,q.mono x1.gg⟩,?_⟩;rintro i n σ' H' ⟨rfl,hl,G',ρ',s1,e1,q1⟩;obtain ⟨go,stop⟩:=it i G' H' s1 (s1.trans e1.same) e1.same;by_cases hlt:i<ds.length
   . have hd:ds[i]?=some ds[i]:=Ya hlt;obtain ⟨g1,g2⟩:=go _ hd;rw [KB hlt] at q1;simp only [Qn] at q1;split at q1
     . exact q1.elim
     . rename_i ρ1 hm;refine .inr ⟨g1,fun σ2 H2=>∃G2 ρ2,Same G1 G2/\EnvOk G0 H0 G2 H2 σ2 ρ2/\ResOk G0 H0 G2 (Qn m B (ds.drop (i+1)) ρ2) E,fun σ2 H2 ⟨G2,ρ2,a1,a2,a3⟩=>⟨_,by omega,rfl,hlt,G2,ρ2,a1,a2,a3⟩,fun x H2 y=>?_⟩;obtain ⟨G2,x2,r2⟩:=g2 x H2 y;refine hg _ _ _ _ _ _ _ _ _ _ (e1.grow x2) r2 hm fun σ2 e2=>hb _ _ _ _ _ _ _ e2 ?_;have q2:=q1.mono x2.gg;have s2:=s1.trans x2.gg;cases hB:B ρ1 with
       | next ρ2=>rw [hB] at q2;exact fun G3 H3 σ3 s3 e3=>⟨G3,ρ2,s2.trans s3,e3,q2.mono s3⟩
       | cnt ρ2=>rw [hB] at q2;exact fun G3 H3 σ3 s3 e3=>⟨G3,ρ2,s2.trans s3,e3,q2.mono s3⟩
       | brk ρ2=>rw [hB] at q2;exact q2
       | ret d=>rw [hB] at q2;exact q2
       | retO d=>rw [hB] at q2;exact q2
       | fail=>rw [hB] at q2;exact q2
   . have hd:ds[i]?=none:=YV.mpr (by omega);rw [KW (by omega)] at q1;exact .inl ⟨stop hd,q1 G' H' σ' (.refl _) e1⟩
 . exact q.elim
def wh (c:ee->Option Bool) (B:FS):Nat->ee->Option Res
 | 0,_=>none
 | n+1,ρ=>match c ρ with
   | none=>some .fail
   | some false=>some (.next ρ)
   | some true=>match B ρ with
     | .next ρ2=>wh c B n ρ2
     | .cnt ρ2=>wh c B n ρ2
     | .brk ρ2=>some (.next ρ2)
     | .ret d=>some (.ret d)
     | .retO l=>some (.retO l)
     | .fail=>some .fail
open Classical in
def QF (c:ee->Option Bool) (B:FS):FS:=fun ρ=>if h:∃n r,wh c B n ρ=some r then h.choose_spec.choose else .fail
omit [Fr] in
theorem jhE {c:ee->Option Bool} {B:FS}:∀{n k:Nat} {ρ:ee} {r:Res},wh c B n ρ=some r->wh c B (n+k) ρ=some r
 | 0,_,_,_,h=>by cases h
 | n+1,k,ρ,r,h=>by
   rw [Nat.add_right_comm];unfold wh at h ⊢;cases hc:c ρ with
   | none=>rw [hc] at h;exact h
   | some b=>
     rw [hc] at h;cases b with
     | false=>exact h
     | true=>
       dsimp only at h ⊢;cases hB:B ρ with
       | next ρ2=>rw [hB] at h;exact jhE h
       | cnt ρ2=>rw [hB] at h;exact jhE h
       | brk ρ2=>rw [hB] at h;exact h
       | ret d=>rw [hB] at h;exact h
       | retO d=>rw [hB] at h;exact h
       | fail=>rw [hB] at h;exact h
omit [Fr] in
theorem jox {c:ee->Option Bool} {B:FS} {n k:Nat} {ρ:ee} {r r':Res} (h:wh c B n ρ=some r) (h':wh c B k ρ=some r'):r=r':=by have a:=jhE (k:=k) h;have b:=jhE (k:=n) h';rw [Nat.add_comm k n,a] at b;exact Option.some.inj b
omit [Fr] in
theorem jd3 {c:ee->Option Bool} {B:FS} {n:Nat} {ρ:ee} {r:Res} (h:wh c B n ρ=some r):QF c B ρ=r:=by unfold QF;have hx:∃n r,wh c B n ρ=some r:=⟨n,r,h⟩;rw [dif_pos hx];exact jox hx.choose_spec.choose_spec h
theorem jmx {tc:TT} {c:ee->Option Bool} {tb:TS} {B:FS} (hc:TOk tc c) (hb:ZI tb B):ZI (jgI tc tb) (QF c B):=fun G0 H0 G H σ ρ E e q=>by
 by_cases hx:∃n r,wh c B n ρ=some r
 . obtain ⟨n,r,hr⟩:=hx;rw [jd3 hr] at q;refine ⟨fun n σ' H'=>∃G' ρ' r,EnvOk G0 H0 G' H' σ' ρ'/\wh c B n ρ'=some r/\ResOk G0 H0 G' r E,⟨n,G,ρ,r,e,hr,q⟩,?_⟩;rintro n σ' H' ⟨G',ρ',r,e1,h1,q1⟩;cases n with
   | zero=>cases h1
   | succ n=>
     unfold wh at h1;split at h1
     . cases h1;exact q1.elim
     . rename_i z;cases h1;exact hc _ _ _ _ _ _ _ _ e1 z fun G2 H2 x=>by rw [if_neg Yo];exact q1 G2 H2 σ' x.gg (e1.grow x)
     . rename_i z;refine hc _ _ _ _ _ _ _ _ e1 z fun G2 H2 x=>?_;rw [if_pos rfl];refine ⟨fun σ2 H2=>∃G' ρ' r,EnvOk G0 H0 G' H2 σ2 ρ'/\wh c B n ρ'=some r/\ResOk G0 H0 G' r E,fun σ2 H2 w=>⟨n,yT n,w⟩,hb _ _ _ _ _ _ _ (e1.grow x) ?_⟩;have q2:=q1.mono x.gg;cases hB:B ρ' with
       | next ρ2=>rw [hB] at h1;exact fun G3 H3 σ3 s3 e3=>⟨G3,ρ2,r,e3,h1,q2.mono s3⟩
       | cnt ρ2=>rw [hB] at h1;exact fun G3 H3 σ3 s3 e3=>⟨G3,ρ2,r,e3,h1,q2.mono s3⟩
       | brk ρ2=>rw [hB] at h1;cases h1;exact q2
       | ret d=>rw [hB] at h1;cases h1;exact q2
       | retO d=>rw [hB] at h1;cases h1;exact q2
       | fail=>rw [hB] at h1;cases h1;exact q2
 . unfold QF at q;rw [dif_neg hx] at q;exact q.elim
def Jr (n:Nat) (ix:List Nat) (ρ:ee):ee:=List.replicate n .un++ix.map fun k=>match ρ[k]? with
 | some (.sh d)=>.sh d
 | _=>.un
theorem jkd {G0 H0 G H:Hp} {σ:St} {ρ:ee} (n:Nat) (ix:List Nat) (e:EnvOk G0 H0 G H σ ρ):EnvOk G0 H0 G H (JJ n σ ix) (Jr n ix ρ):=by
 have key:∀(i:Nat) s,(Jr n ix ρ)[i]?=some s->s=.un\/∃d k,s=.sh d/\n<=i/\ix[i-n]?=some k/\ρ[k]?=some (.sh d):=fun i s h=>by
  unfold Jr at h;rcases YT i n with hi | hi
  . rw [YB ‹"an"›,List.getElem?_replicate] at h;simp [hi] at h;exact .inl h.symm
  . rw [YC ‹"an"›,List.length_replicate,List.getElem?_map] at h;cases e1:ix[i-n]? with
    | none=>rw [e1] at h;cases h
    | some k=>
      rw [e1] at h;simp only [Yi,Option.some.injEq] at h;split at h
      . rename_i d hd;exact .inr ⟨d,k,h.symm,hi,rfl,hd⟩
      . exact .inl h.symm
 refine ⟨e.ext,by simp [JJ,Jr,capt],fun i o s h1 h2=>?_,fun i j o o' s s' b h1 h2 h3 h4 f f'=>?_⟩
 . rcases key i s h2 with rfl | ⟨d,k,rfl,hi,hk,hd⟩
   . exact .un _
   . obtain ⟨v,hv,r⟩:=e.sh hd;unfold JJ at h1;rw [YC ‹"an"›,List.length_replicate] at h1;unfold capt at h1;rw [List.getElem?_map,hk] at h1;simp only [Yi,Option.some.injEq] at h1;rw [hv] at h1;subst h1;exact .sh r
 . rcases key i _ h2 with z | ⟨d,k,z,_⟩
   . subst z;cases o with | none=>exact f.elim | some v=>cases v <;> exact f.elim
   . subst z;cases o with | none=>exact f.elim | some v=>cases v <;> exact f.elim
def Q3 (m:D->ee->Option ee) (ft:ee->Option Bool) (fe:ee->Option D) (ρ:ee):List D->Option (List D)
 | []=>some []
 | d::ds=>(m d ρ).bind fun ρ1=>(ft ρ1).bind fun b=>if b then (fe ρ1).bind fun y=>(Q3 m ft fe ρ ds).map (y::·) else Q3 m ft fe ρ ds
def JV (fi:ee->Option (List D)) (m:D->ee->Option ee) (ft:ee->Option Bool) (fe:ee->Option D) (n:Nat) (ix:List Nat):ee->Option (List D):=fun ρ=>(fi ρ).bind fun ds=>if Jm ds.length then Q3 m ft fe (Jr n ix ρ) ds else none
theorem jnF {wi:TI} {fi:ee->Option (List D)} {g:TG} {m:D->ee->Option ee} {tt:TT} {ft:ee->Option Bool} {te:TE} {fe:ee->Option D} (n:Nat) (ix:List Nat) (hi:jiV wi fi) (hg:GOk g m) (ht:TOk tt ft) (he:EOk te fe) :
 EOkO (tLC wi g tt te n ix) (JV fi m ft fe n ix):=fun G0 H0 G H σ ρ Q es e q k=>by
 obtain ⟨ds,q1,q2⟩:=bind_some q;split at q2
 . rename_i hz;refine hi _ _ _ _ _ _ _ _ e q1 fun J G1 H1 x1 it=>?_;refine ⟨fun i n' ys H'=>n'=ds.length-i/\i<=ds.length/\ys.length<=i/\∃G' gs hs,Ext G1 H1 G' H'/\Reps G' ys gs/\Q3 m ft fe (Jr n ix ρ) (ds.drop i)=some hs/\gs++hs=es,⟨_,rfl,yH _,Ys _,G1,[],es,.refl x1.gh,.nil,q2,rfl⟩,?_⟩;rintro i n' ys H' ⟨rfl,hl,hy,G',gs,hs,x2,r2,hlc,hes⟩;have hz':=Zp hz;obtain ⟨go,stop⟩:=it i G' H' x2.gg x2.hh x2.gh;by_cases hlt:i<ds.length
   . have hd:ds[i]?=some ds[i]:=Ya hlt;obtain ⟨g1,g2⟩:=go _ hd;rw [KB hlt] at hlc;simp only [Q3] at hlc;obtain ⟨ρ1,hm,hlc⟩:=bind_some hlc;obtain ⟨b,hb,hlc⟩:=bind_some hlc;refine .inr ⟨g1,by omega,fun ys' H'=>ys'.length<=i+1/\∃G' gs hs,Ext G1 H1 G' H'/\Reps G' ys' gs/\Q3 m ft fe (Jr n ix ρ) (ds.drop (i+1))=some hs/\gs++hs=es,fun ys' H' ⟨a0,a⟩=>⟨_,by omega,rfl,hlt,a0,a⟩,fun x H2 y=>?_⟩;obtain ⟨G2,x3,r3⟩:=g2 x H2 y;have e3:EnvOk G0 H0 G2 H2 (JJ n σ ix) (Jr n ix ρ):=(jkd n ix e).grow ‹"aE"›;refine hg _ _ _ _ _ _ _ _ _ _ e3 r3 hm fun σ2 e4=>ht _ _ _ _ _ _ _ _ e4 hb fun G4 H4 x4=>?_;have x24:=(x2.trans x3).trans x4;cases b with
     | false=>rw [if_neg Yo] at hlc ⊢;exact ⟨by omega,G4,gs,hs,x24,r2.mono (x3.trans x4).gg,hlc,hes⟩
     | true=>rw [if_pos rfl] at hlc ⊢;obtain ⟨y',hy',hlc⟩:=bind_some hlc;obtain ⟨hs',hh,hlc⟩:=map_some hlc;subst hlc;refine he _ _ _ _ _ _ _ _ (e4.grow x4) hy' fun v G5 H5 x5 r5=>⟨by simp;omega,G5,gs++[y'],hs',x24.trans x5,((r2.mono ((x3.trans x4).trans x5).gg).snoc r5),hh,by simpa using hes⟩
   . have hd:ds[i]?=none:=YV.mpr (by omega);rw [KW (by omega)] at hlc;cases hlc;rw [Kd] at hes;subst hes;refine .inl ⟨stop hd,by omega,fun p hp=>?_⟩;exact k p ys G' _ ((x1.trans x2).trans (.new x2.gh hp)) ((x1.trans x2).hh.free hp) (x2.gh.free hp) jB r2
 . cases q2
def qK (n:Nat) (ds:List D):ee:=ds.map .sh++List.replicate (n-ds.length) .un
def jdm:Res->Option D
 | .ret d=>some d
 | .retO es=>some (.lst es)
 | .next _=>some .non
 | _=>none
def jbQ:Res->Option (List D)
 | .retO es=>some es
 | _=>none
def zb (k n:Nat) (F:FS) (ds:List D):Option D:=if ds.length=k then jdm (F (qK n ds)) else none
def J9 (k n:Nat) (F:FS) (ds:List D):Option (List D):=if ds.length=k then jbQ (F (qK n ds)) else none
theorem jio {G H:Hp} {vs:List V} {ds:List D} {k n:Nat} (s:Same G H) (r:Reps G vs ds) (hk:k=n-vs.length):EnvOk G H G H (vs.map some++List.replicate k none) (qK n ds):=by
 have hl:=r.length;refine ⟨.refl s,by simp [qK,hl,hk],fun i o s' h1 h2=>?_,fun i j o o' s s' b h1 h3 _ _ f _=>?_⟩
 . unfold qK at h2;rcases YT i ds.length with hi | hi
   . rw [YB ‹"an"›,List.getElem?_map] at h2;rw [YB (by simpa [hl] using hi),List.getElem?_map] at h1;have hd:ds[i]?=some ds[i]:=Ya hi;obtain ⟨v,g1,g2⟩:=r.get hd;rw [g1] at h1;rw [hd] at h2;cases h1;cases h2;exact .sh g2
   . rw [YC ‹"an"›,List.getElem?_replicate] at h2;split at h2
     . cases h2;exact .un _
     . cases h2
 . exfalso;unfold qK at h3;rcases YT i ds.length with hi | hi
   . rw [YB ‹"an"›,List.getElem?_map] at h3;have hd:ds[i]?=some ds[i]:=Ya hi;rw [hd] at h3;cases h3;cases o with | none=>exact f.elim | some v=>cases v <;> exact f.elim
   . rw [YC ‹"an"›,List.getElem?_replicate] at h3;split at h3
     . cases h3;cases o with | none=>exact f.elim | some v=>cases v <;> exact f.elim
     . cases h3
theorem jp3 {k n:Nat} {F:FS} {vs:List V} {H:Hp} {Q:VK} {E:XK} (q:spS (zb k n F) vs H Q E):vs.length=k:=by
 obtain ⟨G,ds,d,s,r,hf,fin⟩:=q;unfold zb at hf;split at hf
 . rename_i h;rw [r.length];exact h
 . cases hf
theorem jqP {k n:Nat} {F:FS} {vs:List V} {H:Hp} {Q:VK} {E:XK} (q:spO (J9 k n F) vs H Q E):vs.length=k:=by
 obtain ⟨G,ds,d,s,r,hf,fin⟩:=q;unfold J9 at hf;split at hf
 . rename_i h;rw [r.length];exact h
 . cases hf
theorem jn8 {t:TS} {F:FS} {a n k:Nat} {vs:List V} {H:Hp} {Q:VK} {E:XK} (h:ZI t F) (hk:k=n-vs.length) (q:spS (zb a n F) vs H Q E):t { nx:=fun _ H'=>Q .non H',rt:=Q } (vs.map some++List.replicate k none) H:=by
 obtain ⟨G,ds,d,s,r,hf,fin⟩:=q;refine h G H G H _ _ _ (jio s r hk) ?_;unfold zb at hf;split at hf
 . cases z:F (qK n ds) with
   | next ρ=>rw [z] at hf;cases hf;exact fun G' H' σ _ e=>fin _ G' H' e.ext .non
   | ret d=>rw [z] at hf;cases hf;exact fun G' H' v x r=>fin v G' H' x r
   | retO es=>rw [z] at hf;cases hf;exact fun G' H' a us x hn hg hh r=>fin _ _ H' (x.freeze hn hg hh) (.lst (.inl jB) (r.mono (.upd hg)))
   | brk _=>rw [z] at hf;cases hf
   | cnt _=>rw [z] at hf;cases hf
   | fail=>rw [z] at hf;cases hf
 . cases hf
theorem joY {t:TS} {F:FS} {a n k:Nat} {vs:List V} {H:Hp} {Q:VK} {E:XK} (h:ZI t F) (hk:k=n-vs.length) (q:spO (J9 a n F) vs H Q E):t { nx:=fun _ H'=>Q .non H',rt:=Q } (vs.map some++List.replicate k none) H:=by
 obtain ⟨G,ds,d,s,r,hf,fin⟩:=q;refine h G H G H _ _ _ (jio s r hk) ?_;unfold J9 at hf;split at hf
 . cases z:F (qK n ds) with
   | retO es=>rw [z] at hf;cases hf;exact fun G' H' a us x hn hg hh r=>fin a us G' H' x hn hg hh r
   | _=>rw [z] at hf;cases hf
 . cases hf
end
end L2
namespace L2
open PySem PySem.Spec PyProof.Rows
def jaL:List D->Option (List Int)
 | []=>some []
 | .int i::l=>(jaL l).map (i::·)
 | _=>none
theorem Zz:∀ns:List Int,jaL (ns.map D.int)=some ns
 | []=>rfl
 | n::ns=>by simp [jaL,Zz ns]
theorem QL:∀{l:List D} {ns:List Int},jaL l=some ns->l=ns.map D.int
 | [],_,h=>by cases h;rfl
 | .int i::l,ns,h=>by obtain ⟨ms,h1,h2⟩:=map_some h;subst h2;rw [QL h1];rfl
 | .bl _::_,_,h=>by cases h
 | .non::_,_,h=>by cases h
 | .str _::_,_,h=>by cases h
 | .lst _::_,_,h=>by cases h
 | .tup _::_,_,h=>by cases h
 | .scr _::_,_,h=>by cases h
def jfx:List D->Option (List Bool)
 | []=>some []
 | .bl i::l=>(jfx l).map (i::·)
 | _=>none
theorem jaw:∀ns:List Bool,jfx (ns.map D.bl)=some ns
 | []=>rfl
 | n::ns=>by simp [jfx,jaw ns]
theorem jdL:∀{l:List D} {ns:List Bool},jfx l=some ns->l=ns.map D.bl
 | [],_,h=>by cases h;rfl
 | .bl i::l,ns,h=>by obtain ⟨ms,h1,h2⟩:=map_some h;subst h2;rw [jdL h1];rfl
 | .int _::_,_,h=>by cases h
 | .non::_,_,h=>by cases h
 | .str _::_,_,h=>by cases h
 | .lst _::_,_,h=>by cases h
 | .tup _::_,_,h=>by cases h
 | .scr _::_,_,h=>by cases h
section
variable [Fr]
theorem RepTs.one {G H:Hp} {xs:List V} {d:D} (h:RepTs G H xs [d]):∃v,xs=[v]/\RepT G H v d:=by cases h with | cons r t=>cases t;exact ⟨_,rfl,r⟩
theorem RepTs.two {G H:Hp} {xs:List V} {d e:D} (h:RepTs G H xs [d,e]):∃v u,xs=[v,u]/\RepT G H v d/\RepT G H u e:=by cases h with | cons r t=>cases t with | cons r' t=>cases t;exact ⟨_,_,rfl,r,r'⟩
theorem RepTs.three {G H:Hp} {xs:List V} {d e f:D} (h:RepTs G H xs [d,e,f]):∃v u w,xs=[v,u,w]/\RepT G H v d/\RepT G H u e/\RepT G H w f:=by cases h with | cons r t=>cases t with | cons r' t=>cases t with | cons r2 t=>cases t;exact ⟨_,_,_,rfl,r,r',r2⟩
section
variable {As:TA} {fs:ee->Option (List D)} {ta:TE} {fa:ee->Option D}
def qj:List D->Option D
 | [.lst l]=>some (.int l.length)
 | [.tup l]=>some (.int l.length)
 | [.scr l]=>some (.int l.length)
 | [.str z]=>if z.length<=sizeLine then some (.int z.length) else none
 | _=>none
theorem jkc {ds:List D} {d:D} (q:qj ds=some d):(∃l,ds=[.lst l]/\D.int l.length=d)\/(∃l,ds=[.tup l]/\D.int l.length=d)\/(∃l,ds=[.scr l]/\D.int l.length=d)\/∃z,ds=[.str z]/\z.length<=sizeLine/\D.int z.length=d:=by
 cases ds with
 | nil=>exact qo q
 | cons x t=>
   cases t with
   | cons y t=>cases x <;> exact qo q
   | nil=>
     cases x with
     | lst l=>exact .inl ⟨l,rfl,Option.some.inj q⟩
     | tup l=>exact .inr (.inl ⟨l,rfl,Option.some.inj q⟩)
     | scr l=>exact .inr (.inr (.inl ⟨l,rfl,Option.some.inj q⟩))
     | str z=>
       by_cases c:z.length<=sizeLine
       . exact .inr (.inr (.inr ⟨z,rfl,c,Option.some.inj ((if_pos c).symm.trans q)⟩))
       . exact qo ((if_neg c).symm.trans q)
     | _=>exact qo q
theorem jpp:jeB (fun xs H Q=>(∃p ys,xs=[.ref p]/\(Jn Fr.K H p ys\/SqT Fr.K H p ys)/\Q (.int ys.length) H)\/∃z,xs=[.str z]/\z.length<=sizeLine/\Q (.int z.length) H) qj:=fun G H xs ds d Q s rr q k=>by
 rcases jkc q with ⟨l,rfl,rfl⟩ | ⟨l,rfl,rfl⟩ | ⟨l,rfl,rfl⟩ | ⟨z,rfl,hz,rfl⟩
 . obtain ⟨v,rfl,r⟩:=rr.one;cases r with | lst h r=>exact .inl ⟨_,_,rfl,.inl (.inl h),by rw [r.length];exact k _ G H (.refl s) (.int _)⟩
 . obtain ⟨v,rfl,r⟩:=rr.one;cases r with | tup h r=>exact .inl ⟨_,_,rfl,.inr (.inl (.inl h)),by rw [r.length];exact k _ G H (.refl s) (.int _)⟩
 . obtain ⟨v,rfl,r⟩:=rr.one;cases r with | scr h=>exact .inl ⟨_,_,rfl,.inl h,by rw [Yc];exact k _ G H (.refl s) (.int _)⟩
 . obtain ⟨v,rfl,r⟩:=rr.one
   (have hh:=RepT.of_str r;subst hh)
   exact .inr ⟨_,rfl,hz,k _ G H (.refl s) (.int _)⟩
def J4:List D->Option (List D)
 | [.lst l]=>some l
 | [.tup l]=>some l
 | _=>none
theorem jnP:jfC (fun xs H Q=>∃p ys,xs=[.ref p]/\(Jn Fr.K H p ys\/SqT Fr.K H p ys)/\∀l,H l=none->Q (.ref l) (upd H l (.lst ys))) J4:=fun G H xs ds d Q s rr q k=>by
 unfold J4 at q;split at q
 . cases q;obtain ⟨v,rfl,r⟩:=rr.one;cases r with | lst h r=>exact ⟨_,_,rfl,.inl (.inl h),fun l hl=>k l _ G _ (.new s hl) hl (s.free hl) jB r⟩
 . cases q;obtain ⟨v,rfl,r⟩:=rr.one;cases r with | tup h r=>exact ⟨_,_,rfl,.inr (.inl (.inl h)),fun l hl=>k l _ G _ (.new s hl) hl (s.free hl) jB r⟩
 . cases q
def jm9:List D->Option D
 | [.lst l]=>some (.tup l)
 | _=>none
def jbP:List D->Option D
 | [.lst l]=>(jaL l).map fun ns=>.int ns.sum
 | _=>none
theorem jqH:jeB (fun xs H Q=>∃(p:Addr) (ns:List Int),xs=[.ref p]/\Jn Fr.K H p (ns.map V.int)/\Q (.int ns.sum) H) jbP:=fun G H xs ds d Q s rr q k=>by
 unfold jbP at q;split at q
 . obtain ⟨ns,q1,q2⟩:=map_some q;subst q2;obtain ⟨v,rfl,r⟩:=rr.one;obtain ⟨_,_,rfl,h,r⟩:=r.of_lst;rw [QL q1] at r;rw [r.ints] at h;exact ⟨_,ns,rfl,.inl h,k _ G H (.refl s) (.int _)⟩
 . cases q
def jdz:List D->Option D
 | [.lst l]=>(jfx l).map fun ns=>.bl (ns.all id)
 | _=>none
theorem jqu:jeB (fun xs H Q=>∃(p:Addr) (ns:List Bool),xs=[.ref p]/\Jn Fr.K H p (ns.map V.bl)/\Q (.bl (ns.all id)) H) jdz:=fun G H xs ds d Q s rr q k=>by
 unfold jdz at q;split at q
 . obtain ⟨ns,q1,q2⟩:=map_some q;subst q2;obtain ⟨v,rfl,r⟩:=rr.one;obtain ⟨_,_,rfl,h,r⟩:=r.of_lst;rw [jdL q1] at r;rw [r.bls] at h;exact ⟨_,ns,rfl,.inl h,k _ G H (.refl s) (.bl _)⟩
 . cases q
def ZL:List D->Option D
 | [.int i,.int j]=>some (.int (if j<i then j else i))
 | _=>none
def jbB:List D->Option D
 | [.int i,.int j]=>some (.int (if j>i then j else i))
 | _=>none
theorem joF:jeB (fun xs H Q=>∃i j,xs=[.int i,.int j]/\Q (.int (if j<i then j else i)) H) ZL:=fun G H xs ds d Q s rr q k=>by
 unfold ZL at q;split at q
 . cases q;obtain ⟨v,u,rfl,r,r'⟩:=rr.two
   (have hh:=RepT.of_int r;subst hh)
   (have hh:=RepT.of_int r';subst hh)
   exact ⟨_,_,rfl,k _ G H (.refl s) (.int _)⟩
 . cases q
theorem jnM:jeB (fun xs H Q=>∃i j,xs=[.int i,.int j]/\Q (.int (if j>i then j else i)) H) jbB:=fun G H xs ds d Q s rr q k=>by
 unfold jbB at q;split at q
 . cases q;obtain ⟨v,u,rfl,r,r'⟩:=rr.two
   (have hh:=RepT.of_int r;subst hh)
   (have hh:=RepT.of_int r';subst hh)
   exact ⟨_,_,rfl,k _ G H (.refl s) (.int _)⟩
 . cases q
def jcC (i j k:Int):Int:=if k<(if j<i then j else i) then k else if j<i then j else i
def jbH:List D->Option D
 | [.int i,.int j,.int k]=>some (.int (jcC i j k))
 | _=>none
theorem jo0:jeB (fun xs H Q=>∃i j k,xs=[.int i,.int j,.int k]/\Q (.int (jcC i j k)) H) jbH:=fun G H xs ds d Q s rr q k=>by
 unfold jbH at q;split at q
 . cases q;obtain ⟨v,u,w,rfl,r,r',r2⟩:=rr.three
   (have hh:=RepT.of_int r;subst hh)
   (have hh:=RepT.of_int r';subst hh)
   (have hh:=RepT.of_int r2;subst hh)
   exact ⟨_,_,_,rfl,k _ G H (.refl s) (.int _)⟩
 . cases q
def jiM:List D->Option D
 | [.int i]=>some (.int i)
 | [.bl b]=>some (.int (if b then 1 else 0))
 | _=>none
theorem jp2:jeB (fun xs H Q=>(∃i,xs=[.int i]/\Q (.int i) H)\/∃k,xs=[.bl k]/\Q (.int (if k then 1 else 0)) H) jiM:=fun G H xs ds d Q s rr q k=>by
 unfold jiM at q;split at q
 . cases q;obtain ⟨v,rfl,r⟩:=rr.one
   (have hh:=RepT.of_int r;subst hh)
   exact .inl ⟨_,rfl,k _ G H (.refl s) (.int _)⟩
 . cases q;obtain ⟨v,rfl,r⟩:=rr.one
   (have hh:=RepT.of_bl r;subst hh)
   exact .inr ⟨_,rfl,k _ G H (.refl s) (.int _)⟩
 . cases q
def dIs:D->D->Option D
 | .bl a,.bl b=>some (.bl (decide (a=b)))
 | _,_=>none
def jmT:D->D->Option D
 | .bl a,.bl b=>some (.bl (!decide (a=b)))
 | _,_=>none
def vOf:D->V
 | .int i=>.int i
 | .bl b=>.bl b
 | .str z=>.str z
 | _=>.non
theorem RepT.v {G H:Hp} {v:V} {d:D} (r:RepT G H v d) (f:qG d=true):v=vOf d:=by cases r <;> first | rfl | cases f
theorem Rep.v {G:Hp} {v:V} {d:D} (r:Rep G v d) (f:qG d=true):v=vOf d:=by cases r <;> first | rfl | cases f
theorem J5 {d:D} (f:qG d=true):Qg (vOf d)=true:=by cases d <;> first | rfl | cases f
theorem Reps.v {G:Hp}:∀{vs:List V} {ds:List D},Reps G vs ds->ds.all qG=true->vs=ds.map vOf
 | _,_,.nil,_=>rfl
 | _,_,.cons r t,h=>by simp only [Kx,yi] at h;rw [r.v h.1,Reps.v t h.2];rfl
def dIn (neg:Bool):D->D->Option D:=fun x y=>match y with
 | .lst l=>if qG x && l.all qG then some (.bl (if neg then !inV (vOf x) (l.map vOf) else inV (vOf x) (l.map vOf))) else none
 | .tup l=>if qG x && l.all qG then some (.bl (if neg then !inV (vOf x) (l.map vOf) else inV (vOf x) (l.map vOf))) else none
 | _=>none
theorem jfg {l:List D} (h:l.all qG=true):(l.map vOf).all Qg=true:=by
 induction l with
 | nil=>rfl
 | cons d l ih=>simp only [Kx,yi] at h;simp only [List.map_cons,Kx,J5 h.1,ih h.2,Bool.and_self]
theorem jrq {neg:Bool}:ROk (rIn Fr.K neg) (dIn neg):=fun G H x y dx dy d Q s rx ry q k=>by
 unfold dIn at q;split at q
 . split at q
   . rename_i hf;cases q;simp only [yi] at hf;obtain ⟨_,_,rfl,h,r⟩:=ry.of_lst;rw [r.v hf.2] at h;rw [rx.v hf.1];exact ⟨_,_,rfl,.inl (.inl h),J5 hf.1,jfg hf.2,k _ G H (.refl s) (.bl _)⟩
   . cases q
 . split at q
   . rename_i hf;cases q;simp only [yi] at hf;obtain ⟨_,_,rfl,h,r⟩:=ry.of_tup;rw [r.v hf.2] at h;rw [rx.v hf.1];exact ⟨_,_,rfl,.inr (.inl (.inl h)),J5 hf.1,jfg hf.2,k _ G H (.refl s) (.bl _)⟩
   . cases q
 . cases q
def jew (xs:List D) (lo hi:Option Int):List D:=(xs.drop (HT.sIx xs.length 0 lo)).take ‹"aI"›
def POk (t:TO) (f:ee->Option (Option Int)):Prop:=∀G0 H0 G H σ ρ (Q:Option Int->Hp->Prop) b,EnvOk G0 H0 G H σ ρ->f ρ=some b->(∀G' H',Ext G H G' H'->Q b H')->t σ H Q
def pNo:ee->Option (Option Int):=fun _=>some none
def pSo (fa:ee->Option D):ee->Option (Option Int):=fun ρ=>match fa ρ with
 | some (.int i)=>some (some i)
 | _=>none
theorem jrG:POk jhG pNo:=fun G0 H0 G H σ ρ Q b e q k=>by cases q;exact k G H (.refl e.same)
theorem jrs (h:Ji ta fa):POk (jnb ta) (pSo fa):=fun G0 H0 G H σ ρ Q b e q k=>by
 unfold pSo at q;split at q
 . rename_i i z;cases q;refine h _ _ _ _ _ _ _ _ e z fun v G' H' x r=>?_
   (have hh:=RepT.of_int r;subst hh)
   exact ⟨_,rfl,k G' H' x⟩
 . cases q
def eSl (fa:ee->Option D) (fl fh:ee->Option (Option Int)):ee->Option (List D):=fun ρ=>match fa ρ,fl ρ,fh ρ with
 | some (.lst l),some lo,some hi=>some (jew l lo hi)
 | some (.scr ns),some lo,some hi=>some (jew (ns.map .int) lo hi)
 | _,_,_=>none
theorem jrE {tl th:TO} {fl fh:ee->Option (Option Int)} (h:Ji ta fa) (hl:POk tl fl) (hh:POk th fh):EOkO (tSl (joz Fr.K) ta tl th) (eSl fa fl fh):=fun G0 H0 G H σ ρ Q ds e q k=>by
 unfold eSl at q;split at q
 . rename_i l lo hi z1 z2 z3;cases q;refine h _ _ _ _ _ _ _ _ e z1 fun v G1 H1 x1 r=>hl _ _ _ _ _ _ _ _ (e.grow x1) z2 fun G2 H2 x2=>hh _ _ _ _ _ _ _ _ ((e.grow x1).grow x2) z3 fun G3 H3 x3=>?_;obtain ⟨_,_,rfl,h,r⟩:=r.of_lst;have x:=(x1.trans x2).trans x3;have r3:=r.mono (x2.trans x3).gg;refine ⟨_,_,rfl,.inl (h.same (x2.trans x3).hh),fun p hp=>k p _ G3 _ (x.trans (.new x3.gh hp)) (x.hh.free hp) (x3.gh.free hp) jB ?_⟩;unfold jiU jew;rw [r.length];exact (r3.drop _).take _
 . rename_i ns lo hi z1 z2 z3;cases q;refine h _ _ _ _ _ _ _ _ e z1 fun v G1 H1 x1 r=>hl _ _ _ _ _ _ _ _ (e.grow x1) z2 fun G2 H2 x2=>hh _ _ _ _ _ _ _ _ ((e.grow x1).grow x2) z3 fun G3 H3 x3=>?_;obtain ⟨_,rfl,h⟩:=r.of_scr;have x:=(x1.trans x2).trans x3;refine ⟨_,_,rfl,(x2.trans x3).hh.seq h,fun p hp=>k p _ G3 _ (x.trans (.new x3.gh hp)) (x.hh.free hp) (x3.gh.free hp) jB ?_⟩;unfold jiU jew;rw [Yc,Yc];exact ((Reps.of_ints ns).drop _).take _
 . cases q
def QJ (T:String):D->Option Bool
 | .int _=>some (T == "int")
 | .bl _=>some (T == "bool" || T == "int")
 | .non=>some false
 | .str _=>some (T == "str")
 | .lst _=>some (T == "list")
 | .tup _=>some (T == "tuple")
 | .scr _=>none
 | .dic _ _=>none
def QN (T:String) (fa:ee->Option D):ee->Option D:=fun ρ=>(fa ρ).bind fun d=>(QJ T d).map .bl
def eLZ (fs:ee->Option (List D)):ee->Option (List D):=fun ρ=>match fs ρ with
 | some [.lst l,.lst m]=>if Jm l.length then some (jc4 l m) else none
 | _=>none
theorem jrz (h:jbd As fs):EOkO (jdi Fr.K As) (eLZ fs):=fun G0 H0 G H σ ρ Q ds e q k=>by
 unfold eLZ at q;split at q
 . rename_i l m z;split at q
   . rename_i hz;cases q;refine h _ _ _ _ _ _ _ _ e z fun vs G1 H1 x1 rr=>?_;obtain ⟨v,u,rfl,r1,r2⟩:=rr.two;cases r1 with
     | @lst a vs l h1 r1=>
       cases r2 with
       | @lst b us m h2 r2=>
         refine ⟨a,b,vs,us,rfl,.inl h1,.inl h2,by rw [r1.length];exact Zp hz,fun c ts H' hc hts hcn hnd tK hoth hcl htup=>?_⟩;have G2:∃G2:Hp,G2=fun x=>if x∈ts then H' x else G1 x:=⟨_,rfl⟩
         obtain ⟨G2,eG2⟩:=G2;have inT:∀x,x∈ts->G2 x=H' x:=fun x hx=>by rw [eG2];exact if_pos hx
         have outT:∀x,x∉ts->G2 x=G1 x:=fun x hx=>by rw [eG2];exact if_neg hx
         have sG:Same G1 G2:=fun x o w=>by rw [outT x fun z=>by have:=hts x z;rw [x1.gh x o w] at this;cases this];exact w
         have sH:Same H1 H':=fun x o w=>by rw [hoth x (jG w hc) fun z=>by have:=hts x z;rw [w] at this;cases this];exact w
         have x2:Ext G1 H1 G2 H':=⟨sH,sG,fun x o w=>by
          by_cases hx:x∈ts
          . rw [inT x hx] at w;exact w
          . rw [outT x hx] at w;exact sH x o (x1.gh x o w),fun x o w=>by
          by_cases hx:x∈ts
          . exact .inr (hts x hx)
          . rw [outT x hx] at w;exact .inl w⟩
         have gc:G2 c=none:=by rw [outT c hcn];exact x1.gh.free hc
         refine k c _ G2 H' (x1.trans x2) (x1.hh.free hc) gc hcl ?_;have len:(ts.map V.ref).length=(jc4 l m).length:=by simp [jc4,tK,r1.length,r2.length]
         have build:∀(vs:List V) (ds:List D),vs.length=ds.length->(∀(i:Nat) v d,vs[i]?=some v->ds[i]?=some d->Rep G2 v d)->Reps G2 vs ds:=by
          intro vs;induction vs with
          | nil=>intro ds hl _;cases ds with | nil=>exact .nil | cons _ _=>simp at hl
          | cons v vs ih=>
            intro ds hl hh;cases ds with
            | nil=>simp at hl
            | cons d ds=>exact .cons (hh 0 v d rfl rfl) (ih ds (by simpa using hl) fun i v d h1 h2=>hh (i+1) v d (by simpa using h1) (by simpa using h2))
         refine build _ _ len fun i v d g1 g2=>?_;rw [List.getElem?_map] at g1;cases et:ts[i]? with
         | none=>rw [et] at g1;cases g1
         | some t=>
           rw [et] at g1;cases g1;unfold jc4 at g2;rw [List.getElem?_map] at g2;cases ep:(l.zip m)[i]? with
           | none=>rw [ep] at g2;cases g2
           | some p=>rw [ep] at g2;cases g2;obtain ⟨w1,w2⟩:=yv.mp ep;obtain ⟨v1,y1,y2⟩:=r1.get w1;obtain ⟨v2,y3,y4⟩:=r2.get w2;have ht:=htup i t v1 v2 et y1 y3;exact .tup (by rw [inT t (YE et)];exact ht) (.cons (y2.mono sG) (.cons (y4.mono sG) .nil))
   . cases q
 . cases q
end
def eqB (x y:D):Option Bool:=if qG x=true then (if qG y=true then some (eqV (vOf x) (vOf y)) else none) else none
def jcJ (f:D->D->Option Bool):List D->List D->Option Bool
 | x::l,y::m=>(f x y).bind fun b=>(jcJ f l m).map (b && ·)
 | _,_=>some true
def eqF:Nat->D->D->Option Bool
 | n+1,.lst l,.lst m=>if l.length=m.length then jcJ (eqF n) l m else some false
 | n+1,.tup l,.tup m=>(jcJ (eqF n) l m).map (· && l.length == m.length)
 | _,x,y=>eqB x y
def jdV (x y:D):Option Bool:=if qG x && qG y then (if joG (vOf x) (vOf y) then some (decide (vOf x=vOf y)) else none) else eqF 40 x y
def jgY:R2:=fun x y H Q=>∃G dx dy b,Same G H/\RepT G H x dx/\RepT G H y dy/\jdV dx dy=some b/\Q (.bl b) H
def jgy:R2:=fun x y H Q=>∃G dx dy b,Same G H/\RepT G H x dx/\RepT G H y dy/\jdV dx dy=some b/\Q (.bl (!b)) H
def dEq:D->D->Option D:=fun x y=>(jdV x y).map .bl
def dNe:D->D->Option D:=fun x y=>(jdV x y).map fun b=>.bl (!b)
theorem jrc:ROk jgY dEq:=fun G H x y dx dy d Q s rx ry q k=>by obtain ⟨b,q1,q2⟩:=map_some q;subst q2;exact ⟨G,dx,dy,b,s,rx,ry,q1,k _ G H (.refl s) (.bl _)⟩
theorem jrD:ROk jgy dNe:=fun G H x y dx dy d Q s rx ry q k=>by obtain ⟨b,q1,q2⟩:=map_some q;subst q2;exact ⟨G,dx,dy,b,s,rx,ry,q1,k _ G H (.refl s) (.bl _)⟩
def jmU:R2:=fun x y H Q=>∃l b xs zs,x=.ref l/\y=.ref b/\Rd H l (.lst xs)/\Rd H b (.lst zs)/\xs.length+zs.length<=sizeLine/\∀p,H p=none->Q (.ref p) (upd H p (.lst (xs++zs)))
def jbU:D->D->Option (List D)
 | .lst l,.lst m=>if l.length+m.length<=sizeLine then some (l++m) else none
 | _,_=>none
theorem jqq:joX jmU jbU:=fun G H x y dx dy d Q s rx ry q k=>by
 unfold jbU at q;split at q
 . split at q
   . rename_i hz;cases q;obtain ⟨_,_,rfl,h,r⟩:=rx.of_lst;obtain ⟨_,_,rfl,h',r'⟩:=ry.of_lst;exact ⟨_,_,_,_,rfl,rfl,h,h',by rw [r.length,r'.length];exact hz,fun p hp=>k p _ G _ (.new s hp) hp (s.free hp) jB (r.append r')⟩
   . cases q
 . cases q
end
end L2
namespace L2
open PySem PySem.Spec PyProof.Rows
section
variable {es:List Expr} {env:PySem.Env} {p:Pos}
end
section
variable {X:Cx}
theorem jje:CallR X (.builtin "len") (fun xs H Q=>(∃p ys,xs=[.ref p] ∧ (Jn X.K H p ys ∨ SqT X.K H p ys) ∧ Q (.int ys.length) H) ∨ ∃z,xs=[.str z] ∧ z.length ≤ sizeLine ∧ Q (.int z.length) H):=call_len_seq.or jeM
theorem jl4:OpR X (binaryOp .Add) jmU:=by
 intro tf s σ H x y v u Q I rx ry h;obtain ⟨l,b,xs,zs,rfl,rfl,hH,hB,hz,q⟩:=h;cases rx;cases ry;obtain ⟨z,tu,n,r,e⟩:=hH.ok I.hok;obtain ⟨z2,its2,n2,r2,e2⟩:=hB.ok I.hok;have hl:=r.length;have hl2:=r2.length;refine PySem.P.add_list e e2 ?_ (by rw [YD,YD];omega);have ea:tu.toArray++its2.toArray=(tu++its2).toArray:=by simp
 rw [ea];exact ⟨.ref _,_,I.lnew (t':=s.toks) (r.append r2) (by rw [YU];omega),rfl,q _ I.fresh⟩
theorem jiI (hc:X.calm=true):CallR X (.builtin "min") (fun xs H Q=>∃i j k,xs=[.int i,.int j,.int k] ∧ Q (.int (jcC i j k)) H):=by
 intro tf s σ H xs us Q I r h;obtain ⟨i,j,k,rfl,q⟩:=h;cases r with
 | cons r1 r=>
   cases r with
   | cons r2 r=>
     cases r with
     | cons r3 r=>
       cases r;obtain ⟨t1,rfl⟩:=r1;obtain ⟨t2,rfl⟩:=r2;obtain ⟨t3,rfl⟩:=r3;refine min_three_ints (I.ok.hd hc) fun h' tk kk=>⟨_,H,I.kept kk,?_,q⟩;unfold jcC;by_cases h1:j<i
       . rw [if_pos h1,if_pos h1];by_cases h2:k<j
         . rw [if_pos h2,if_pos h2];exact ⟨_,rfl⟩
         . rw [if_neg h2,if_neg h2];exact ⟨_,rfl⟩
       . rw [if_neg h1,if_neg h1];by_cases h2:k<i
         . rw [if_pos h2,if_pos h2];exact ⟨_,rfl⟩
         . rw [if_neg h2,if_neg h2];exact ⟨_,rfl⟩
end
def jhh (k:Int):List Int->List Int
 | []=>[k]
 | x::l=>if k<=x then k::x::l else x::jhh k l
def Qz (l:List Int):List Int:=l.foldr jhh []
theorem jaV (k:Int):∀l:List Int,(jhh k l).Perm (k::l)
 | []=>.refl _
 | x::l=>by
   unfold jhh;split
   . exact .refl _
   . exact ((jaV k l).cons x).trans (.swap k x l)
theorem Qx:∀l:List Int,(Qz l).Perm l
 | []=>.refl _
 | x::l=>(jaV x (Qz l)).trans ((Qx l).cons x)
theorem jbK {k:Int}:∀{l:List Int},l.Pairwise (· <= ·)->(jhh k l).Pairwise (· <= ·)
 | [],_=>by simp [jhh]
 | x::l,h=>by
   have h':=YA.mp h;unfold jhh;split
   . rename_i hk;refine YA.mpr ⟨fun y hy=>?_,h⟩;rcases Yq.mp hy with rfl | hy
     . exact hk
     . exact Int.le_trans hk (h'.1 y hy)
   . rename_i hk;refine YA.mpr ⟨fun y hy=>?_,jbK h'.2⟩;rcases Yq.mp ((jaV k l).mem_iff.mp hy) with rfl | hy
     . omega
     . exact h'.1 y hy
theorem JC:∀l:List Int,(Qz l).Pairwise (· <= ·)
 | []=>by simp [Qz]
 | x::l=>jbK (JC l)
theorem jcF:∀{l m:List Int},l.Pairwise (· <= ·)->m.Pairwise (· <= ·)->l.Perm m->l=m
 | [],m,_,_,h=>(List.nil_perm.mp h).symm ▸ rfl
 | x::l,[],_,_,h=>absurd h.length_eq (by simp)
 | x::l,y::m,h1,h2,h=>by
   have p1:=YA.mp h1;have p2:=YA.mp h2;have e:x=y:=by
     rcases Yq.mp (h.mem_iff.mp Yf) with z | z
     . exact z
     . rcases Yq.mp (h.mem_iff.mpr Yf) with z' | z'
       . exact z'.symm
       . have:=p2.1 x z;have:=p1.1 y z';omega
   subst e;rw [jcF p1.2 p2.2 ((List.perm_cons x).mp h)]
theorem jl8 {l m:List Int} (h:m.Perm l) (hs:m.Pairwise (· <= ·)):m=Qz l:=jcF hs (JC l) (h.trans (Qx l).symm)
section
variable {X:Cx}
theorem jha (hc:X.calm=true):CallR X (.builtin "sorted") (fun xs H Q=>∃(p:Addr) (ns:List Int),xs=[.ref p] ∧ Jn X.K H p (ns.map V.int) ∧ ns.length<64 ∧ ∀l,H l=none → Q (.ref l) (upd H l (.lst ((Qz ns).map V.int)))):=by
 intro tf s σ H xs us Q I r h;obtain ⟨p,ns,rfl,hq,hl,q⟩:=h;obtain ⟨u,rfl,rx⟩:=Vals.one r;cases rx;obtain ⟨tu,rv,pl,hz⟩:=I.list hq;have hi:IntsAre tu ns:=jac rv;have tK:tu.length=ns.length:=by have:=rv.length;rw [Yc] at this;exact this.symm
 refine sorted_ints pl.isList hi (by omega) fun out ks q1 q2 q3=>?_;have ek:ks=Qz ns:=jl8 q2 q3;subst ek;have hn:H (s.heap.objs.size+1)=none:=I.hok.fresh (ka _);obtain ⟨e,he⟩:=sortedAll_at s.heap tu out;refine ⟨.ref (s.heap.objs.size+1),upd H (s.heap.objs.size+1) (.lst ((Qz ns).map V.int)),?_,rfl,q _ hn⟩;refine I.laid (t':=s.toks) (fun b o e=>sortedAll_old e) (ka _) ⟨?_,out.toList,e,jbc q1,by simpa using he⟩;have:=(Qx ns).length_eq;rw [Yc];exact Y2 (by omega:(Qz ns).length<=64) (by decide)
end
section
variable [Fr]
def jfi:List D->Option (List D)
 | [.lst l]=>(jaL l).bind fun ns=>if ns.length<64 then some ((Qz ns).map .int) else none
 | _=>none
theorem jos:jfC (fun xs H Q=>∃(p:Addr) (ns:List Int),xs=[.ref p]/\Jn Fr.K H p (ns.map V.int)/\ns.length<64/\∀l,H l=none->Q (.ref l) (upd H l (.lst ((Qz ns).map V.int)))) jfi:=fun G H xs ds es Q s rr q k=>by
 unfold jfi at q;split at q
 . obtain ⟨ns,q1,q2⟩:=bind_some q;split at q2
   . rename_i hz;cases q2;obtain ⟨v,rfl,r⟩:=rr.one;obtain ⟨_,_,rfl,h,r⟩:=r.of_lst;rw [QL q1] at r;rw [r.ints] at h;exact ⟨_,ns,rfl,.inl h,hz,fun l hl=>k l _ G _ (.new s hl) hl (s.free hl) jB (Reps.of_ints _)⟩
   . cases q2
 . cases q
def jft (fs:ee->Option (List D)):ee->Option (List D):=fun ρ=>match fs ρ with
 | some [.lst l]=>(jaL l).bind fun ns=>if ns.length<64 then some ((srt ns).map .int) else none
 | _=>none
theorem jnt {X:Cx} {As:TA} {fs:ee->Option (List D)} (ha:jbd As fs):EOkO (tCB (fun xs H Q=>∃(a:Addr) (ns:List Int),xs=[.ref a]/\H a=some (jep X a ns)/\ns.length<64 /\
 ∀(l:Addr) (ks:List Int),H l=none->ks.Pairwise (· < ·)->(∀k,k∈ks ↔ k∈ns)->ks.length<=ns.length->Q (.ref l) (upd H l (.lst (ks.map V.int))))
 (jdf (tCB (fun xs H Q=>∃(p:Addr) (ns:List Int),xs=[.ref p]/\Jn Fr.K H p (ns.map V.int)/\ns.length<64/\∀a,H a=none->Q (.ref a) (upd H a (jep X a ns))) As) jiB)) (jft fs):=fun G0 H0 G H σ ρ Q es e q k=>by
 unfold jft at q;split at q
 . rename_i l z;obtain ⟨ns,q1,q2⟩:=bind_some q;split at q2
   . rename_i hz;cases q2;refine ha _ _ _ _ _ _ _ _ e z fun vs G1 H1 x1 rr=>?_;obtain ⟨v,rfl,r⟩:=rr.one;obtain ⟨_,_,rfl,h,r⟩:=r.of_lst;rw [QL q1] at r;rw [r.ints] at h;refine ⟨_,ns,rfl,.inl h,hz,fun a ha'=>?_⟩;have x2:Ext G1 H1 G1 (upd H1 a (jep X a ns)):=.new x1.gh ha';refine ⟨a,ns,rfl,jB,hz,fun l ks hl hp hm hn=>?_⟩;have ek:ks=srt ns:=QH hp QI fun j=>by rw [hm j,jb8]
     subst ek;exact k l _ G1 _ ((x1.trans x2).trans (.new x2.gh hl)) ((x1.trans x2).hh.free hl) (x2.gh.free hl) jB (Reps.of_ints _)
   . cases q2
 . cases q
def okT (T:String):Bool:=T == "int" || T == "bool" || T == "str" || T == "list" || T == "tuple"
theorem jlA {G H:Hp} {x:V} {d:D} {T:String} {b:Bool} (r:RepT G H x d) (q:QJ T d=some b) (hT:okT T=true):IsT Fr.K H x T b:=by
 have hT':T = "int" ∨ T="bool" ∨ T="str" ∨ T="list" ∨ T="tuple":=by simpa [okT,or_assoc] using hT
 cases r with
 | int i=>rcases hT' with rfl | rfl | rfl | rfl | rfl <;> (simp [QJ] at q;subst q;exact ⟨_,.int i,by rfl⟩)
 | bl i=>rcases hT' with rfl | rfl | rfl | rfl | rfl <;> (simp [QJ] at q;subst q;exact ⟨_,.bl i,by rfl⟩)
 | non=>rcases hT' with rfl | rfl | rfl | rfl | rfl <;> (simp [QJ] at q;subst q;exact ⟨_,.non,by rfl⟩)
 | str i=>rcases hT' with rfl | rfl | rfl | rfl | rfl <;> (simp [QJ] at q;subst q;exact ⟨_,.str i,by rfl⟩)
 | lst h r=>
   rcases h with h | ⟨o,h⟩
   . rcases hT' with rfl | rfl | rfl | rfl | rfl <;> (simp [QJ] at q;subst q;exact ⟨_,.lst h,by rfl⟩)
   . rcases hT' with rfl | rfl | rfl | rfl | rfl <;> (simp [QJ] at q;subst q;exact ⟨_,.frz h,by rfl⟩)
 | tup h r=>rcases hT' with rfl | rfl | rfl | rfl | rfl <;> (simp [QJ] at q;subst q;exact ⟨_,.tup h,by rfl⟩)
 | scr h=>cases q
 | dic h hl r=>cases q
theorem jqX {T:String} {ta:TE} {fa:ee->Option D} (ha:Ji ta fa) (hT:okT T=true):EOk (tCB (fun xs H Q=>∃x T b,xs=[x,.ty T]/\IsT Fr.K H x T b/\Q (.bl b) H) (jdf ta (jdf (tC (.ty T)) jiB))) (QN T fa):=fun G0 H0 G H σ ρ Q d e q k=>by obtain ⟨dx,q1,q2⟩:=bind_some q;obtain ⟨b,q4,q3⟩:=map_some q2;subst q3;exact ha _ _ _ _ _ _ _ _ e q1 fun v G' H' x r=>⟨v,T,b,rfl,jlA r q4 hT,k _ G' H' x (.bl _)⟩
end
section
variable [Fr]
theorem jgi {v:V} (f:Qg v=true):eqV v v=true:=by cases v <;> first | rfl | exact absurd f Yo | simp [eqV]
theorem Q6 {x y:D} {b:Bool} (h:eqB x y=some b):qG x=true/\qG y=true/\b=eqV (vOf x) (vOf y):=by
 unfold eqB at h;by_cases f1:qG x=true
 . by_cases f2:qG y=true
   . rw [if_pos f1,if_pos f2] at h;exact ⟨f1,f2,(Option.some.inj h).symm⟩
   . rw [if_pos f1,if_neg f2] at h;exact qo h
 . rw [if_neg f1] at h;exact qo h
theorem jbY {n:Nat} {dx dy:D} {b:Bool} (h:eqF (n+1) dx dy=some b):(∃l m,dx=.lst l/\dy=.lst m/\(if l.length=m.length then jcJ (eqF n) l m else some false)=some b)\/(∃l m,dx=.tup l/\dy=.tup m/\(jcJ (eqF n) l m).map (· && l.length == m.length)=some b)\/eqB dx dy=some b:=by
 cases dx with
 | lst l=>
   cases dy with
   | lst m=>exact .inl ⟨l,m,rfl,rfl,h⟩
   | _=>exact qo h
 | tup l=>
   cases dy with
   | tup m=>exact .inr (.inl ⟨l,m,rfl,rfl,h⟩)
   | _=>exact qo h
 | _=>exact .inr (.inr h)
theorem jap {f:D->D->Option Bool}:∀{l m:List D} {b:Bool},jcJ f l m=some b->∃e:Nat->Bool,(∀(j:Nat) x y,l[j]?=some x->m[j]?=some y->f x y=some (e j))/\(List.range (min l.length m.length)).all e=b:=by
 intro l;induction l with
 | nil=>intro m b h;cases h;exact ⟨fun _=>true,fun j x y h1 _=>(by rw [Kv] at h1;cases h1),by rw [YZ,Nat.zero_min];rfl⟩
 | cons x l ih=>
   intro m b h;cases m with
   | nil=>cases h;exact ⟨fun _=>true,fun j x y _ h2=>(by rw [Kv] at h2;cases h2),by rw [YZ,Nat.min_zero];rfl⟩
   | cons y m=>
     obtain ⟨c,h1,h2⟩:=bind_some h;obtain ⟨c',h3,h4⟩:=map_some h2;obtain ⟨e,he,hb⟩:=ih h3;refine ⟨fun j=>Nat.casesOn j c e,fun j u v g1 g2=>?_,?_⟩
     . cases j with
       | zero=>cases g1;cases g2;exact h1
       | succ j=>exact he j u v g1 g2
     . rw [<-h4,<- hb];simp only [Yy,Nat.add_min_add_right,KU,Kx,List.all_map];rfl
end
section
variable {X:Cx} {tf:List (Addr×Obj)} {σ:St} {H G:Hp} {s:Shared}
theorem jhM [Fr] (hK:Fr.K=X.K) (I:Inv X tf σ H s) (sg:Same G H):∀(n:Nat) {v:V} {dx dy:D} {b:Bool},Rep G v dx->Rep G v dy->eqF n dx dy=some b->b=true:=by
 intro n;induction n with
 | zero=>intro v dx dy b rx ry h;obtain ⟨f1,f2,rfl⟩:=Q6 (show eqB dx dy=some b from h);rw [<-rx.v f1,<- ry.v f2];exact jgi (by rw [rx.v f1];exact J5 f1)
 | succ n ih=>
   have zz:∀{vs:List V} {l m:List D} {b:Bool},Reps G vs l->Reps G vs m->jcJ (eqF n) l m=some b->b=true:=by
    intro vs;induction vs with
    | nil=>intro l m b r1 r2 h;cases r1;cases r2;cases h;rfl
    | cons v vs ihv=>
      intro l m b r1 r2 h;cases r1 with
      | cons a1 t1=>
        cases r2 with
        | cons a2 t2=>obtain ⟨c,h1,h2⟩:=bind_some h;obtain ⟨c',h3,h4⟩:=map_some h2;rw [ih a1 a2 h1,ihv t1 t2 h3] at h4;exact h4.symm
   intro v dx dy b rx ry h;rcases jbY h with ⟨l,m,rfl,rfl,q⟩ | ⟨l,m,rfl,rfl,q⟩ | q
   . obtain ⟨_,_,rfl,h1,r1⟩:=rx.of_lst;obtain ⟨_,_,e0,h2,r2⟩:=ry.of_lst;cases e0;have e:=I.list_inj (.inl (h1.same sg)) (.inl (h2.same sg));subst e;rw [if_pos (show l.length=m.length by rw [<-r1.length,<- r2.length])] at q;exact zz r1 r2 q
   . obtain ⟨_,_,rfl,h1,r1⟩:=rx.of_tup;obtain ⟨_,_,e0,h2,r2⟩:=ry.of_tup;cases e0;rw [h1] at h2;cases h2;have hl:l.length=m.length:=by rw [<-r1.length,<- r2.length]
     obtain ⟨c,h3,h4⟩:=map_some q;rw [zz r1 r2 h3,hl] at h4;simpa using h4.symm
   . obtain ⟨f1,f2,rfl⟩:=Q6 q;rw [<-rx.v f1,<- ry.v f2];exact jgi (by rw [rx.v f1];exact J5 f1)
theorem jhJ [Fr] {x y:V} {dx dy:D} {b:Bool} {u v:Value} {A:Around} (rx:Rep G x dx) (ry:Rep G y dy) (h:eqB dx dy=some b) (ru:RelV x u) (rv:RelV y v):SeqAt.EqAt A s u v b:=by obtain ⟨f1,f2,rfl⟩:=Q6 h;rw [<-rx.v f1,<- ry.v f2];exact jaU ru rv (by rw [rx.v f1];exact J5 f1) (by rw [ry.v f2];exact J5 f2)
theorem jaI [Fr] {vs us:List V} {l m:List D} {i1 i2:List Value} {e:Nat->Bool} {A:Around} {n:Nat} (r1:Reps G vs l) (r2:Reps G us m) (v1:Vals vs i1) (v2:Vals us i2)
 (he:∀(j:Nat) x y,l[j]?=some x->m[j]?=some y->eqF n x y=some (e j))
 (ih:∀{x y:V} {dx dy:D} {b:Bool} {u v:Value},Rep G x dx->Rep G y dy->eqF n dx dy=some b->RelV x u->RelV y v->SeqAt.EqAt A s u v b) :
 ∀j (h1:j<i1.toArray.size) (h2:j<i2.toArray.size),SeqAt.EqAt A s i1.toArray[j] i2.toArray[j] (e j):=fun j h1 h2=>by
 have l1:=v1.length;have l2:=v2.length;have hj1:j<vs.length:=by simp at h1;omega
 have hj2:j<us.length:=by simp at h2;omega
 obtain ⟨u1,g1,g2⟩:=v1.get (Ya hj1);obtain ⟨u2,g3,g4⟩:=v2.get (Ya hj2);obtain ⟨d1,k1,k2⟩:=r1.getV (Ya hj1);obtain ⟨d2,k3,k4⟩:=r2.getV (Ya hj2);have e1:i1.toArray[j]=u1:=by have:=Yh.mp g1;simpa using this.2
 have e2:i2.toArray[j]=u2:=by have:=Yh.mp g3;simpa using this.2
 rw [e1,e2];exact ih k2 k4 (he j _ _ k1 k3) g2 g4
theorem jfS [Fr] (hK:Fr.K=X.K) (I:Inv X tf σ H s) {a c:Addr} {vs us:List V} {l m:List D} {b:Bool} {n:Nat} {A:Around} (h1:Rd H a (.lst vs)) (h2:Rd H c (.lst us)) (r1:Reps G vs l) (r2:Reps G us m) (h:(if l.length=m.length then jcJ (eqF n) l m else some false)=some b) (hu:A.units<cLine)
 (ih:∀{x y:V} {dx dy:D} {b:Bool} {u v:Value},Rep G x dx->Rep G y dy->eqF n dx dy=some b->RelV x u->RelV y v->SeqAt.EqAt A.in1 s u v b):SeqAt.RcAt A s (.ref a) (.ref c) b:=by
 obtain ⟨i1,v1,p1,_⟩:=I.list (.inl h1);obtain ⟨i2,v2,p2,_⟩:=I.list (.inl h2);have l1:=v1.length;have l2:=v2.length;have k1:=r1.length;have k2:=r2.length;split at h
 . rename_i hl;obtain ⟨e,he,hb⟩:=jap h;have hb':(List.range i1.toArray.size).all e=b:=by rw [<-hb,<- hl,Nat.min_self,YD,<- l1,k1]
   rw [<-hb'];exact SeqAt.RcAt.lists p1.isList p2.isList (by simp;omega) hu (jaI r1 r2 v1 v2 he ih)
 . rename_i hl;cases h;exact SeqAt.RcAt.lists_lengths p1.isList p2.isList (by simp;omega) hu
theorem jhz [Fr] (hK:Fr.K=X.K) (I:Inv X tf σ H s) {a c:Addr} {vs us:List V} {l m:List D} {b:Bool} {n:Nat} {A:Around} (h1:H a=some (.tup vs)) (h2:H c=some (.tup us)) (r1:Reps G vs l) (r2:Reps G us m) (h:(jcJ (eqF n) l m).map (· && l.length == m.length)=some b) (hu:A.units<cLine)
 (ih:∀{x y:V} {dx dy:D} {b:Bool} {u v:Value},Rep G x dx->Rep G y dy->eqF n dx dy=some b->RelV x u->RelV y v->SeqAt.EqAt A.in1 s u v b):SeqAt.RcAt A s (.ref a) (.ref c) b:=by
 obtain ⟨i1,v1,p1,_⟩:=I.tuple (SqT.of h1);obtain ⟨i2,v2,p2,_⟩:=I.tuple (SqT.of h2);have l1:=v1.length;have l2:=v2.length;have k1:=r1.length;have k2:=r2.length;obtain ⟨c,h3,h4⟩:=map_some h;obtain ⟨e,he,hb⟩:=jap h3;have q1:i1.toArray.size=l.length:=by simp;omega
 have q2:i2.toArray.size=m.length:=by simp;omega
 have hb':‹"P"›=b:=by rw [q1,q2,hb];exact h4
 rw [<-hb'];exact SeqAt.RcAt.tuples (show s.heap.IsTuple a i1.toArray from p1) (show s.heap.IsTuple _ i2.toArray from p2) hu (jaI r1 r2 v1 v2 he ih)
theorem jnl [Fr] (hK:Fr.K=X.K) (I:Inv X tf σ H s) (sg:Same G H):∀(n:Nat) {x y:V} {dx dy:D} {b:Bool} {u v:Value} {A:Around},Rep G x dx->Rep G y dy->eqF n dx dy=some b->RelV x u->RelV y v->A.units+n<cLine->SeqAt.EqAt A s u v b:=by
 intro n;induction n with
 | zero=>intro x y dx dy b u v A rx ry h ru rv _;exact jhJ rx ry (show eqB dx dy=some b from h) ru rv
 | succ n ih=>
   intro x y dx dy b u v A rx ry h ru rv hu;have hu1:A.units<cLine:=by omega
   have ih':∀{x y:V} {dx dy:D} {b:Bool} {u v:Value},Rep G x dx->Rep G y dy->eqF n dx dy=some b->RelV x u->RelV y v->SeqAt.EqAt A.in1 s u v b:=fun r1 r2 h ru rv=>ih r1 r2 h ru rv (by show A.units+1+n<cLine;omega);rcases jbY h with ⟨l,m,rfl,rfl,q⟩ | ⟨l,m,rfl,rfl,q⟩ | q
   . cases rx with
     | @lst a vs _ h1 r1=>
       cases ry with
       | @lst c us _ h2 r2=>
         cases ru;cases rv;by_cases hac:a=c
         . subst hac;rw [jhM hK I sg (n+1) (.lst h1 r1) (.lst h2 r2) h];exact SeqAt.EqAt.same _
         . exact Kk hac (jfS hK I (h1.same sg) (h2.same sg) r1 r2 q hu1 ih')
   . cases rx with
     | @tup a vs _ h1 r1=>
       cases ry with
       | @tup c us _ h2 r2=>
         cases ru;cases rv;by_cases hac:a=c
         . subst hac;rw [jhM hK I sg (n+1) (.tup h1 r1) (.tup h2 r2) h];exact SeqAt.EqAt.same _
         . exact Kk hac (jhz hK I (sg _ _ h1) (sg _ _ h2) r1 r2 q hu1 ih')
   . exact jhJ rx ry q ru rv
end
section
variable {X:Cx}
theorem joM [Fr] (hK:Fr.K=X.K) {tf:List (Addr×Obj)} {σ:St} {H G:Hp} {s:Shared} (hu:X.A.units+64<cLine) (I:Inv X tf σ H s) (sg:Same G H) {x y:V} {dx dy:D} {b:Bool} {u v:Value} (rx:RepT G H x dx) (ry:RepT G H y dy) (h:eqF 40 dx dy=some b)
 (hf:(qG dx && qG dy)=false) (ru:RelV x u) (rv:RelV y v):SeqAt.RcAt X.A s u v b:=by
 have ih:∀{x y:V} {dx dy:D} {b:Bool} {u v:Value},Rep G x dx->Rep G y dy->eqF 39 dx dy=some b->RelV x u->RelV y v->SeqAt.EqAt X.A.in1 s u v b:=fun r1 r2 h ru rv=>jnl hK I sg 39 r1 r2 h ru rv (by show X.A.units+1+39<cLine;omega);rcases jbY (n:=39) h with ⟨l,m,rfl,rfl,q⟩ | ⟨l,m,rfl,rfl,q⟩ | q
 . obtain ⟨_,_,rfl,h1,r1⟩:=rx.of_lst;obtain ⟨_,_,rfl,h2,r2⟩:=ry.of_lst;cases ru;cases rv;exact jfS hK I h1 h2 r1 r2 q (by omega) ih
 . obtain ⟨_,_,rfl,h1,r1⟩:=rx.of_tup;obtain ⟨_,_,rfl,h2,r2⟩:=ry.of_tup;cases ru;cases rv;exact jhz hK I h1 h2 r1 r2 q (by omega) ih
 . obtain ⟨f1,f2,_⟩:=Q6 q;rw [f1,f2] at hf;exact absurd hf Bool.noConfusion
theorem jiY [Fr] (hK:Fr.K=X.K) (I:Inv X tf σ H s) {a c:Addr} {vs us:List V} {l m:List D} {b:Bool} {n:Nat} {A:Around} (h1:Rd H a (.lst vs)) (h2:Rd H c (.lst us)) (r1:Reps G vs l) (r2:Reps G us m) (h:(if l.length=m.length then jcJ (eqF n) l m else some false)=some b) (hu:A.units<cLine)
 (ih:∀{x y:V} {dx dy:D} {b:Bool} {u v:Value},Rep G x dx->Rep G y dy->eqF n dx dy=some b->RelV x u->RelV y v->SeqAt.EqAt A.in1 s u v b):SeqAt.RcNeAt A s (.ref a) (.ref c) (!b):=by
 obtain ⟨i1,v1,p1,_⟩:=I.list (.inl h1);obtain ⟨i2,v2,p2,_⟩:=I.list (.inl h2);have l1:=v1.length;have l2:=v2.length;have k1:=r1.length;have k2:=r2.length;split at h
 . rename_i hl;obtain ⟨e,he,hb⟩:=jap h;have hb':(List.range i1.toArray.size).all e=b:=by rw [<-hb,<- hl,Nat.min_self,YD,<- l1,k1]
   rw [<-hb'];exact SeqAt.RcNeAt.lists p1.isList p2.isList (by simp;omega) hu (jaI r1 r2 v1 v2 he ih)
 . rename_i hl;cases h;exact SeqAt.RcNeAt.lists_lengths p1.isList p2.isList (by simp;omega) hu
theorem jjO [Fr] (hK:Fr.K=X.K) (I:Inv X tf σ H s) {a c:Addr} {vs us:List V} {l m:List D} {b:Bool} {n:Nat} {A:Around} (h1:H a=some (.tup vs)) (h2:H c=some (.tup us)) (r1:Reps G vs l) (r2:Reps G us m) (h:(jcJ (eqF n) l m).map (· && l.length == m.length)=some b) (hu:A.units<cLine)
 (ih:∀{x y:V} {dx dy:D} {b:Bool} {u v:Value},Rep G x dx->Rep G y dy->eqF n dx dy=some b->RelV x u->RelV y v->SeqAt.EqAt A.in1 s u v b):SeqAt.RcNeAt A s (.ref a) (.ref c) (!b):=by
 obtain ⟨i1,v1,p1,_⟩:=I.tuple (SqT.of h1);obtain ⟨i2,v2,p2,_⟩:=I.tuple (SqT.of h2);have l1:=v1.length;have l2:=v2.length;have k1:=r1.length;have k2:=r2.length;obtain ⟨c,h3,h4⟩:=map_some h;obtain ⟨e,he,hb⟩:=jap h3;have q1:i1.toArray.size=l.length:=by simp;omega
 have q2:i2.toArray.size=m.length:=by simp;omega
 have hb':‹"P"›=b:=by rw [q1,q2,hb];exact h4
 rw [<-hb'];exact SeqAt.RcNeAt.tuples (show s.heap.IsTuple a i1.toArray from p1) (show s.heap.IsTuple _ i2.toArray from p2) hu (jaI r1 r2 v1 v2 he ih)
theorem jmy [Fr] (hK:Fr.K=X.K) {tf:List (Addr×Obj)} {σ:St} {H G:Hp} {s:Shared} (hu:X.A.units+64<cLine) (I:Inv X tf σ H s) (sg:Same G H) {x y:V} {dx dy:D} {b:Bool} {u v:Value} (rx:RepT G H x dx) (ry:RepT G H y dy) (h:eqF 40 dx dy=some b)
 (hf:(qG dx && qG dy)=false) (ru:RelV x u) (rv:RelV y v):SeqAt.RcNeAt X.A s u v (!b):=by
 have ih:∀{x y:V} {dx dy:D} {b:Bool} {u v:Value},Rep G x dx->Rep G y dy->eqF 39 dx dy=some b->RelV x u->RelV y v->SeqAt.EqAt X.A.in1 s u v b:=fun r1 r2 h ru rv=>jnl hK I sg 39 r1 r2 h ru rv (by show X.A.units+1+39<cLine;omega);rcases jbY (n:=39) h with ⟨l,m,rfl,rfl,q⟩ | ⟨l,m,rfl,rfl,q⟩ | q
 . obtain ⟨_,_,rfl,h1,r1⟩:=rx.of_lst;obtain ⟨_,_,rfl,h2,r2⟩:=ry.of_lst;cases ru;cases rv;exact jiY hK I h1 h2 r1 r2 q (by omega) ih
 . obtain ⟨_,_,rfl,h1,r1⟩:=rx.of_tup;obtain ⟨_,_,rfl,h2,r2⟩:=ry.of_tup;cases ru;cases rv;exact jjO hK I h1 h2 r1 r2 q (by omega) ih
 . obtain ⟨f1,f2,_⟩:=Q6 q;rw [f1,f2] at hf;exact absurd hf Bool.noConfusion
theorem jkV (hu:X.A.units+64<cLine):OpR X (compareOp .Eq) (@jgY ⟨X.K⟩):=by
 intro tf s σ H x y v u Q I rx ry h;obtain ⟨G,dx,dy,b,sg,r1,r2,he,q⟩:=h;unfold jdV at he;split at he
 . rename_i hf;simp only [yi] at hf;split at he
   . rename_i hs;cases he;have e1:=@RepT.v ⟨X.K⟩ _ _ _ _ r1 hf.1;have e2:=@RepT.v ⟨X.K⟩ _ _ _ _ r2 hf.2;rw [<-e1,<- e2] at q hs;exact jpy tf s σ H x y v u Q I rx ry ⟨hs,q⟩
   . cases he
 . rename_i hf;exact @joM X ⟨X.K⟩ rfl _ _ _ _ _ hu I sg _ _ _ _ _ _ _ r1 r2 he (by simpa using hf) rx ry X.prog X.w _ _ ⟨.bl b,H,I,rfl,q⟩
theorem jkq (hu:X.A.units+64<cLine):OpR X (compareOp .NotEq) (@jgy ⟨X.K⟩):=by
 intro tf s σ H x y v u Q I rx ry h;obtain ⟨G,dx,dy,b,sg,r1,r2,he,q⟩:=h;unfold jdV at he;split at he
 . rename_i hf;simp only [yi] at hf;split at he
   . rename_i hs;cases he;have e1:=@RepT.v ⟨X.K⟩ _ _ _ _ r1 hf.1;have e2:=@RepT.v ⟨X.K⟩ _ _ _ _ r2 hf.2;rw [<-e1,<- e2] at q hs;exact jpG tf s σ H x y v u Q I rx ry ⟨hs,q⟩
   . cases he
 . rename_i hf;exact @jmy X ⟨X.K⟩ rfl _ _ _ _ _ hu I sg _ _ _ _ _ _ _ r1 r2 he (by simpa using hf) rx ry X.prog X.w _ _ ⟨.bl (!b),H,I,rfl,q⟩
end
def LcOk (sc:Scope) (N:List Str) (scope:Scope) (F:List Str) (ix:List Nat):Prop:=
 scope.kind=.function/\(∀x∈scope.names,x.2=.local->scope.names.lookup x.1=some .local)/\(∀y∈scope.names,y.2=.cell->scope.names.lookup y.1=some .cell) /\
 (∀y∈scope.names,y.2=.free->sc.names.lookup y.1=some .cell\/sc.names.lookup y.1=some .free)/\ix.length=F.length /\
 (∀p∈F.zip ix,N[p.2]?=some p.1/\(sc.names.lookup p.1=some .cell\/sc.names.lookup p.1=some .free)/\scope.names.lookup p.1=some .free)
instance (sc:Scope) (N:List Str) (scope:Scope) (F:List Str) (ix:List Nat):Decidable (LcOk sc N scope F ix):=by unfold LcOk;infer_instance
section
variable {X:Cx} {tg iter elt:Expr} {ifs:List Expr} {scope:Scope} {pos:Pos} {wi:TI} {g:TG} {tt:TT} {te:TE} {Lc F N:List Str} {ix:List Nat} {sc:Scope}
theorem LcOk.free (ok:LcOk sc N scope F ix) (hsc:X.env.scope=sc):∀n,(n,NameKind.free)∈scope.names->X.env.scope.names.lookup n=some .cell\/X.env.scope.names.lookup n=some .free:=fun n hn=>by rw [hsc];exact ok.2.2.2.1 (n,.free) hn rfl
theorem LcOk.capt (ok:LcOk sc N scope F ix) (hsc:X.env.scope=sc) (hN:X.N=N):∀(j:Nat) (x:Str) (k:Nat),F[j]?=some x->ix[j]?=some k->X.N[k]?=some x/\(X.env.scope.names.lookup x=some .cell\/X.env.scope.names.lookup x=some .free)/\scope.names.lookup x=some .free:=fun j x k h1 h2=>by rw [hsc,hN];exact ok.2.2.2.2.2 (x,k) (YE (i:=j) (yv.mpr ⟨h1,h2⟩))
theorem joU (hsc:X.env.scope=sc) (hN:X.N=N) (hc:X.calm=true) (ok:LcOk sc N scope F ix)
 (hi:PI X tg iter wi) (hg:∀C s H fp,PG ‹"g"› tg g) (hloc:jgS Lc.length g) (ht:∀C s H fp,PTs ‹"g"› ifs tt) (he:∀C s H fp,PE ‹"g"› elt te)
 (hs:∀x,foldedSetIterable iter X.env x=pure x:=by intro _;rfl):PE X ‹"p"› (tLC wi g tt te Lc.length ix):=
 jp4 hc ok.1 ok.2.1 ok.2.2.1 (ok.free hsc) ok.2.2.2.2.1 (ok.capt hsc hN) hi hg hloc ht he hs
theorem jaf {i:Nat} {y:Str} {py spos:Pos} (hNd:X.N.Nodup) (hy:X.N[i]?=some y) (hyl:X.env.scope.names.lookup y=some .local) (hsc:X.env.scope=sc) (hN:X.N=N) (hc:X.calm=true) (ok:LcOk sc N scope F ix)
 (hi:PI X tg iter wi) (hg:∀C s H fp,PG ‹"g"› tg g) (hloc:jgS Lc.length g) (ht:∀C s H fp,PTs ‹"g"› ifs tt) (he:∀C s H fp,PE ‹"g"› elt te)
 (hsw:swapsWith ‹"p"› (some (.Name y py)) spos.line X.env=pure true)
 (hs:∀x,foldedSetIterable iter X.env x=pure x:=by intro _;rfl):PS X (.Assign [.Name y py] ‹"p"› spos) (jdr (tLC wi g tt te Lc.length ix) (ZR i)):=
 ji7 hNd hy hyl hc ok.1 ok.2.1 ok.2.2.1 (ok.free hsc) ok.2.2.2.2.1 (ok.capt hsc hN) hi hg hloc ht he hsw hs
end
end L2
namespace L2
open PySem PySem.Spec PyProof.Rows
section
variable {i j:Int} {F F':FS} {ρ ρ':ee} {r:Res}
theorem Qy (h:F ρ=.next ρ') (h':F' ρ'=r):jt F F' ρ=r:=by unfold jt;rw [h];exact h'
theorem jI:qp (.int i) (.int j)=some (.int (i+j)):=rfl
theorem jV:qI (.int i) (.int j)=some (.int (i-j)):=rfl
theorem QO (h1:-18446744073709551616<i) (h2:i<18446744073709551616):za (.int i) (.int j)=some (.int (i*j)):=by unfold za dI;simp only;rw [if_pos];exact .inl (.inl ⟨by omega,by omega⟩)
theorem Jl (h1:-18446744073709551616<j) (h2:j<18446744073709551616):za (.int i) (.int j)=some (.int (i*j)):=by unfold za dI;simp only;rw [if_pos];exact .inl (.inr ⟨by omega,by omega⟩)
theorem j9 (h1:0<j) (h2:j<1606938044258990275541962092341162602522202993782792835301376):zy (.int i) (.int j)=some (.int (i/j)):=by unfold zy dI;simp only;rw [if_pos];exact ⟨h1,by show j<2 ^ 200;omega⟩
theorem jK (h1:0<j):qu (.int i) (.int j)=some (.int (i%j)):=by unfold qu dI;simp only;rw [if_pos];exact h1
theorem Zw (h:jc7 i j):QM (.int i) (.int j)=some (.int (i ^ j.toNat)):=by unfold QM dI;simp only;rw [if_pos h]
theorem jh8:QM (.int 10) (.int 5)=some (.int 100000):=by rw [Zw (by unfold jc7;omega)];rfl
theorem jjV:QM (.int 10) (.int 9)=some (.int 1000000000):=by rw [Zw (by unfold jc7;omega)];rfl
theorem jle:QM (.int 10) (.int 14)=some (.int 100000000000000):=by rw [Zw (by unfold jc7;omega)];rfl
theorem jg1:QM (.int 10) (.int 15)=some (.int 1000000000000000):=by rw [Zw (by unfold jc7;omega)];rfl
theorem jgG:QM (.int 10) (.int 16)=some (.int 10000000000000000):=by rw [Zw (by unfold jc7;omega)];rfl
theorem jaa:dLt (.int i) (.int j)=some (.bl (decide (i<j))):=rfl
theorem jaS:dLe (.int i) (.int j)=some (.bl (decide (i<=j))):=rfl
theorem jaX:dGt (.int i) (.int j)=some (.bl (decide (j<i))):=rfl
theorem jc0:dGe (.int i) (.int j)=some (.bl (decide (j<=i))):=rfl
theorem jkM:decide (V.int i=V.int j)=decide (i=j):=by
 by_cases q:i=j
 . subst q;simp
 . have:¬V.int i=V.int j:=fun z=>q (by injection z);simp [q,this]
theorem jki:dEq (.int i) (.int j)=some (.bl (decide (i=j))):=by show some (D.bl (decide (V.int i=V.int j)))=_;rw [jkM]
theorem jol:dNe (.int i) (.int j)=some (.bl (!decide (i=j))):=by show some (D.bl (!decide (V.int i=V.int j)))=_;rw [jkM]
theorem jqI {a b:Bool}:dEq (.bl a) (.bl b)=some (.bl (decide (a=b))):=by cases a <;> cases b <;> rfl
theorem jpR {a b:Bool}:dNe (.bl a) (.bl b)=some (.bl (!decide (a=b))):=by cases a <;> cases b <;> rfl
theorem jqV {ds:List D} {i:Int} (h0:0<=i) (h1:i<ds.length):∃m,m∈ds/\jM (.lst ds) (.int i)=some m:=by
 have hi:i.toNat<ds.length:=by omega
 refine ⟨ds[i.toNat],KC hi,?_⟩;show atI ds i=_;unfold atI ixN;rw [if_pos h0,if_pos h1];simp [hi]
theorem jab {ds:List D} {i:Int} {d:D} (h0:0<=i) (h:ds[i.toNat]?=some d):jM (.lst ds) (.int i)=some d:=by have hi:i.toNat<ds.length:=(Yh.mp h).1;show atI ds i=_;unfold atI ixN;rw [if_pos h0,if_pos (by omega)];simpa using h
theorem j2 {n:Nat} (h:n<16777216):Jm n=true:=Y8 h
theorem jbx {i:Int}:QJ "int" (.int i)=some true:=by rfl
theorem jc2 {b:Bool}:QJ "int" (.bl b)=some true:=by rfl
theorem jbF  : QJ "int" .non=some false:=by rfl
theorem jbv {z:Str}:QJ "int" (.str z)=some false:=by rfl
theorem jbq {l:List D}:QJ "int" (.lst l)=some false:=by rfl
theorem jbG {l:List D}:QJ "int" (.tup l)=some false:=by rfl
theorem jaz {i:Int}:QJ "bool" (.int i)=some false:=by rfl
theorem jbp {b:Bool}:QJ "bool" (.bl b)=some true:=by rfl
theorem jaM  : QJ "bool" .non=some false:=by rfl
theorem jaj {z:Str}:QJ "bool" (.str z)=some false:=by rfl
theorem jav {l:List D}:QJ "bool" (.lst l)=some false:=by rfl
theorem jaE {l:List D}:QJ "bool" (.tup l)=some false:=by rfl
theorem jbu {i:Int}:QJ "str" (.int i)=some false:=by rfl
theorem jc5 {b:Bool}:QJ "str" (.bl b)=some false:=by rfl
theorem jbN  : QJ "str" .non=some false:=by rfl
theorem jbO {z:Str}:QJ "str" (.str z)=some true:=by rfl
theorem jbz {l:List D}:QJ "str" (.lst l)=some false:=by rfl
theorem jby {l:List D}:QJ "str" (.tup l)=some false:=by rfl
theorem jak {i:Int}:QJ "list" (.int i)=some false:=by rfl
theorem jbs {b:Bool}:QJ "list" (.bl b)=some false:=by rfl
theorem jaN  : QJ "list" .non=some false:=by rfl
theorem jas {z:Str}:QJ "list" (.str z)=some false:=by rfl
theorem jag {l:List D}:QJ "list" (.lst l)=some true:=by rfl
theorem jaG {l:List D}:QJ "list" (.tup l)=some false:=by rfl
theorem ZW {i:Int}:QJ "tuple" (.int i)=some false:=by rfl
theorem jan {b:Bool}:QJ "tuple" (.bl b)=some false:=by rfl
theorem ZU  : QJ "tuple" .non=some false:=by rfl
theorem ZV {z:Str}:QJ "tuple" (.str z)=some false:=by rfl
theorem ZN {l:List D}:QJ "tuple" (.lst l)=some false:=by rfl
theorem ZP {l:List D}:QJ "tuple" (.tup l)=some true:=by rfl
theorem JI {a:D} {l:List D}:jM (.tup (a::l)) (.int 0)=some a:=by show atI (a::l) 0=_;unfold atI ixN;rw [if_pos (by decide),if_pos (by simp only [Yy];omega)];rfl
theorem zR {a b:D} {l:List D}:jM (.tup (a::b::l)) (.int 1)=some b:=by show atI (a::b::l) 1=_;unfold atI ixN;rw [if_pos (by decide),if_pos (by simp only [Yy];omega)];rfl
theorem ja6 {a b c:D} {l:List D}:jM (.tup (a::b::c::l)) (.int 2)=some c:=by show atI (a::b::c::l) 2=_;unfold atI ixN;rw [if_pos (by decide),if_pos (by simp only [Yy];omega)];rfl
theorem ja4 {a b c d:D} {l:List D}:jM (.tup (a::b::c::d::l)) (.int 3)=some d:=by show atI (a::b::c::d::l) 3=_;unfold atI ixN;rw [if_pos (by decide),if_pos (by simp only [Yy];omega)];rfl
theorem je4 {a:D} {l:List D}:jM (.lst (a::l)) (.int 0)=some a:=by show atI (a::l) 0=_;unfold atI ixN;rw [if_pos (by decide),if_pos (by simp only [Yy];omega)];rfl
theorem jlc {a b:D} {l:List D}:jM (.lst (a::b::l)) (.int 1)=some b:=by show atI (a::b::l) 1=_;unfold atI ixN;rw [if_pos (by decide),if_pos (by simp only [Yy];omega)];rfl
theorem jkh {a b c:D} {l:List D}:jM (.lst (a::b::c::l)) (.int 2)=some c:=by show atI (a::b::c::l) 2=_;unfold atI ixN;rw [if_pos (by decide),if_pos (by simp only [Yy];omega)];rfl
theorem jjA {a b c d:D} {l:List D}:jM (.lst (a::b::c::d::l)) (.int 3)=some d:=by show atI (a::b::c::d::l) 3=_;unfold atI ixN;rw [if_pos (by decide),if_pos (by simp only [Yy];omega)];rfl
end
end L2
namespace L2
open PySem PySem.Spec PyProof.Rows
structure Fm where
 ι:Type
 X:ι->Cx
 K:PySem.W.Frag
 N:List Str
 hK:∀i,(X i).K=K
 hN:∀i,(X i).N=N
 calm:∀i,(X i).calm=true
abbrev Fm.fr (M:Fm):Fr:=⟨M.K⟩
structure WE (M:Fm) (e:Expr) (f:ee->Option D):Prop where
 h:∃t,(∀i,PE (M.X i) e t)/\@EOk M.fr t f
structure WT (M:Fm) (e:Expr) (f:ee->Option D):Prop where
 h:∃t,(∀i,PE (M.X i) e t)/\@Ji M.fr t f
structure WO (M:Fm) (e:Expr) (f:ee->Option (List D)):Prop where
 h:∃t,(∀i,PE (M.X i) e t)/\@EOkO M.fr t f
structure WC (M:Fm) (e:Expr) (f:ee->Option Bool):Prop where
 h:∃t,(∀i,PT (M.X i) e t)/\@TOk M.fr t f
structure WW (M:Fm) (e:Expr) (f:ee->Option Bool):Prop where
 h:∃t,(∀i,PW (M.X i) e t)/\@TOk M.fr t f
structure WTs (M:Fm) (e:List Expr) (f:ee->Option Bool):Prop where
 h:∃t,(∀i,PTs (M.X i) e t)/\@TOk M.fr t f
structure WA (M:Fm) (e:List Expr) (f:ee->Option (List D)):Prop where
 h:∃t,(∀i,PA (M.X i) e t)/\@AOk M.fr t f
structure WAT (M:Fm) (e:List Expr) (f:ee->Option (List D)):Prop where
 h:∃t,(∀i,PA (M.X i) e t)/\@jbd M.fr t f
structure WP (M:Fm) (e:Option Expr) (f:ee->Option (Option Int)):Prop where
 h:∃t,(∀i,PO (M.X i) e t)/\@POk M.fr t f
structure WI (M:Fm) (tg e:Expr) (f:ee->Option (List D)):Prop where
 h:∃t,(∀i,PI (M.X i) tg e t)/\@IOk M.fr t f
structure WIT (M:Fm) (tg e:Expr) (f:ee->Option (List D)):Prop where
 h:∃t,(∀i,PI (M.X i) tg e t)/\@jiV M.fr t f
structure WG (M:Fm) (tg:Expr) (m:D->ee->Option ee):Prop where
 h:∃t,(∀i,PG (M.X i) tg t)/\@GOk M.fr t m
structure WGs (M:Fm) (tg:List Expr) (m:List D->ee->Option ee):Prop where
 h:∃t,(∀i,PGs (M.X i) tg t)/\@jiv M.fr t m
structure WL (M:Fm) (n:Nat) (tg:Expr) (m:D->ee->Option ee):Prop where
 h:∃t,(∀i,PG (M.X i) tg t)/\@GOk M.fr t m/\jgS n t
structure WS (M:Fm) (st:Stmt) (F:FS):Prop where
 h:∃t,(∀i,PS (M.X i) st t)/\@ZI M.fr t F
structure WSs (M:Fm) (st:List Stmt) (F:FS):Prop where
 h:∃t,(∀i,PSs (M.X i) st t)/\@ZI M.fr t F
def ql:Expr->Bool
 | .Starred _ _=>true
 | _=>false
theorem qE {e:Expr} {es:List Expr} {env:PySem.Env} (h:ql e=false):starEach (e::es) env=(false,eval e env)::starEach es env:=by cases e <;> first | rfl | cases h
theorem JH {pos:Pos} {env:PySem.Env}:∀{es:List Expr},(es.all fun e=>!ql e)=true->(backTo pos (starEach es env)).any (·.1)=false
 | [],_=>rfl
 | e::es,h=>by simp only [Kx,yi,Bool.not_eq_true'] at h;rw [qE h.1];show (false || (backTo pos (starEach es env)).any (·.1))=false;rw [JH h.2];rfl
section
variable {M:Fm} {a b c e o:Expr} {es:List Expr} {fa fb fc fe:ee->Option D} {fo:ee->Option (List D)} {fs:ee->Option (List D)} {ga gb:ee->Option Bool} {pos p apos cpos:Pos} {x:Str}
theorem WO.toE (h:WO M e fo):WE M e (jN fo):=let ⟨t,h1,h2⟩:=h.h;⟨t,h1,@EOkO.e M.fr _ _ h2⟩
theorem WE.toT (h:WE M e fe):WT M e fe:=let ⟨t,h1,h2⟩:=h.h;⟨t,h1,@EOk.t M.fr _ _ h2⟩
abbrev eg:=@WE.toT
theorem js (i:Nat) (hN:M.N[i]?=some x:=by rfl) (hv:autoParam (∀j,Vis (M.X j).env.scope x) QA.a7._auto_1) (hd:‹"q"›=false:=by decide)
 (hcd:(x == ("__classdict__":Str))=false:=by decide):WE M (.Name x pos) (jq i):=⟨_,fun j=>Zr (by rw [M.hN j];exact hN) (hv j) hd hcd,@jql M.fr i⟩
theorem jb (i:Nat) (hN:M.N[i]?=some x:=by rfl) (hv:autoParam (∀j,Vis (M.X j).env.scope x) QA.a7._auto_1) (hd:‹"q"›=false:=by decide)
 (hcd:(x == ("__classdict__":Str))=false:=by decide):WT M (.Name x pos) (ja i):=⟨_,fun j=>Zr (by rw [M.hN j];exact hN) (hv j) hd hcd,@job M.fr i⟩
theorem zE {i:Int} {t:Tok} (hg:∀j,Gl (M.X j) x) (hm:∀j,(M.X j).mg x=some (.int i t)) (hd:‹"q"›=false:=by decide):WE M (.Name x pos) (eC (.int i)):=⟨_,fun j=>jmv (hg j) (hm j) hd,@jna M.fr i⟩
theorem jk {i:Int} {k:Nat}:WE M (.Constant (.int i) k pos) (eC (.int i)):=⟨_,fun _=>jn5,@jna M.fr i⟩
theorem Q1 {i:Bool} {k:Nat}:WE M (.Constant (.bool i) k pos) (eC (.bl i)):=⟨_,fun _=>jpx,@jro M.fr i⟩
theorem jh6 {k:Nat}:WE M (.Constant .none k pos) (eC .non):=⟨_,fun _=>jpc,@jpo M.fr⟩
theorem jdQ {op:Operator} {r:R2} {f:D->D->Option D} (ho:∀j,OpR (M.X j) (binaryOp op) r) (hr:@ROk M.fr r f) (ha:WT M a fa) (hb:WT M b fb):WE M (.BinOp a op b pos) (jl f fa fb):=let ⟨_,h1,h2⟩:=ha.h;let ⟨_,k1,k2⟩:=hb.h;⟨_,fun j=>jkR (ho j) (h1 j) (k1 j),@jmq M.fr _ _ _ _ _ _ hr h2 k2⟩
theorem qB (ha:WT M a fa) (hb:WT M b fb):WE M (.BinOp a .Add b pos) (jl qp fa fb):=jdQ (fun _=>jnw) (@jpB M.fr) ha hb
theorem zd (ha:WT M a fa) (hb:WT M b fb):WE M (.BinOp a .Sub b pos) (jl qI fa fb):=jdQ (fun _=>jnX) (@jqk M.fr) ha hb
theorem Jf (ha:WT M a fa) (hb:WT M b fb):WE M (.BinOp a .Mult b pos) (jl za fa fb):=jdQ (fun _=>jmz) (@jqK M.fr) ha hb
theorem zV (ha:WT M a fa) (hb:WT M b fb):WE M (.BinOp a .FloorDiv b pos) (jl zy fa fb):=jdQ (fun _=>jkw) (@jqD M.fr) ha hb
theorem qM (ha:WT M a fa) (hb:WT M b fb):WE M (.BinOp a .Mod b pos) (jl qu fa fb):=jdQ (fun _=>jnG) (@jqM M.fr) ha hb
theorem jd0 (ha:WT M a fa) (hb:WT M b fb):WE M (.BinOp a .Pow b pos) (jl QM fa fb):=jdQ (fun _=>jnJ) (@jpH M.fr) ha hb
theorem jih (ha:WT M a fa) (hb:WT M b fb):WO M (.BinOp a .Add b pos) (jl jbU fa fb):=let ⟨_,h1,h2⟩:=ha.h;let ⟨_,k1,k2⟩:=hb.h;⟨_,fun j=>jkR jl4 (h1 j) (k1 j),@jmM M.fr _ _ _ _ _ _ (@jqq M.fr) h2 k2⟩
theorem jj2 (ha:WT M a fa):WE M (.UnaryOp .USub a pos) (jcL fa):=let ⟨_,h1,h2⟩:=ha.h;⟨_,fun j=>jpz jpb (h1 j),@jpD M.fr _ _ h2⟩
theorem w_not (ha:WT M a fa):WE M (.UnaryOp .Not a pos) (jiy fa):=let ⟨_,h1,h2⟩:=ha.h;⟨_,fun j=>jnL (h1 j),@jpX M.fr _ _ h2⟩
theorem jO (ha:WT M a fa) (hb:WT M b fb) (hs:jeF b:=by exact fun _ _=>rfl):WE M (.Subscript a b pos) (jl jM fa fb):=let ⟨_,h1,h2⟩:=ha.h;let ⟨_,k1,k2⟩:=hb.h;⟨_,fun j=>jmO (r:=rIx M.K) (by rw [<-M.hK j];exact jjl) (h1 j) (k1 j) hs,@jmq M.fr _ _ _ _ _ _ (@jrx M.fr) h2 k2⟩
structure WCmp (M:Fm) (op:CmpOp) (f:D->D->Option D):Prop where
 h:∃r,(∀j,OpR (M.X j) (compareOp op) r)/\@ROk M.fr r f
theorem jgZ:WCmp M .Lt dLt:=⟨_,fun _=>jqt,@jry M.fr⟩
theorem jfW:WCmp M .LtE dLe:=⟨_,fun _=>jqW,@jrb M.fr⟩
theorem jmd:WCmp M .Gt dGt:=⟨_,fun _=>jqC,@jrL M.fr⟩
theorem ji8:WCmp M .GtE dGe:=⟨_,fun _=>jpl,@jrj M.fr⟩
theorem jcu (hu:∀j,(M.X j).A.units+64<cLine):WCmp M .Eq dEq:=⟨@jgY M.fr,fun j=>by have:=jkV (hu j);rw [M.hK j] at this;exact this,@jrc M.fr⟩
theorem jgz (hu:∀j,(M.X j).A.units+64<cLine):WCmp M .NotEq dNe:=⟨@jgy M.fr,fun j=>by have:=jkq (hu j);rw [M.hK j] at this;exact this,@jrD M.fr⟩
theorem jrm:WCmp M .In (dIn false):=⟨rIn M.K false,fun j=>by have:=jiD (X:=M.X j);rw [M.hK j] at this;exact this,@jrq M.fr false⟩
variable {op op':CmpOp} {f f':D->D->Option D}
theorem jf7 (ho:WCmp M op f) (ha:WT M a fa) (hb:WT M b fb) (hm:autoParam (behindInMarks op b=false) QA.a9._auto_1):WE M (.Compare a [op] [b] pos) (jl f fa fb):=let ⟨_,r1,r2⟩:=ho.h;let ⟨_,h1,h2⟩:=ha.h;let ⟨_,k1,k2⟩:=hb.h;⟨_,fun j=>jlI (r1 j) (h1 j) (k1 j) hm,@jmq M.fr _ _ _ _ _ _ r2 h2 k2⟩
theorem qr (ho:WCmp M op f) (ha:WT M a fa) (hb:WT M b fb) (hm:autoParam (behindInMarks op b=false) QA.a9._auto_1):WC M (.Compare a [op] [b] pos) (qw (jl f fa fb)):=let ⟨_,r1,r2⟩:=ho.h;let ⟨_,h1,h2⟩:=ha.h;let ⟨_,k1,k2⟩:=hb.h;⟨_,fun j=>jmb (r1 j) (h1 j) (k1 j) hm,@jo9 M.fr _ _ (@EOk.t M.fr _ _ (@jmq M.fr _ _ _ _ _ _ r2 h2 k2))⟩
theorem jhW (ho:WCmp M op f) (ho':WCmp M op' f') (ha:WT M a fa) (hb:WT M b fb) (hc:WT M c fc) (hm:autoParam (lastMarks [op,op'] [b,c]=false) QA.a6._auto_1):WE M (.Compare a [op,op'] [b,c] pos) (JY f f' fa fb fc):=let ⟨_,r1,r2⟩:=ho.h;let ⟨_,r3,r4⟩:=ho'.h;let ⟨_,h1,h2⟩:=ha.h;let ⟨_,k1,k2⟩:=hb.h;let ⟨_,l1,l2⟩:=hc.h;⟨_,fun j=>jj6 (r1 j) (r3 j) (h1 j) (k1 j) (l1 j) hm,@jlW M.fr _ _ _ _ _ _ _ _ _ _ r2 r4 h2 k2 l2⟩
theorem jpE {k:Nat} {p':Pos} (ha:WT M a fa):WC M (.Compare a [.Is] [.Constant .none k p'] pos) (qw (ji1 fa)):=let ⟨_,h1,h2⟩:=ha.h;⟨_,fun j=>jjN (jo8 (h1 j)),@t_B M.fr _ _ (@EOk.t M.fr _ _ (@jp9 M.fr _ _ h2))⟩
theorem jgL {k:Nat} {p':Pos} (ha:WT M a fa):WC M (.Compare a [.IsNot] [.Constant .none k p'] pos) (qw (jaA fa)):=let ⟨_,h1,h2⟩:=ha.h;⟨_,fun j=>jjN (jlD (h1 j)),@t_B M.fr _ _ (@EOk.t M.fr _ _ (@jod M.fr _ _ h2))⟩
theorem jk7 {bo:BoolOp} (h:WE M a fa):WE M (.BoolOp bo [a] pos) fa:=let ⟨_,h1,h2⟩:=h.h;⟨_,fun j=>jn3 (h1 j),h2⟩
theorem jhQ (ha:WT M a fa) (hb:WE M (.BoolOp .And (b::es) pos) fb):WE M (.BoolOp .And (a::b::es) pos) (jcb fa fb):=let ⟨_,h1,h2⟩:=ha.h;let ⟨_,k1,k2⟩:=hb.h;⟨_,fun j=>jno (h1 j) (k1 j),@jp5 M.fr _ _ _ _ h2 k2⟩
theorem jrn (hc:WC M c ga) (ha:WE M a fa) (hb:WE M b fb):WE M (.IfExp c a b pos) (eIf ga fa fb):=let ⟨_,l1,l2⟩:=hc.h;let ⟨_,h1,h2⟩:=ha.h;let ⟨_,k1,k2⟩:=hb.h;⟨_,fun j=>jjH (l1 j) (h1 j) (k1 j),@jrv M.fr _ _ _ _ _ _ l2 h2 k2⟩
theorem Qt (h:WT M a fa) (he:∀j whole,isTrue a (M.X j).env whole=(do let v <- whole;standAt a.pos;holding [v] (truthy v)):=by intro _ _;rfl):WC M a (qw fa):=let ⟨_,h1,h2⟩:=h.h;⟨_,fun j=>jnz (h1 j) (he j),@t_B M.fr _ _ h2⟩
theorem WW.toC (h:WW M a ga):WC M a ga:=let ⟨_,h1,h2⟩:=h.h;⟨_,fun j=>(h1 j).pt,h2⟩
theorem jey (h:WC M a ga):WW M (.BoolOp .And [a] pos) ga:=let ⟨_,h1,h2⟩:=h.h;⟨_,fun j=>jma (h1 j),h2⟩
theorem jai (h:WC M a ga):WW M (.BoolOp .Or [a] pos) ga:=let ⟨_,h1,h2⟩:=h.h;⟨_,fun j=>joR (h1 j),h2⟩
theorem jim (ha:WC M a ga) (hb:WW M (.BoolOp .And (b::es) pos) gb):WW M (.BoolOp .And (a::b::es) pos) (jat ga gb):=let ⟨_,h1,h2⟩:=ha.h;let ⟨_,k1,k2⟩:=hb.h;⟨_,fun j=>jnN (h1 j) (k1 j),@jh3 M.fr _ _ _ _ h2 k2⟩
theorem jdd (ha:WC M a ga) (hb:WW M (.BoolOp .Or (b::es) pos) gb):WW M (.BoolOp .Or (a::b::es) pos) (bOr ga gb):=let ⟨_,h1,h2⟩:=ha.h;let ⟨_,k1,k2⟩:=hb.h;⟨_,fun j=>jqG (h1 j) (k1 j),@jrk M.fr _ _ _ _ h2 k2⟩
theorem QY (ha:WC M a ga):WC M (.UnaryOp .Not a pos) (J7 ga):=let ⟨_,h1,h2⟩:=ha.h;⟨_,fun j=>jon (h1 j),@QW M.fr _ _ h2⟩
theorem jw:WA M [] jj:=⟨_,fun _=>jcf,@a_nil M.fr⟩
theorem je (ha:WE M e fe) (hs:WA M es fs) (h:ql e=false:=by rfl):WA M (e::es) (jc fe fs):=let ⟨_,h1,h2⟩:=ha.h;let ⟨_,k1,k2⟩:=hs.h;⟨_,fun j=>Zv (h1 j) (k1 j) (qE h),@joW M.fr _ _ _ _ h2 k2⟩
theorem jA:WAT M [] jj:=⟨_,fun _=>jcf,@joB M.fr⟩
theorem jr (ha:WT M e fe) (hs:WAT M es fs) (h:ql e=false:=by rfl):WAT M (e::es) (jc fe fs):=let ⟨_,h1,h2⟩:=ha.h;let ⟨_,k1,k2⟩:=hs.h;⟨_,fun j=>Zv (h1 j) (k1 j) (qE h),@jl3 M.fr _ _ _ _ h2 k2⟩
theorem jdP {k:Nat} (h:WA M es fs):WE M (.Tuple es k pos) (QP fs):=let ⟨_,h1,h2⟩:=h.h;⟨_,fun j=>jnS (h1 j),@jpA M.fr _ _ h2⟩
theorem Jp (h:WA M es fs):WO M (.List es pos) (zH fs):=let ⟨_,h1,h2⟩:=h.h;⟨_,fun j=>joO (h1 j),@jqA M.fr _ _ h2⟩
theorem jpj:WP M none pNo:=⟨_,fun _=>jlV,@jrG M.fr⟩
theorem jjv (h:WT M e fe):WP M (some e) (pSo fe):=let ⟨_,h1,h2⟩:=h.h;⟨_,fun j=>jls (h1 j),@jrs M.fr _ _ h2⟩
theorem jpL {lo hi:Option Expr} {fl fh:ee->Option (Option Int)} {p2:Pos} (h:WT M e fe) (hl:WP M lo fl) (hh:WP M hi fh):WO M (.Subscript e (.Slice lo hi none p2) pos) (eSl fe fl fh):=let ⟨_,h1,h2⟩:=h.h;let ⟨_,k1,k2⟩:=hl.h;let ⟨_,l1,l2⟩:=hh.h;⟨_,fun j=>jkD (r:=joz M.K) (by rw [<-M.hK j];exact jmB) (h1 j) (k1 j) (l1 j),@jrE M.fr _ _ _ _ _ _ h2 k2 l2⟩
structure WB (M:Fm) (g:Value) (f:List D->Option D):Prop where
 h:∃r,(∀j,CallR (M.X j) g r)/\@jeB M.fr r f
structure WBO (M:Fm) (g:Value) (f:List D->Option (List D)):Prop where
 h:∃r,(∀j,CallR (M.X j) g r)/\@jfC M.fr r f
theorem tw:WB M (.builtin "len") qj:=⟨_,fun j=>by have:=jje (X:=M.X j);rw [M.hK j] at this;exact this,@jpp M.fr⟩
theorem tN:WBO M (.type "list") J4:=⟨_,fun j=>by have:=jeN (X:=M.X j);rw [M.hK j] at this;exact this,@jnP M.fr⟩
theorem vo:WB M (.builtin "sum") jbP:=⟨_,fun j=>by have:=jj1 (M.calm j);rw [M.hK j] at this;exact this,@jqH M.fr⟩
theorem uS:WB M (.builtin "all") jdz:=⟨_,fun j=>by have:=jkk (M.calm j);rw [M.hK j] at this;exact this,@jqu M.fr⟩
theorem jk4:WB M (.builtin "min") ZL:=⟨_,fun j=>jiT (M.calm j),@joF M.fr⟩
theorem jpa:WB M (.builtin "max") jbB:=⟨_,fun j=>jiZ (M.calm j),@jnM M.fr⟩
theorem jn0:WB M (.builtin "min") jbH:=⟨_,fun j=>jiI (M.calm j),@jo0 M.fr⟩
theorem wC:WB M (.type "int") jiM:=⟨_,fun _=>jjb,@jp2 M.fr⟩
theorem joH:WBO M (.builtin "sorted") jfi:=⟨_,fun j=>by have:=jha (M.calm j);rw [M.hK j] at this;exact this,@jos M.fr⟩
variable {id T:String} {f1:List D->Option D} {f2:List D->Option (List D)}
theorem zg (hc:WB M (.builtin id) f1) (hg:∀j,Gl (M.X j) x) (hm:∀j,(M.X j).mg x=none) (hv:bootBuiltins x=some (.builtin id)) (ha:WAT M (e::es) fs) (hn:x ≠ "__name__":=by decide) (hdb:‹"q"›=false:=by decide)
 (h:ql e=false:=by rfl) (h':(es.all fun e=>!ql e)=true:=by rfl):WE M ‹"E"› (jh f1 fs):=
 let ⟨_,r1,r2⟩:=hc.h;let ⟨_,h1,h2⟩:=ha.h;⟨_,fun j=>jaK (r1 j) (hg j) (hm j) hv (h1 j) hn hdb (qE h) (JH h'),@jpq M.fr _ _ _ _ r2 h2⟩
theorem jqb (hc:WBO M (.builtin id) f2) (hg:∀j,Gl (M.X j) x) (hm:∀j,(M.X j).mg x=none) (hv:bootBuiltins x=some (.builtin id)) (ha:WAT M (e::es) fs) (hn:x ≠ "__name__":=by decide) (hdb:‹"q"›=false:=by decide)
 (h:ql e=false:=by rfl) (h':(es.all fun e=>!ql e)=true:=by rfl):WO M ‹"E"› (jh f2 fs):=
 let ⟨_,r1,r2⟩:=hc.h;let ⟨_,h1,h2⟩:=ha.h;⟨_,fun j=>jaK (r1 j) (hg j) (hm j) hv (h1 j) hn hdb (qE h) (JH h'),@jm1 M.fr _ _ _ _ r2 h2⟩
theorem jrg (hc:WB M (.type T) f1) (hg:∀j,Gl (M.X j) x) (hm:∀j,(M.X j).mg x=none) (hv:bootBuiltins x=some (.type T)) (ha:WAT M (e::es) fs) (hn:x ≠ "__name__":=by decide) (hdb:‹"q"›=false:=by decide)
 (h:ql e=false:=by rfl) (h':(es.all fun e=>!ql e)=true:=by rfl):WE M ‹"E"› (jh f1 fs):=
 let ⟨_,r1,r2⟩:=hc.h;let ⟨_,h1,h2⟩:=ha.h;⟨_,fun j=>Zy (r1 j) (hg j) (hm j) hv (h1 j) hn hdb (qE h) (JH h'),@jpq M.fr _ _ _ _ r2 h2⟩
theorem jcI (hc:WBO M (.type T) f2) (hg:∀j,Gl (M.X j) x) (hm:∀j,(M.X j).mg x=none) (hv:bootBuiltins x=some (.type T)) (ha:WAT M (e::es) fs) (hn:x ≠ "__name__":=by decide) (hdb:‹"q"›=false:=by decide)
 (h:ql e=false:=by rfl) (h':(es.all fun e=>!ql e)=true:=by rfl):WO M ‹"E"› (jh f2 fs):=
 let ⟨_,r1,r2⟩:=hc.h;let ⟨_,h1,h2⟩:=ha.h;⟨_,fun j=>Zy (r1 j) (hg j) (hm j) hv (h1 j) hn hdb (qE h) (JH h'),@jm1 M.fr _ _ _ _ r2 h2⟩
theorem Z2 {y:Str} {p':Pos} (hg:∀j,Gl (M.X j) "isinstance") (hm:∀j,(M.X j).mg "isinstance"=none) (hg':∀j,Gl (M.X j) y) (hm':∀j,(M.X j).mg y=none) (hv':bootBuiltins y=some (.type T)) (hT:okT T=true) (ha:WT M a fa)
 (hn:y ≠ "__name__":=by decide) (hdb:(y == ("__debug__":Str))=false:=by decide) (h:ql a=false:=by rfl):WE M (.Call (.Name "isinstance" p) [a,.Name y p'] [] pos) (QN T fa):=
 let ⟨_,h1,h2⟩:=ha.h
 ⟨_,fun j=>jaK (r:=fun xs H Q=>∃x T b,xs=[x,.ty T]/\IsT M.K H x T b/\Q (.bl b) H) (by have:=jgd (X:=M.X j);rw [M.hK j] at this;exact this) (hg j) (hm j) boot_isinstance (Zv (h1 j) (Zv (jqy (hg' j) (hm' j) hv' hn hdb) jcf (qE rfl)) (qE h)) (by decide) (by decide) (qE h) (JH rfl),@jqX M.fr T _ _ h2 hT⟩
theorem jny {p' pos':Pos} (hg:∀j,Gl (M.X j) "sorted") (hm:∀j,(M.X j).mg "sorted"=none) (hg':∀j,Gl (M.X j) "set") (hm':∀j,(M.X j).mg "set"=none) (ha:WAT M [e] fs) (h:ql e=false:=by rfl) (sub:∀i j,(M.X i).prog=(M.X j).prog ∧ (M.X i).w=(M.X j).w) (j0:M.ι) :
 WO M (.Call (.Name "sorted" p) [.Call (.Name "set" p') [e] [] pos'] [] pos) (jft fs):=
 let ⟨ta,h1,h2⟩:=ha.h
 ⟨_,fun j=>by
  have r1:=jgC (X:=M.X j) (M.calm j);have r2:=jcO (X:=M.X j) (M.calm j);have eS:∀a ns,jep (M.X j) a ns=jep (M.X j0) a ns:=fun a ns=>by unfold jep;rw [(sub j j0).1,(sub j j0).2]
  rw [M.hK j] at r1;simp only [eS] at r1 r2;exact jaK r2 (hg j) (hm j) boot_sorted (Zv (Zy r1 (hg' j) (hm' j) boot_set (h1 j) (by decide) (by decide) (qE h) (JH rfl)) jcf (qE rfl)) (by decide) (by decide) (qE rfl) (JH rfl),@jnt M.fr (M.X j0) _ _ h2⟩
theorem jrd {p1 p2 pos1 pos2:Pos} (hg1:∀j,Gl (M.X j) "list") (hm1:∀j,(M.X j).mg "list"=none) (hg2:∀j,Gl (M.X j) "zip") (hm2:∀j,(M.X j).mg "zip"=none) (ha:WAT M [a,b] fs) (h:ql a=false:=by rfl) (h':ql b=false:=by rfl) :
 WO M (.Call (.Name "list" p1) [.Call (.Name "zip" p2) [a,b] [] pos2] [] pos1) (eLZ fs):=
 let ⟨_,h1,h2⟩:=ha.h
 ⟨jdi M.K _,fun j=>by have:=jhq (p1:=p1) (p2:=p2) (pos1:=pos1) (pos2:=pos2) (M.calm j) (hg1 j) (hm1 j) (hg2 j) (hm2 j) (h1 j) (by rw [qE h,qE h'];rfl) (by rw [qE h'];rfl) (by rw [qE rfl];rfl);rw [M.hK j] at this;exact this,@jrz M.fr _ _ h2⟩
theorem jU {k:Nat} {g:Addr} {fd:FuncData} {ps:List Str} (F:∀j,FnOk (M.X j).prog (M.X j).w (M.X j).K (M.X j).mg (M.X j).base J6 k g fd ps (@spS M.fr f1)) (hr:∀j,Room k (M.X j).A) (hg:∀j,Gl (M.X j) x) (hm:∀j,(M.X j).mg x=some (.ref g)) (hk:∀j,PySem.W.keepIn (M.X j).K (.ref g)=true)
 (hb:∀j,Binds (M.X j).K fd ps []) (ha:WA M (e::es) fs) (hdb:‹"q"›=false:=by decide) (h:ql e=false:=by rfl) (h':(es.all fun e=>!ql e)=true:=by rfl):WE M ‹"E"› (jh f1 fs):=
 let ⟨_,h1,h2⟩:=ha.h;⟨_,fun j=>jhI (F j) (hr j) (hg j) (hm j) (hk j) (hb j) .nil jnk (h1 j) hdb (qE h) (JH h'),@joD M.fr _ _ f1 E0 h2⟩
theorem qW {k:Nat} {g:Addr} {fd:FuncData} {ps:List Str} (F:∀j,FnOk (M.X j).prog (M.X j).w (M.X j).K (M.X j).mg (M.X j).base J6 k g fd ps (@spO M.fr f2)) (hr:∀j,Room k (M.X j).A) (hg:∀j,Gl (M.X j) x) (hm:∀j,(M.X j).mg x=some (.ref g)) (hk:∀j,PySem.W.keepIn (M.X j).K (.ref g)=true)
 (hb:∀j,Binds (M.X j).K fd ps []) (ha:WA M (e::es) fs) (hdb:‹"q"›=false:=by decide) (h:ql e=false:=by rfl) (h':(es.all fun e=>!ql e)=true:=by rfl):WO M ‹"E"› (jh f2 fs):=
 let ⟨_,h1,h2⟩:=ha.h;⟨_,fun j=>jhI (F j) (hr j) (hg j) (hm j) (hk j) (hb j) .nil jnk (h1 j) hdb (qE h) (JH h'),@jmw M.fr _ _ f2 E0 h2⟩
variable {m:D->ee->Option ee} {ms:List D->ee->Option ee} {tg iter:Expr}
theorem qd {i:Nat} (hN:∀j,(M.X j).N.Nodup) (hi:M.N[i]?=some x) (hx:∀j,Loc (M.X j).env.scope x) (hf:∀j,(M.X j).fn x=true\/(M.X j).env.scope.names.lookup x=some .local):WG M (.Name x pos) (jz i):=⟨_,fun j=>jej (hN j) (by rw [M.hN j];exact hi) (hx j) (hf j),@jg5 M.fr i⟩
theorem jce:WGs M [] Qi:=⟨_,fun _=>jhO,@jm6 M.fr⟩
theorem zL (h1:WG M e m) (h2:WGs M es ms) (hs:∀j,(assignEach (e::es) (M.X j).env).map (·.2)=assign e (M.X j).env::‹"aB"›.map (·.2):=by intro _;rfl):WGs M (e::es) (jZ m ms):=let ⟨_,a1,a2⟩:=h1.h;let ⟨_,b1,b2⟩:=h2.h;⟨_,fun j=>jf3 (a1 j) (b1 j) (hs j),@jlb M.fr _ _ _ _ a2 b2⟩
theorem jcM {k n:Nat} (h:WGs M es ms) (hn:∀j,‹"aB"›.length=n:=by intro _;rfl) (hst:∀j,‹"aB"›.findIdx? (·.1)=none:=by intro _;rfl):WG M (.Tuple es k pos) (Qa n ms):=let ⟨_,a1,a2⟩:=h.h;⟨jl9 M.K n _,fun j=>by have:=jkn (k:=k) (pos:=pos) (M.calm j) (a1 j) (hn j) (hst j);rw [M.hK j] at this;exact this,@jmN M.fr n _ _ a2⟩
theorem WI.toT {f:ee->Option (List D)} (h:WI M tg e f):WIT M tg e f:=let ⟨_,h1,h2⟩:=h.h;⟨_,h1,@IOk.t M.fr _ _ h2⟩
theorem jb3 (h:WE M e fe):WI M tg e (qg fe):=let ⟨_,h1,h2⟩:=h.h;⟨jfv M.K _,fun j=>by have:=jhx (tg:=tg) (h1 j);rw [M.hK j] at this;exact this,@jnv M.fr _ _ h2⟩
theorem qy (h:WT M e fe):WIT M tg e (qg fe):=let ⟨_,h1,h2⟩:=h.h;⟨jfv M.K _,fun j=>by have:=jhx (tg:=tg) (h1 j);rw [M.hK j] at this;exact this,@jlT M.fr _ _ h2⟩
theorem jkE (h:WE M e fe):WI M tg e (Q9 fe):=let ⟨_,h1,h2⟩:=h.h;⟨jnC M.K _,fun j=>by have:=jof (tg:=tg) (h1 j);rw [M.hK j] at this;exact this,@jqo M.fr _ _ h2⟩
theorem zx (hg:∀j,Gl (M.X j) "range") (hm:∀j,(M.X j).mg "range"=none) (ha:WAT M [a] fs) (h:ql a=false:=by rfl):WI M tg (.Call (.Name "range" p) [a] [] pos) (Jt fs):=let ⟨_,h1,h2⟩:=ha.h;⟨_,fun j=>jiR (hg j) (hm j) (h1 j) (by rw [qE h];rfl),@jow M.fr _ _ h2⟩
theorem jb6 {ts:List Expr} {k:Nat} {tp:Pos} (hg:∀j,Gl (M.X j) "zip") (hm:∀j,(M.X j).mg "zip"=none) (ha:WAT M [a,b] fs) (h:ql a=false:=by rfl) (h':ql b=false:=by rfl):WIT M (.Tuple ts k tp) (.Call (.Name "zip" p) [a,b] [] pos) (QX fs):=let ⟨_,h1,h2⟩:=ha.h;⟨jnD M.K _,fun j=>by have:=jnI (elts:=ts) (x1:=k) (tpos:=tp) (p:=p) (pos:=pos) (hg j) (hm j) (h1 j) (by rw [qE h,qE h'];rfl) (by rw [qE h'];rfl);rw [M.hK j] at this;exact this,@jou M.fr _ _ h2⟩
theorem jll {ts:List Expr} {k:Nat} {tp:Pos} (hg:∀j,Gl (M.X j) "enumerate") (hm:∀j,(M.X j).mg "enumerate"=none) (ha:WA M [a] fs) (h:ql a=false:=by rfl):WI M (.Tuple ts k tp) (.Call (.Name "enumerate" p) [a] [] pos) (jeU fs):=let ⟨_,h1,h2⟩:=ha.h;⟨jjw M.K _,fun j=>by have:=jmf (elts:=ts) (x1:=k) (tpos:=tp) (p:=p) (pos:=pos) (hg j) (hm j) (h1 j) (by rw [qE h];rfl);rw [M.hK j] at this;exact this,@jo7 M.fr _ _ h2⟩
variable {st:Stmt} {sts body:List Stmt} {F F' B:FS}
theorem jS:WSs M [] jQ:=⟨_,fun _=>jlC,@jnR M.fr⟩
theorem jo (h:WS M st F):WSs M [st] F:=let ⟨_,h1,h2⟩:=h.h;⟨_,fun j=>jlk (h1 j),h2⟩
theorem jf (h:WS M st F) (h':WSs M sts F'):WSs M (st::sts) (jt F F'):=let ⟨_,h1,h2⟩:=h.h;let ⟨_,k1,k2⟩:=h'.h;⟨_,fun j=>jjt (h1 j) (k1 j),@jqz M.fr _ _ _ _ h2 k2⟩
theorem jes (h:WT M e fe) (hs:∀j,swapsWith e none pos.line (M.X j).env=pure false:=by intro _;rfl):WS M (.Expr e pos) (Ze fe):=let ⟨_,h1,h2⟩:=h.h;⟨_,fun j=>jhT (h1 j) (hs j),@jom M.fr _ _ h2⟩
theorem jR (h:WE M e fe):WS M (.Return (some e) pos) (j6 fe):=let ⟨_,h1,h2⟩:=h.h;⟨_,fun j=>jgs (h1 j),@jpu M.fr _ _ h2⟩
theorem Qf (h:WO M e fo):WS M (.Return (some e) pos) (Jc fo):=let ⟨_,h1,h2⟩:=h.h;⟨_,fun j=>jgs (h1 j),@joy M.fr _ _ h2⟩
theorem je2 (i:Nat) (hN:M.N[i]?=some x:=by rfl) (hv:autoParam (∀j,Vis (M.X j).env.scope x) QA.a7._auto_1) (hd:‹"q"›=false:=by decide)
 (hcd:(x == ("__classdict__":Str))=false:=by decide):WS M (.Return (some (.Name x p)) pos) (jbn i):=⟨_,fun j=>jgs ‹"1"›,@jo6 M.fr i⟩
theorem qC (hc:WC M c ga) (h:WSs M sts F) (h':WSs M body F'):WS M (.If c sts body pos) (zQ ga F F'):=let ⟨_,l1,l2⟩:=hc.h;let ⟨_,h1,h2⟩:=h.h;let ⟨_,k1,k2⟩:=h'.h;⟨_,fun j=>jqv (l1 j) (h1 j) (k1 j),@jre M.fr _ _ _ _ _ _ l2 h2 k2⟩
theorem jD {i:Nat} {pos':Pos} (h:WE M e fe) (hN:∀j,(M.X j).N.Nodup) (hi:M.N[i]?=some x) (hx:∀j,Loc (M.X j).env.scope x) (hf:∀j,(M.X j).fn x=true\/(M.X j).env.scope.names.lookup x=some .local) (hs:∀j,swapsWith e (some (.Name x pos')) pos.line (M.X j).env=pure false:=by intro _;rfl) :
 WS M (.Assign [.Name x pos'] e pos) (jE i fe):=let ⟨_,h1,h2⟩:=h.h;⟨_,fun j=>jgW (hN j) (by rw [M.hN j];exact hi) (hx j) (h1 j) (hs j) (hf j),@jmF M.fr _ _ i h2⟩
theorem JM {i:Nat} {pos':Pos} (h:WO M e fo) (hN:∀j,(M.X j).N.Nodup) (hi:M.N[i]?=some x) (hx:∀j,Loc (M.X j).env.scope x) (hf:∀j,(M.X j).fn x=true\/(M.X j).env.scope.names.lookup x=some .local) (hs:∀j,swapsWith e (some (.Name x pos')) pos.line (M.X j).env=pure false:=by intro _;rfl) :
 WS M (.Assign [.Name x pos'] e pos) (zc i fo):=let ⟨_,h1,h2⟩:=h.h;⟨_,fun j=>jgW (hN j) (by rw [M.hN j];exact hi) (hx j) (h1 j) (hs j) (hf j),@jjE M.fr _ _ i h2⟩
theorem jkH (h:WE M e fe) (hg:WG M tg m) (hs:∀j,swapsWithSole [tg] e pos.line (M.X j).env=pure false:=by intro _;rfl) (hw:∀j,swappedStores [tg] e (M.X j).env=pure none:=by intro _;rfl) (h1:∀j,(assignEach [tg] (M.X j).env).map (·.2)=[assign tg (M.X j).env]:=by intro _;rfl) :
 WS M (.Assign [tg] e pos) (jdB m fe):=let ⟨_,a1,a2⟩:=h.h;let ⟨_,b1,b2⟩:=hg.h;⟨_,fun j=>jjP (a1 j) (b1 j) (hs j) (hw j) (h1 j),@jqF M.fr _ _ _ _ b2 a2⟩
theorem jeI {i:Nat} {pos':Pos} {y:Str} {py:Pos} (hN:M.N[i]?=some y) (hv:∀j,Vis (M.X j).env.scope y) (hk:WE M b fb) (h:WE M e fe) (hd:(y == ("__debug__":Str))=false:=by decide) (hcd:(y == ("__classdict__":Str))=false:=by decide)
 (ha:autoParam (∀j v,assign (.Subscript (.Name y py) b pos') (M.X j).env v=(do
  let ov <- holding [v] (eval (.Name y py) (M.X j).env)
  let iv <- holding [v,ov] (eval b (M.X j).env)
  standAt pos'
  holding [v,ov,iv] (setItem ov iv v)
  release [v,ov,iv] [])) QA.a10._auto_1)
 (hs:∀j,swapsWithSole [.Subscript (.Name y py) b pos'] e pos.line (M.X j).env=pure false:=by intro _;rfl) (hw:∀j,swappedStores [.Subscript (.Name y py) b pos'] e (M.X j).env=pure none:=by intro _;rfl)
 (h1:∀j,(assignEach [.Subscript (.Name y py) b pos'] (M.X j).env).map (·.2)=[assign (.Subscript (.Name y py) b pos') (M.X j).env]:=by intro _;rfl):WS M (.Assign [.Subscript (.Name y py) b pos'] e pos) (Q8 i fb fe):=
 let ⟨_,a1,a2⟩:=h.h;let ⟨_,b1,b2⟩:=hk.h;⟨_,fun j=>jjP (a1 j) (jn6 ‹"1"› (b1 j) jfb (ha j)) (hs j) (hw j) (h1 j),@jpI M.fr _ _ _ _ i b2 a2⟩
theorem jcy (i:Nat) (h:WS M st F):WS M st (jad i F):=let ⟨_,h1,h2⟩:=h.h;⟨_,h1,@jpP M.fr _ _ i h2⟩
theorem zT (hi:WI M tg iter fo) (hg:WG M tg m) (hb:WSs M body B) (hp:autoParam (∀j,PassesOwn (model (M.X j).prog (M.X j).w) (M.X j).A (M.X j).env (M.X j).xe) QA.a11._auto_1) (hs:∀j x,foldedSetIterable iter (M.X j).env x=pure x:=by intro _ _;rfl):WS M (.For tg iter body [] pos) (zP fo m B):=let ⟨_,i1,i2⟩:=hi.h;let ⟨_,g1,g2⟩:=hg.h;let ⟨_,b1,b2⟩:=hb.h;⟨_,fun j=>jn1 (hp j) (M.calm j) (i1 j) (g1 j) (b1 j) (hs j),@jqj M.fr _ _ _ _ _ _ i2 g2 b2⟩
theorem jfn (hc:WC M c ga) (hb:WSs M body B) (hp:autoParam (∀j,PassesOwn (model (M.X j).prog (M.X j).w) (M.X j).A (M.X j).env (M.X j).xe) QA.a11._auto_1):WS M (.While c body [] pos) (QF ga B):=let ⟨_,c1,c2⟩:=hc.h;let ⟨_,b1,b2⟩:=hb.h;⟨_,fun j=>jlf (hp j) (c1 j) (b1 j),@jmx M.fr _ _ _ _ c2 b2⟩
theorem JZ {i:Nat} {y:Str} {py:Pos} (hN:M.N[i]?=some y) (hv:∀j,Vis (M.X j).env.scope y) (h:WE M e fe) (hd:(y == ("__debug__":Str))=false:=by decide) (hcd:(y == ("__classdict__":Str))=false:=by decide)
 (hbase:∀j,attributeBase (.Name y py) "append" (M.X j).env (eval (.Name y py) (M.X j).env)=eval (.Name y py) (M.X j).env:=by intro _;rfl) (hline:(apos.endLine == cpos.line)=true:=by rfl) (h':ql e=false:=by rfl)
 (hs:∀j,swapsWith (.Call (.Attribute (.Name y py) "append" apos) [e] [] cpos) none pos.line (M.X j).env=pure false:=by intro _;rfl):WS M (.Expr (.Call (.Attribute (.Name y py) "append" apos) [e] [] cpos) pos) (zG i fe):=
 let ⟨_,a1,a2⟩:=h.h
 ⟨_,fun j=>jhT (te:=tBM M.K "list" jeT _ _) (by have:=jqO (X:=M.X j) (apos:=apos) (cpos:=cpos) PySem.F.plainAttrs_list PySem.F.slot_list_append PySem.F.type_list_append jix (Zr (i:=i) (pos:=py) (by rw [M.hN j];exact hN) (hv j) hd hcd) (Zv (a1 j) jcf (qE h')) (hbase j) (by rw [qE h'];rfl) hline (qE h') (JH rfl);rw [M.hK j] at this;exact this) (hs j),@jp8 M.fr _ _ i a2⟩
def Fm.blk (M:Fm) (N:List Str) (scope:Scope):Fm:=⟨M.ι×Addr×Shared×Hp×List Addr,fun i=>(M.X i.1).blk N scope i.2.1 i.2.2.1 i.2.2.2.1 i.2.2.2.2,M.K,N,fun i=>M.hK i.1,fun _=>rfl,fun i=>M.calm i.1⟩
variable {ifs:List Expr} {scope sc:Scope} {Lc Fn:List Str} {ix:List Nat}
theorem qm {i n:Nat} (hN:∀j,(M.X j).N.Nodup) (hi:M.N[i]?=some x) (hn:i<n) (hx:∀j,Loc (M.X j).env.scope x) (hf:∀j,(M.X j).fn x=true\/(M.X j).env.scope.names.lookup x=some .local):WL M n (.Name x pos) (jz i):=⟨_,fun j=>jej (hN j) (by rw [M.hN j];exact hi) (hx j) (hf j),@jg5 M.fr i,jiQ hn⟩
def jp0 (n:Nat) (t:TGs):Prop:=(∀xs σ H Q,t xs σ H Q->t xs σ H fun σ2 H2=>Q σ2 H2/\σ2.length=σ.length/\∀j,n<=j->σ2[j]?=σ[j]?)/\∀xs σ H (Q Q':St->Hp->Prop),(∀σ H,Q σ H->Q' σ H)->t xs σ H Q->t xs σ H Q'
structure WLs (M:Fm) (n:Nat) (tg:List Expr) (m:List D->ee->Option ee):Prop where
 h:∃t:TGs,(∀i,PGs (M.X i) tg t)/\@jiv M.fr t m/\jp0 n t
theorem jc8 {n:Nat}:WLs M n [] Qi:=⟨joN,fun _=>jhO,@jm6 M.fr,fun xs σ H Q h=>⟨h.1,h.2,rfl,fun _ _=>rfl⟩,fun xs σ H Q Q' hq h=>⟨h.1,hq _ _ h.2⟩⟩
theorem zM {i n:Nat} (hN:∀j,(M.X j).N.Nodup) (hi:M.N[i]?=some x) (hn:i<n) (hx:∀j,Loc (M.X j).env.scope x) (hf:∀j,(M.X j).fn x=true\/(M.X j).env.scope.names.lookup x=some .local) (h:WLs M n es ms)
 (hs:∀j,(assignEach (.Name x pos::es) (M.X j).env).map (·.2)=assign (.Name x pos) (M.X j).env::‹"aB"›.map (·.2):=by intro _;rfl):WLs M n (.Name x pos::es) (jZ (jz i) ms):=
 let ⟨_,b1,b2,b3,b4⟩:=h.h
 ⟨_,fun j=>jf3 (jej (hN j) (by rw [M.hN j];exact hi) (hx j) (hf j)) (b1 j) (hs j),@jlb M.fr _ _ _ _ (@jg5 M.fr i) b2,fun xs σ H Q ⟨v,r,e,q⟩=>⟨v,r,e,b4 _ _ _ _ _ (fun σ2 H2 ⟨q1,q2,q3⟩=>⟨q1,by rw [q2];simp,fun k hk=>by rw [q3 k hk,YQ (by omega)]⟩) (b3 _ _ _ _ q)⟩,
  fun xs σ H Q Q' hq ⟨v,r,e,q⟩=>⟨v,r,e,b4 _ _ _ _ _ hq q⟩⟩
theorem jcx {k n l:Nat} (h:WLs M n es ms) (hn:∀j,‹"aB"›.length=l:=by intro _;rfl) (hst:∀j,‹"aB"›.findIdx? (·.1)=none:=by intro _;rfl):WL M n (.Tuple es k pos) (Qa l ms):=let ⟨_,a1,a2,a3,_⟩:=h.h;⟨jl9 M.K l _,fun j=>by have:=jkn (k:=k) (pos:=pos) (M.calm j) (a1 j) (hn j) (hst j);rw [M.hK j] at this;exact this,@jmN M.fr l _ _ a2,fun x σ H Q ⟨a,xs,e,hq,hl,q⟩=>⟨a,xs,e,hq,hl,a3 _ _ _ _ q⟩⟩
theorem j4:WTs M [] ‹"l"›:=⟨_,fun _=>jlJ,@jo3 M.fr⟩
theorem jhL (h:WC M e ga):WTs M [e] ga:=let ⟨_,h1,h2⟩:=h.h;⟨_,fun j=>jmn (h1 j),h2⟩
theorem Q2 (hsc:∀j,(M.X j).env.scope=sc) (ok:LcOk sc M.N scope Fn ix) (hi:WIT M tg iter fo) (hg:WL ‹"Y"› Lc.length tg m) (ht:WTs ‹"Y"› ifs ga) (he:WE ‹"Y"› e fe)
 (hs:∀j x,foldedSetIterable iter (M.X j).env x=pure x:=by intro _ _;rfl):WO M ‹"t"› (JV fo m ga fe Lc.length ix):=
 let ⟨_,i1,i2⟩:=hi.h;let ⟨_,g1,g2,g3⟩:=hg.h;let ⟨_,t1,t2⟩:=ht.h;let ⟨_,e1,e2⟩:=he.h
 ⟨_,fun j=>joU (hsc j) (M.hN j) (M.calm j) ok (i1 j) (fun C s H fp=>g1 (j,C,s,H,fp)) g3 (fun C s H fp=>t1 (j,C,s,H,fp)) (fun C s H fp=>e1 (j,C,s,H,fp)) (hs j),@jnF M.fr _ _ _ _ _ _ _ _ _ _ i2 g2 t2 e2⟩
def jhX (sc scope:Scope):Scope:={ scope with names:=scope.names.map fun (n,k)=>if (k == NameKind.free && sc.kind == .function && sc.names.lookup n == some .cell) then (n,NameKind.cell) else (n,k) }
theorem jm0 {N1:List Str} {scope1:Scope} (hsc:∀j,(M.X j).env.scope=sc) (ok:LcOk (jhX sc scope1) N1 scope Fn ix) (hi:WIT (M.blk N1 scope1) tg iter fo) (hg:WL ((M.blk N1 scope1).blk (Lc++Fn) scope) Lc.length tg m) (ht:WTs ((M.blk N1 scope1).blk (Lc++Fn) scope) ifs ga) (he:WE ((M.blk N1 scope1).blk (Lc++Fn) scope) e fe)
 (hs:∀j x,foldedSetIterable iter ((M.blk N1 scope1).X j).env x=pure x:=by intro _ _;rfl):WO (M.blk N1 scope1) ‹"t"› (JV fo m ga fe Lc.length ix):=
 Q2 (M:=M.blk N1 scope1) (sc:=jhX sc scope1) (fun j=>by rw [<-hsc j.1];rfl) ok hi hg ht he hs
theorem jhZ {i:Nat} {y:Str} {py spos:Pos} (hNd:∀j,(M.X j).N.Nodup) (hy:M.N[i]?=some y) (hyl:∀j,(M.X j).env.scope.names.lookup y=some .local) (hsc:∀j,(M.X j).env.scope=sc) (ok:LcOk sc M.N scope Fn ix) (hi:WIT M tg iter fo) (hg:WL ‹"Y"› Lc.length tg m) (ht:WTs ‹"Y"› ifs ga) (he:WE ‹"Y"› e fe)
 (hsw:∀j,swapsWith ‹"t"› (some (.Name y py)) spos.line (M.X j).env=pure true:=by intro _;rfl) (hs:∀j x,foldedSetIterable iter (M.X j).env x=pure x:=by intro _ _;rfl):WS M (.Assign [.Name y py] ‹"t"› spos) (jE i (jN (JV fo m ga fe Lc.length ix))):=
 let ⟨_,i1,i2⟩:=hi.h;let ⟨_,g1,g2,g3⟩:=hg.h;let ⟨_,t1,t2⟩:=ht.h;let ⟨_,e1,e2⟩:=he.h
 ⟨_,fun j=>jaf (hNd j) (by rw [M.hN j];exact hy) (hyl j) (hsc j) (M.hN j) (M.calm j) ok (i1 j) (fun C s H fp=>g1 (j,C,s,H,fp)) g3 (fun C s H fp=>t1 (j,C,s,H,fp)) (fun C s H fp=>e1 (j,C,s,H,fp)) (hsw j) (hs j),@jmF M.fr _ _ i (@EOkO.e M.fr _ _ (@jnF M.fr _ _ _ _ _ _ _ _ _ _ i2 g2 t2 e2))⟩
theorem jgF {i:Nat} {y:Str} {py spos:Pos} (hNd:∀j,(M.X j).N.Nodup) (hy:M.N[i]?=some y) (hyl:∀j,(M.X j).env.scope.names.lookup y=some .local) (hsc:∀j,(M.X j).env.scope=sc) (ok:LcOk sc M.N scope Fn ix) (hi:WIT M tg iter fo) (hg:WL ‹"Y"› Lc.length tg m) (ht:WTs ‹"Y"› ifs ga) (he:WE ‹"Y"› e fe)
 (hsw:∀j,swapsWith ‹"t"› (some (.Name y py)) spos.line (M.X j).env=pure true:=by intro _;rfl) (hs:∀j x,foldedSetIterable iter (M.X j).env x=pure x:=by intro _ _;rfl):WS M (.Assign [.Name y py] ‹"t"› spos) (zc i (JV fo m ga fe Lc.length ix)):=
 let ⟨_,i1,i2⟩:=hi.h;let ⟨_,g1,g2,g3⟩:=hg.h;let ⟨_,t1,t2⟩:=ht.h;let ⟨_,e1,e2⟩:=he.h
 ⟨_,fun j=>jaf (hNd j) (by rw [M.hN j];exact hy) (hyl j) (hsc j) (M.hN j) (M.calm j) ok (i1 j) (fun C s H fp=>g1 (j,C,s,H,fp)) g3 (fun C s H fp=>t1 (j,C,s,H,fp)) (fun C s H fp=>e1 (j,C,s,H,fp)) (hsw j) (hs j),@jjE M.fr _ _ i (@jnF M.fr _ _ _ _ _ _ _ _ _ _ i2 g2 t2 e2)⟩
end
section
variable {P:Program} {w:World} {K:PySem.W.Frag} {mg:Str->Option Value} {base:Heap} {y qual:Str} {st:Stmt} {f:Addr} {fd:FuncData} {N ps:List Str} {k a n:Nat} {m:FS}
abbrev jnf (P:Program) (w:World) (K:PySem.W.Frag) (mg:Str->Option Value) (base:Heap) (N:List Str) (qual:Str) (scope:Scope) (f:Addr) (cdv:Value) (A:Around) (outer:List PySem.Env) (s:Shared) (H:Hp) (E:XK):Fm:=⟨Unit,fun _=>(jg0 J6 P w K mg base N qual scope f cdv A outer s H E).nox,K,N,fun _=>rfl,fun _=>rfl,fun _=>rfl⟩
theorem zt (F:Fun K y qual st f fd) (S:FnScope N ps (jd st)) (ha:a=ps.length) (hn:N.length=n)
 (h:∀(cdv:Value) (A:Around) (outer:List PySem.Env) (s:Shared) (H:Hp) (E:XK),Room k ‹"ay"›->WSs (jnf P w K mg base N qual (jd st) f cdv A outer s H E) (jH st) m) :
 FnOk P w K mg base J6 (k+1) f fd ps (@spS ⟨K⟩ (zb a n m)):=by
 letI:Fr:=⟨K⟩
 refine F.ok S (fun vs H Q E h=>(jp3 h).trans ha) (fun cdv A outer s H vs Q E hr q=>?_);obtain ⟨t,h1,h2⟩:=(h cdv A outer s H E hr).h;exact ⟨t,h1 (),jn8 h2 (by rw [<-hn]) q⟩
theorem Zh (F:Fun K y qual st f fd) (S:FnScope N ps (jd st)) (ha:a=ps.length) (hn:N.length=n)
 (h:∀(cdv:Value) (A:Around) (outer:List PySem.Env) (s:Shared) (H:Hp) (E:XK),Room k ‹"ay"›->WSs (jnf P w K mg base N qual (jd st) f cdv A outer s H E) (jH st) m) :
 FnOk P w K mg base J6 (k+1) f fd ps (@spO ⟨K⟩ (J9 a n m)):=by
 letI:Fr:=⟨K⟩
 refine F.ok S (fun vs H Q E h=>(jqP h).trans ha) (fun cdv A outer s H vs Q E hr q=>?_);obtain ⟨t,h1,h2⟩:=(h cdv A outer s H E hr).h;exact ⟨t,h1 (),joY h2 (by rw [<-hn]) q⟩
end
end L2
namespace L2
open PySem PySem.Spec PyProof.Rows
def zo:List Int->List D->Int->Option D
 | i::ks,d::ds,k=>if i=k then some d else zo ks ds k
 | _,_,_=>none
def jk5:List Int->List D->Int->D->List D
 | i::ks,d::ds,k,e=>(if i=k then e else d)::jk5 ks ds k e
 | _,_,_,_=>[]
def jdn:List Int->List V->Int->V->List V
 | i::ks,d::ds,k,e=>(if i=k then e else d)::jdn ks ds k e
 | _,_,_,_=>[]
section
variable [Fr] {G H:Hp}
theorem jam {i:Int} {ks:List Int} {v:V} {vs:List V}:qZ (i::ks) (v::vs)=(Sum.inl i,v)::qZ ks vs:=rfl
theorem jcs {vs:List V} {ds:List D} (r:Reps G vs ds):∀{ks:List Int} (k:Int),ks.length=vs.length->
 (∀d,zo ks ds k=some d->∃v,jah (qZ ks vs) (Sum.inl k)=some v/\Rep G v d)/\(zo ks ds k=none->jah (qZ ks vs) (Sum.inl k)=none):=by
 induction vs generalizing ds with
 | nil=>
   intro ks k hl;cases ks with
   | nil=>have hn:zo [] ds k=none:=rfl;rw [hn];exact ⟨fun d h=>(nomatch h),fun _=>rfl⟩
   | cons i ks=>cases hl
 | cons v vs ih=>
   intro ks k hl;cases ks with
   | nil=>cases hl
   | cons i ks=>
     cases r with
     | @cons _ d _ ds r t=>
       have ih':=ih t (ks:=ks) k (by simpa using hl);by_cases e:i=k
       . refine ⟨fun d' h=>⟨v,?_,?_⟩,fun h=>?_⟩
         . rw [jam];exact jaD (by rw [e])
         . have h':(if i=k then some d else zo ks ds k)=some d':=h;rw [if_pos e] at h';cases h';exact r
         . have h':(if i=k then some d else zo ks ds k)=none:=h;rw [if_pos e] at h';cases h'
       . have h0:zo (i::ks) (d::ds) k=zo ks ds k:=if_neg e;rw [h0,jam,jaB (show ¬(Sum.inl i:zw)=Sum.inl k from fun z=>e (by injection z))];exact ih'
theorem jfM {vs:List V} {ds:List D} (r:Reps G vs ds) {ks:List Int} (k:Int) (hl:ks.length=vs.length):(jah (qZ ks vs) (Sum.inl k)).isSome=(zo ks ds k).isSome:=by
 obtain ⟨h1,h2⟩:=jcs r k hl;cases e:zo ks ds k with
 | none=>rw [h2 e];rfl
 | some d=>obtain ⟨v,hv,_⟩:=h1 d e;rw [hv];rfl
theorem jgf {v:V}:∀{ks:List Int} {vs:List V} {k:Int},ks.length=vs.length->(jdn ks vs k v).length=ks.length
 | [],[],_,_=>rfl
 | [],_::_,_,h=>by cases h
 | _::_,[],_,h=>by cases h
 | i::ks,u::vs,k,h=>by show (jdn ks vs k v).length+1=ks.length+1;rw [jgf (by simpa using h)]
theorem jkX {v:V} {d:D} (q:Rep G v d) {vs:List V} {ds:List D} (r:Reps G vs ds):∀{ks:List Int} {k:Int},Reps G (jdn ks vs k v) (jk5 ks ds k d):=by
 induction vs generalizing ds with
 | nil=>intro ks k;cases r;cases ks <;> exact .nil
 | cons u vs ih=>
   intro ks k;cases r with
   | cons a t=>
     cases ks with
     | nil=>exact .nil
     | cons i ks=>
       refine .cons ?_ (ih t);by_cases e:i=k
       . rw [if_pos e,if_pos e];exact q
       . rw [if_neg e,if_neg e];exact a
theorem jin {v:V}:∀{ks:List Int} {vs:List V} {k:Int},ks.length=vs.length->(qZ ks vs).map (fun kv=>if kv.1=(Sum.inl k:zw) then (kv.1,v) else kv)=qZ ks (jdn ks vs k v)
 | [],[],_,_=>rfl
 | [],_::_,_,h=>by cases h
 | _::_,[],_,h=>by cases h
 | i::ks,u::vs,k,h=>by
   show _=qZ (i::ks) ((if i=k then v else u)::jdn ks vs k v);rw [jam,jam,List.map_cons,jin (by simpa using h)];congr 1;by_cases e:i=k
   . subst e;simp
   . rw [if_neg (show ¬(Sum.inl i:zw)=Sum.inl k from fun z=>e (by injection z)),if_neg e]
theorem jh4 {v:V} {k:Int}:∀{ks:List Int} {vs:List V},ks.length=vs.length->qZ ks vs++[(Sum.inl k,v)]=qZ (ks++[k]) (vs++[v])
 | [],[],_=>rfl
 | [],_::_,h=>by cases h
 | _::_,[],h=>by cases h
 | i::ks,u::vs,h=>by show (Sum.inl i,u)::(qZ ks vs++[(Sum.inl k,v)])=qZ (i::(ks++[k])) (u::(vs++[v]));rw [jh4 (by simpa using h)];rfl
omit [Fr] in
theorem jeb {ks:List Int} {vs:List V} (h:ks.length=vs.length):(qZ ks vs).length=ks.length:=by unfold qZ;simp [h]
def jp6 (neg:Bool):R2:=fun x y H Q=>∃a o,y=.ref a/\jgQ H a x o/\Q (.bl (neg != o.isSome)) H
def jeC (neg:Bool):D->D->Option D
 | .int i,.dic ks ds=>some (.bl (neg != (zo ks ds i).isSome))
 | _,_=>none
theorem jkU {neg:Bool} {x y d:D} (q:jeC neg x y=some d):∃i ks ds,x=.int i/\y=.dic ks ds/\D.bl (neg != (zo ks ds i).isSome)=d:=by
 cases x with
 | int i=>
   cases y with
   | dic ks ds=>exact ⟨i,ks,ds,rfl,rfl,Option.some.inj q⟩
   | _=>exact qo q
 | _=>exact qo q
theorem jqR (neg:Bool):ROk (jp6 neg) (jeC neg):=fun G H x y dx dy d Q s rx ry q k=>by
 obtain ⟨i,ks,ds,rfl,rfl,rfl⟩:=jkU q
 (have hh:=RepT.of_int rx;subst hh)
 cases ry with
 | @dic a _ vs _ h hl r=>refine ⟨a,jah (qZ ks vs) (Sum.inl i),rfl,.inl ⟨_,Sum.inl i,h,rfl,rfl⟩,?_⟩;rw [jfM r i hl];exact k _ G H (.refl s) (.bl _)
def jhu:D->D->Option D
 | .dic ks ds,.int i=>zo ks ds i
 | _,_=>none
theorem jiq {x y d:D} (q:jhu x y=some d):∃i ks ds,x=.dic ks ds/\y=.int i/\zo ks ds i=some d:=by
 cases x with
 | dic ks ds=>
   cases y with
   | int i=>exact ⟨i,ks,ds,rfl,rfl,q⟩
   | _=>exact qo q
 | _=>exact qo q
theorem jo2 {td ty:TE} {fd fk:ee->Option D} (hd:Ji td fd) (hk:Ji ty fk):EOk (jmS td ty) (jl jhu fd fk):=fun G0 H0 G H σ ρ Q d e q k=>by
 obtain ⟨x,qa,q⟩:=bind_some q;obtain ⟨y,qb,q⟩:=bind_some q;obtain ⟨i,ks,ds,rfl,rfl,q⟩:=jiq q;refine hd G0 H0 G H σ ρ _ _ e qa fun u G1 H1 x1 r1=>?_;refine hk G0 H0 G1 H1 σ ρ _ _ (e.grow x1) qb fun v G2 H2 x2 r2=>?_;have r1':=r1.mono x2.gg x2.hh;cases r1' with
 | @dic a _ vs _ h hl r=>
   (have hh:=RepT.of_int r2;subst hh)
   obtain ⟨v,h1,h2⟩:=(jcs r i hl).1 d q;exact ⟨a,v,rfl,.inl ⟨_,Sum.inl i,h,rfl,h1.symm⟩,k v G2 H2 (x1.trans x2) h2⟩
def EOkD (t:TE) (f:ee->Option (List Int×List D)):Prop:=∀G0 H0 G H σ ρ (Q:VK) p,EnvOk G0 H0 G H σ ρ->f ρ=some p->
 (∀a vs G' H',Ext G H G' H'->H a=none->G' a=none->H' a=some (.dK (qZ p.1 vs))->p.1.length=vs.length->Reps G' vs p.2->Q (.ref a) H')->t σ H Q
def tFz (t:TE):TE:=fun σ H Q=>t σ H fun v H1=>∃a kvs,v=.ref a/\H1 a=some (.dK kvs)/\∀o,Q v (upd H1 a (.frz o (.dK kvs)))
def jkx (f:ee->Option (List Int×List D)):ee->Option D:=fun ρ=>(f ρ).map fun p=>.dic p.1 p.2
theorem EOkD.e {t:TE} {f:ee->Option (List Int×List D)} (h:EOkD t f):EOk (tFz t) (jkx f):=fun G0 H0 G H σ ρ Q d e q k=>by
 unfold jkx at q;cases z:f ρ with
 | none=>rw [z] at q;cases q
 | some ds=>rw [z] at q;cases q;refine h G0 H0 G H σ ρ _ ds e z fun a vs G' H' x hn hg ha hl r=>⟨a,_,rfl,ha,fun o=>?_⟩;have x':Ext G H G' (upd H' a (.frz o (.dK (qZ ds.1 vs)))):=⟨fun b u w=>by rw [jC (jG w hn)];exact x.hh b u w,x.gg,fun b u w=>by rw [jC (jG w hg)];exact x.gh b u w,x.nw⟩;exact k _ _ _ (x'.freeze hn hg jB) (.dic jB hl (r.mono (.upd hg)))
def jfX (fk fv:ee->Option D):ee->Option (List Int×List D):=fun ρ=>match fk ρ,fv ρ with
 | some (.int i),some d=>some ([i],[d])
 | _,_=>none
theorem jnO {tk tv:TE} {fk fv:ee->Option D} (hk:EOk tk fk) (hv:EOk tv fv):EOkD (jmZ [(tk,tv)]) (jfX fk fv):=fun G0 H0 G H σ ρ Q p e q k a ha=>by
 unfold jfX at q;split at q
 . rename_i i d z1 z2;cases q;have x0:Ext G H G (upd H a (.dK [])):=.new e.same ha;refine hk _ _ _ _ _ _ _ _ (e.grow x0) z1 fun x G1 H1 x1 r1=>hv _ _ _ _ _ _ _ _ ((e.grow x0).grow x1) z2 fun y G2 H2 x2 r2=>?_
   (have hh:=Rep.of_int r1;subst hh)
   have h2:H2 a=some (.dK []):=(x1.trans x2).hh _ _ jB;have ga:G2 a=none:=(x1.trans x2).gone (e.same.free ha) jB;refine ⟨h2,[(Sum.inl i,y)],rfl,by show 1<=15;decide,?_⟩;have x3:Ext G H G2 H2:=x0.trans (x1.trans x2);refine k a [y] G2 _ ⟨fun b o z=>?_,x3.gg,fun b o z=>?_,x3.nw⟩ ha ga ?_ rfl (.cons r2 .nil)
   . rw [jC (jG z ha)];exact x3.hh b o z
   . rw [jC (jG z ga)];exact x3.gh b o z
   . rw [jB];rfl
 . cases q
def jeS:List D->Option (List Int×List D)
 | [.dic ks ds]=>some (ks,ds)
 | _=>none
def jjZ:List V->Hp->VK->Prop:=fun xs H Q=>∃a kvs,xs=[.ref a]/\Rd H a (.dK kvs)/\∀p,H p=none->Q (.ref p) (upd H p (.dK kvs))
theorem jlY {As:TA} {fs:ee->Option (List D)} (h:jbd As fs):EOkD (tCB jjZ As) (jh jeS fs):=fun G0 H0 G H σ ρ Q p e q k=>by
 obtain ⟨ds,q1,q2⟩:=bind_some q;refine h _ _ _ _ _ _ _ _ e q1 fun vs G1 H1 x1 r1=>?_;unfold jeS at q2;split at q2
 . cases q2;cases r1 with
   | cons r t=>cases t;obtain ⟨_,_,rfl,h,hl,r⟩:=r.of_dic;exact ⟨_,_,rfl,h,fun b hb=>k b _ G1 _ (x1.trans (.new x1.gh hb)) (x1.hh.free hb) (x1.gh.free hb) jB hl r⟩
 . cases q2
def jci:List D->Option (List D)
 | [.dic ks _]=>if Jm ks.length then some (ks.map .int) else none
 | _=>none
def jkF:List V->Hp->VK->Prop:=fun xs H Q=>∃a ks vs,xs=[.ref a]/\Rd H a (.dK (qZ ks vs))/\ks.length=vs.length/\∀p,H p=none->Q (.ref p) (upd H p (.lst (ks.map V.int)))
theorem jlq:jfC jkF jci:=fun G H xs ds es Q s r q k=>by
 unfold jci at q;split at q
 . split at q
   . cases q;cases r with
     | cons r t=>cases t;obtain ⟨_,_,rfl,h,hl,r⟩:=r.of_dic;exact ⟨_,_,_,rfl,h,hl,fun b hb=>k b _ G _ (.new s hb) hb (s.free hb) jB (Reps.of_ints _)⟩
   . cases q
 . cases q
def jhR (i:Nat) (fo:ee->Option (List Int×List D)):FS:=fun ρ=>match fo ρ with
 | some p=>.next (ρ.set i (.od p.1 p.2))
 | none=>.fail
theorem jn4 {te:TE} {fo:ee->Option (List Int×List D)} (i:Nat) (h:EOkD te fo):ZI (jdr te (ZR i)) (jhR i fo):=fun G0 H0 G H σ ρ E e q=>by
 unfold jhR at q;split at q
 . rename_i p z;exact h _ _ _ _ _ _ _ _ e z fun a vs G' H' x hn hg hh hl r=>q G' H' _ x.gg (e.setD x hn hg hh hl r)
 . exact q.elim
def jjs (t:TE):TS:=fun D σ H=>t σ H fun v H1=>∃a kvs,v=.ref a/\H1 a=some (.dK kvs)/\∀o,D.rt v (upd H1 a (.frz o (.dK kvs)))
def jh9 (i:Nat):FS:=fun ρ=>match ρ[i]? with
 | some (.od ks ds)=>.ret (.dic ks ds)
 | _=>.fail
theorem jot (i:Nat):ZI (jjs (jeg i)) (jh9 i):=fun G0 H0 G H σ ρ E e q=>by
 unfold jh9 at q;split at q
 . rename_i ks ds z;obtain ⟨a,vs,h1,h2,h3,h4,hl,h5⟩:=e.od z;refine ⟨_,h1,a,_,rfl,h4,fun o=>?_⟩;have x':Ext G0 H0 G (upd H a (.frz o (.dK (qZ ks vs)))):=⟨fun b u w=>by rw [jC (jG w h2)];exact e.ext.hh b u w,e.ext.gg,fun b u w=>by rw [jC (jG w h3)];exact e.same b u w,e.ext.nw⟩;exact q _ _ _ (x'.freeze h2 h3 jB) (.dic jB hl (h5.mono (.upd h3)))
 . exact q.elim
def jdY (ks:List Int) (k:Int):List Int:=if k∈ks then ks else ks++[k]
def jhY (ks:List Int) (ds:List D) (k:Int) (d:D):List D:=if k∈ks then jk5 ks ds k d else ds++[d]
theorem jlO {ks:List Int} {vs:List V} {k:Int} (hl:ks.length=vs.length):((qZ ks vs).any fun kv=>decide (kv.1=(Sum.inl k:zw)))=decide (k∈ks):=by
 induction ks generalizing vs with
 | nil=>rfl
 | cons i ks ih=>
   cases vs with
   | nil=>cases hl
   | cons v vs=>
     rw [jam,KP,ih (by simpa using hl)];by_cases e:i=k
     . subst e;simp
     . have:¬(Sum.inl i:zw)=Sum.inl k:=fun z=>e (by injection z);simp [this,Ne.symm e]
def jfs (i:Nat) (fk fv:ee->Option D):FS:=fun ρ=>match ρ[i]?,fv ρ,fk ρ with
 | some (.od ks ds),some d,some (.int k)=>if Jm ks.length then .next (ρ.set i (.od (jdY ks k) (jhY ks ds k d))) else .fail
 | _,_,_=>.fail
theorem joh {tk tv:TE} {fk fv:ee->Option D} (i:Nat) (hk:EOk tk fk) (hv:EOk tv fv):ZI (jne (jeg i) tk tv) (jfs i fk fv):=fun G0 H0 G H σ ρ E e q=>by
 unfold jfs at q;split at q
 . rename_i ks ds d k z1 z2 z3;split at q
   . rename_i hz;obtain ⟨a,vs,h1,h2,h3,h4,hl,h5⟩:=e.od z1;refine hv _ _ _ _ _ _ _ _ e z2 fun v G' H' x r=>⟨_,h1,hk _ _ _ _ _ _ _ _ (e.grow x) z3 fun w G2 H2 x2 r2=>?_⟩
     (have hh:=Rep.of_int r2;subst hh)
     have xx:=x.trans x2;have e':=(e.grow x).grow x2;have h5':=h5.mono xx.gg;have r':=r.mono x2.gg;refine ⟨a,_,rfl,.inl ⟨qZ ks vs,Sum.inl k,xx.hh _ _ h4,rfl,by rw [jeb hl];exact Zp hz,rfl⟩,?_⟩;have key:ZJ (qZ ks vs) (Sum.inl k) v=qZ (jdY ks k) (if k∈ks then jdn ks vs k v else vs++[v]):=by
       unfold ZJ jdY;rw [jlO hl];by_cases hm:k∈ks
       . rw [if_pos (Y8 hm),if_pos hm,if_pos hm,jin hl]
       . rw [if_neg (by simpa using hm),if_neg hm,if_neg hm,jh4 hl]
     rw [key];refine q G2 _ σ xx.gg (e'.putD z1 h1 ?_ ?_)
     . unfold jdY;by_cases hm:k∈ks
       . rw [if_pos hm,if_pos hm,jgf hl]
       . rw [if_neg hm,if_neg hm];simp [hl]
     . unfold jhY;by_cases hm:k∈ks
       . rw [if_pos hm,if_pos hm];exact jkX r' h5'
       . rw [if_neg hm,if_neg hm];exact h5'.snoc r'
   . exact q.elim
 . exact q.elim
end
def Itd (a:Addr) (o:Obj):It:=⟨fun i H=>∃ks vs,H a=some (.frz o (.dK (qZ ks vs)))/\ks.length=vs.length/\i<ks.length,
 fun i H x H'=>H'=H/\∀ks vs,H a=some (.frz o (.dK (qZ ks vs)))->ks.length=vs.length->∃k,ks[i]?=some k/\x=.int k,fun i H=>∃ks vs,H a=some (.frz o (.dK (qZ ks vs)))/\ks.length=vs.length/\ks.length<=i⟩
def jqJ (tl:TE):TI:=fun σ H R=>tl σ H fun x H1=>∃a o ks vs,x=.ref a/\H1 a=some (.frz o (.dK (qZ ks vs)))/\ks.length=vs.length/\R (Itd a o) H1
section
variable [Fr]
def jcc (fe:ee->Option D):ee->Option (List D):=fun ρ=>match fe ρ with
 | some (.dic ks _)=>some (ks.map .int)
 | _=>none
omit [Fr] in
theorem jnm {o o':Obj} {ks ks':List Int} {vs vs':List V} (hl:ks.length=vs.length) (hl':ks'.length=vs'.length) (h:HO.frz o (.dK (qZ ks vs))=.frz o' (.dK (qZ ks' vs'))):ks=ks':=by injection h with _ h;injection h with h;have e:=congrArg (List.map fun kv:zw×V=>kv.1) h;unfold qZ at e;rw [List.map_fst_zip (by simp [hl]),List.map_fst_zip (by simp [hl'])] at e;exact (List.map_inj_right fun x y z=>by injection z).mp e
theorem jpF {te:TE} {fe:ee->Option D} (h:EOk te fe):IOk (jqJ te) (jcc fe):=fun G0 H0 G H σ ρ R ds e q k=>by
 unfold jcc at q;split at q
 . rename_i ks' ds' z;cases q;refine h _ _ _ _ _ _ _ _ e z fun v G1 H1 x1 r1=>?_;cases r1 with
   | @dic a o _ vs _ h hl r=>refine ⟨a,o,ks',vs,rfl,x1.gh _ _ h,hl,k (Itd a o) G1 H1 x1 fun i G2 H2 s1 s2 s3=>?_⟩;have h2:H2 a=some (.frz o (.dK (qZ ks' vs))):=s2 _ _ h;refine ⟨fun d hd=>?_,fun hd=>⟨ks',vs,h2,hl,by simpa using hd⟩⟩;rw [List.getElem?_map] at hd;obtain ⟨i',hi,rfl⟩:=map_some hd;refine ⟨⟨ks',vs,h2,hl,(Yh.mp hi).1⟩,fun x H' ⟨e1,e2⟩=>?_⟩;obtain ⟨k',hk',rfl⟩:=e2 ks' vs h2 hl;rw [hi] at hk';cases hk';subst e1;exact ⟨G2,.refl s3,.int _⟩
 . cases q
end
section
variable {X:Cx}
theorem joL (hu:X.A.units+1<cLine):OpR X (compareOp .In) (jp6 false):=fun tf s σ H x y v u Q I rx ry ⟨a,o,e,g,q⟩=>by subst e;obtain rfl:u=Value.ref a:=ry;exact jrI hu I g rx fun s' I'=>⟨.bl o.isSome,H,I',rfl,by simpa using q⟩
theorem jgA:CallR X (.type "dict") jjZ:=fun tf s σ H xs us Q I r ⟨a,kvs,e,h,q⟩=>by subst e;obtain ⟨u,rfl,ru⟩:=jbC r;cases ru;exact jjS I h fun p s' hp I'=>⟨.ref p,_,I',rfl,q p hp⟩
theorem Inv.fz {tf:List (Addr×Obj)} {σ:St} {H:Hp} {s:Shared} {a:Addr} {kvs:List (zw×V)} (I:Inv X tf σ H s) (h:H a=some (.dK kvs)):∃o,Inv X tf σ (upd H a (.frz o (.dK kvs))) s:=by
 have ok:=(show ObjOk X.prog X.w H s.heap a (.dK kvs) from I.hok a _ h);obtain ⟨o,ho⟩:∃o,s.heap.get? a=some o:=let ⟨_,_,_,_,o,_,_,e,_⟩:=ok;⟨o,e⟩;have ne:∀b (u:HO),H b=some u->u≠.dK kvs->b≠a:=fun b u e hu z=>by subst z;rw [h] at e;exact hu (Option.some.inj e).symm
 refine ⟨o,?_⟩;have:=I.un (t':=s.toks) (h':=s.heap) (H':=upd H a (.frz o (.dK kvs))) ⟨fun b ob e _ _ _=>e,fun b ob e _ _ _=>⟨ob.slots,e⟩,fun b ob _ n _=>by rw [jC fun z=>by subst z;rw [h] at n;cases n];exact n,fun b ob e _=>⟨ob,e⟩,
  fun b xs e=>by rw [jC (ne b _ e (fun z=>by cases z))];exact e,fun b ob u e=>by rw [jC (ne b _ e (fun z=>by cases z))];exact e,fun b ps e=>⟨#[],by rw [jC (ne b _ e (fun z=>by cases z)),Array.append_empty];exact e⟩⟩ ?_
 . exact this
 . intro b u e;by_cases hb:b=a
   . subst hb;rw [jB] at e;cases e;exact ⟨ho,ok⟩
   . rw [jC hb] at e;refine (I.hok b u e).stay (fun c v _ q=>q) (fun c q=>?_) fun c xs q=>?_
     . rw [jC (ne c _ q (fun z=>by cases z))];exact q
     . rw [jC (ne c _ q (fun z=>by cases z))];exact q
theorem jpO {e:Expr} {t:TE} (he:PE X e t):PE X e (tFz t):=fun tf s σ H Q I h=>qD (he tf s σ H _ I h) fun v s1 ⟨x,H1,I1,r1,a,kvs,ex,ha,q⟩=>let ⟨o,I2⟩:=I1.fz ha;⟨x,_,I2,r1,q o⟩
theorem jj3 {e:Expr} {t:TE} {pos:Pos} (he:PE X e t):PS X (.Return (some e) pos) (jjs t):=fun tf s σ H D I h=>
 wpAny_Return_some (qD (he tf s σ H _ I h) fun v s1 z=>by obtain ⟨x,H1,I1,r1,a,kvs,ex,ha,q⟩:=z;obtain ⟨o,I2⟩:=I1.fz ha;exact ⟨x,σ,_,I2,r1,q o⟩)
def epO (o:Obj):Nat:=match o.data with
 | .dict _ ep=>ep
 | _=>0
def szO (o:Obj):Nat:=match o.data with
 | .dict es _=>es.size
 | _=>0
theorem jjU {tf:List (Addr×Obj)} {σ:St} {H:Hp} {s:Shared} {a:Addr} {o:Obj} {kvs:List (zw×V)} (I:Inv X tf σ H s) (h:H a=some (.frz o (.dK kvs))) :
 ∃vs,KV kvs vs/\s.heap.DictAt (j5 X.prog X.w) a vs (epO o)/\vs.length=szO o/\(a == sysModules)=false/\kvs.length<=sizeLine:=by
 obtain ⟨ho,z,hd,vs,r,o',es,ep,h1,h2,h3,h4,h5,h6⟩:=(show ObjOk X.prog X.w H s.heap a (.frz o (.dK kvs)) from I.hok a _ h);rw [ho] at h1;cases h1;have e1:epO o=ep:=by unfold epO;rw [h3]
 have e2:szO o=es.size:=by unfold szO;rw [h3]
 refine ⟨vs,r,⟨o,es,ho,h2,by rw [e1];exact h3,h4,h5,h6⟩,?_,hd,z⟩;rw [e2,<- h5.length];simp
theorem jhv {P:Program} {w:World} {i:Int} {u:Value} (h:(j5 P w).is (Sum.inl i) u=true):RelV (.int i) u:=by have h':Zo (Sum.inl i) u=true:=h;cases u <;> simp [Zo,Value.isInt] at h' <;> first | (subst h';exact ⟨_,rfl⟩) | skip
theorem jkg {ks:List Int} {vs:List V} {ws:List (zw×Value)} (hl:ks.length=vs.length) (r:KV (qZ ks vs) ws):ws.length=ks.length/\∀(i:Nat) k,ks[i]?=some k->∃u,ws[i]?=some (Sum.inl k,u):=by
 have tK:ws.length=ks.length:=by rw [<-KV.length r,jeb hl]
 refine ⟨tK,fun i k hk=>?_⟩;have hi:i<vs.length:=by rw [<-hl];exact (Yh.mp hk).1
 have hz:(qZ ks vs)[i]?=some (Sum.inl k,vs[i]):=by unfold qZ;rw [yv];exact ⟨by rw [List.getElem?_map,hk];rfl,Ya hi⟩
 obtain ⟨q,hq,e1,e2⟩:=Paired.get r hz;exact ⟨q.2,by rw [hq];congr 1;exact Prod.ext e1.symm rfl⟩
theorem jiH {P:Program} {w:World} {K:PySem.W.Frag} {tg:Expr} (a it:Addr) (o:Obj):Turn P w K tg (Itd a o) [it] it (fun i h=>h.IsKeyIter it a i (szO o) (epO o)) where
 mem:=by simp
 obj:=fun i h st b hb=>by
  have e:b=it:=by simpa using hb
  subst e;obtain ⟨o,e,c,d⟩:=st;exact ⟨o,e,fun v z=>by rw [d] at z;cases z⟩
 keep:=fun i h h' st k=>st.at fun o e=>k it (by simp) o e
 item:=by intro X hP hw hK hc i tf s σ H E I hf st hg;subst hP hw hK;obtain ⟨ks,vs,hq,hl,hi⟩:=hg;obtain ⟨ws,r,dd,hn,hd,_⟩:=jjU I hq;obtain ⟨tK,hat⟩:=jkg hl r;obtain ⟨u,hu⟩:=hat i ks[i] (Ya hi);obtain ⟨f0,f1,f2,f3,f4,f5⟩:=hf it (by simp);rw [<-hn] at st;refine wpAny_pyNext_dict_item st dd hu fun key h' hkey st' sb=>?_;rw [hn] at st';have I1:Inv X tf σ H { s with heap:=h' }:=I.turned (t':=s.toks) (fun b o hb e=>(sb.2 b hb).trans e) f0 f1 f3 f4 f5;obtain ⟨o',e,c,d⟩:=id st';refine ⟨key,rfl,jhH (s:={ s with heap:=h' }) e c d (by decide) ⟨.int ks[i],H,I1,jhv hkey,⟨rfl,fun ks' vs' hq' hl'=>?_⟩,st',fun b hb=>(hf b hb).1⟩⟩;rw [hq] at hq';have:=jnm hl hl' (Option.some.inj hq');subst this;exact ⟨_,Ya hi,rfl⟩
 done:=by intro X hP hw hK hc i tf s σ H E I hf st hg;subst hP hw hK;obtain ⟨ks,vs,hq,hl,hi⟩:=hg;obtain ⟨ws,r,dd,hn,hd,_⟩:=jjU I hq;obtain ⟨tK,hat⟩:=jkg hl r;obtain ⟨f0,f1,f2,f3,f4,f5⟩:=hf it (by simp);rw [<-hn] at st;exact wpAny_pyNext_dict_end (I.ok.hd hc) st dd (YF (by omega)) fun h' eb=>⟨rfl,I.turned (t':=s.toks) (fun b o hb e=>eb b o hb e) f0 f1 f3 f4 f5⟩
 self:=fun _ _ _ _ _ st h=>wpAny_pyIter_keyiter st h
theorem jmo {tg l:Expr} {tl:TE} (hl:PE X l tl):PI X tg l (jqJ tl):=by
 intro tf s σ H R I h;refine qD (hl tf s σ H _ I h) fun v s1 zz=>?_;obtain ⟨x,H1,I1,r1,q1⟩:=zz;obtain ⟨a,o,ks,vs,e,hq,tK,q⟩:=q1;subst e;cases r1;obtain ⟨ws,r,dd,hn,hd,_⟩:=jjU I1 hq;refine wpAny_pyIter_dict hd dd ?_;rw [hn];refine ⟨s1.heap.objs.size,[s1.heap.objs.size],_,_,H1,rfl,I1.kept (t':=s1.toks) fun b o e=>Yl _ e,jiH a _ o,⟨_,Yx _ rfl,rfl,rfl⟩,fun b hb=>?_,q⟩;have e:b=s1.heap.objs.size:=by simpa using hb
 subst e;exact I1.fpOk (Ys _) (I1.hok.fresh (Ys _))
end
end L2
namespace L2
open PySem PySem.Spec PyProof.Rows
section
variable {X:Cx}
theorem jgN (hc:X.calm=true):CallR X (.type "list") jkF:=fun tf s σ H xs us Q I r ⟨a,ks,vs,e,h,hl,q⟩=>by
 subst e;obtain ⟨u,rfl,ru⟩:=jbC r;cases ru;obtain ⟨z,hd,ws,rel,dd⟩:=ZZ I.hok h;obtain ⟨ep,dat⟩:=dd.dictAt;obtain ⟨tK,hat⟩:=jkg hl rel;refine PySem.W.kdl_call (PySem.W.kdl_dict (knd:=j5 X.prog X.w) (kvs:=ws) (ep:=ep) hd) (I.ok.hd hc) dat (by rw [tK,<- jeb hl];exact z) fun h' tk tF c hk hD hacc=>?_;have hv:Vals (ks.map V.int) tF.toList:=Paired.of (by rw [Yc,<- tK,<- hacc.1];simp) fun i x y e1 e2=>by rw [List.getElem?_map] at e1;obtain ⟨k,hk',rfl⟩:=map_some e1;obtain ⟨k',u,h1,h2⟩:=hacc.2 i y (by rw [<-yG];exact e2);obtain ⟨u',hu'⟩:=hat i k hk';rw [hu'] at h1;cases h1;exact jhv h2
 refine ⟨.ref s.heap.objs.size,_,I.laid (a:=s.heap.objs.size) (o:=.lst (ks.map V.int)) (t':=tk) hk (Ys _) ⟨by rw [Yc,<- jeb hl];exact z,tF.toList,c,hv,by rw [Array.toArray_toList];exact hD⟩,rfl,q _ (I.hok.fresh (Ys _))⟩
end
section
variable {prog:Program} {w:World} {A:Around} {E:Value->Shared->Prop} {s:Shared}
def Zm:Int:=0xFCA86420
theorem jfe {Q:Int->Shared->Prop} (h:Q Zm { s with toks:=s.toks+1 }):wpAny (model prog w) A (pyHash .none) Q E s:=by
 have hT:s.TypeIs .none "NoneType":=rfl;unfold pyHash pyHashByItsType;refine Yb ?_;rw [cRoomFor,if_neg (by decide)];refine Yk ?_;refine Yb (yP hT F.slot_NoneType_hash.lookup ?_);show wpAny _ _ (if (some (Value.builtin "NoneType.__hash__") == some Value.none)=true then _ else _) Q E s;rw [if_neg (by rw [beq_builtin_none];exact Yo)];refine Yb (yP hT F.slot_NoneType_hash.lookup ?_);show wpAny _ _ (callSpecialIfBoundUnlessNone? .none "__hash__" _ >>= _) Q E s;refine Yb (wpAny_callSpecialIfBoundUnlessNone?_slot hT F.slot_NoneType_hash
  (yB F.slot_NoneType_hash hT F.entry_NoneType_hash
   (show wpAny _ _ (do ret (<- mkInt Zm)) _ _ s from wpAny_ret_mkInt ?_) (F.args_NoneType_hash_1 _)))
 show wpAny _ _ (if (decide (-(2:Int) ^ 63<=Zm) && decide (Zm<2 ^ 63))=true then _ else _) Q E _;rw [if_pos (by decide)];exact Yk h
def je3:Option zw->Value->Bool
 | some k,v=>Zo k v
 | none,.none=>true
 | none,_=>false
theorem qv {k:Option zw} {v:Value} (h:je3 k v=true):(k=none/\v=.none)\/∃k',k=some k'/\Zo k' v=true:=by
 cases k with
 | some k=>exact .inr ⟨k,rfl,h⟩
 | none=>cases v <;> first | exact .inl ⟨rfl,rfl⟩ | cases h
theorem jic {k:zw} {v:Value} (h:Zo k v=true):RelV (kV k) v/\Qg (kV k)=true:=by
 rcases j7 h with ⟨i,t,rfl,rfl⟩ | ⟨x,t,rfl,rfl⟩
 . exact ⟨⟨t,rfl⟩,rfl⟩
 . exact ⟨⟨t,rfl⟩,rfl⟩
def jhC (prog:Program) (w:World):PySem.KeyKind prog w (Option zw) where
 is:=je3
 hash:=fun k=>match k with | some k=>jpZ w k | none=>Zm
 inj:=fun v a b ha hb=>by
   rcases qv ha with ⟨rfl,rfl⟩ | ⟨a',rfl,ha'⟩
   . rcases qv hb with ⟨rfl,_⟩ | ⟨b',rfl,hb'⟩
     . rfl
     . rcases j7 hb' with ⟨i,t,_,e⟩ | ⟨x,t,_,e⟩ <;> cases e
   . rcases qv hb with ⟨rfl,rfl⟩ | ⟨b',rfl,hb'⟩
     . rcases j7 ha' with ⟨i,t,_,e⟩ | ⟨x,t,_,e⟩ <;> cases e
     . rw [(j5 prog w).inj v a' b' ha' hb']
 byValue:=fun k v h=>by
   rcases qv h with ⟨rfl,rfl⟩ | ⟨k',rfl,h'⟩
   . rfl
   . exact (j5 prog w).byValue k' v h'
 pyHash:=fun {A E s k v Q} hv h=>by
   rcases qv hv with ⟨rfl,rfl⟩ | ⟨k',rfl,h'⟩
   . exact jfe h
   . exact (j5 prog w).pyHash h' h
 eqBool:=fun {A E s a b u v Q} hu hv h=>by
   rcases qv hu with ⟨rfl,rfl⟩ | ⟨a',rfl,ha'⟩
   . rcases qv hv with ⟨rfl,rfl⟩ | ⟨b',rfl,hb'⟩
     . exact jaU (y:=.non) (x:=.non) rfl rfl rfl rfl prog w E Q (by simpa [eqV] using h)
     . obtain ⟨r,f⟩:=jic hb';have e:eqV .non (kV b')=false:=by cases b' <;> rfl
       exact jaU (y:=.non) rfl r rfl f prog w E Q (by rw [e];simpa using h)
   . rcases qv hv with ⟨rfl,rfl⟩ | ⟨b',rfl,hb'⟩
     . obtain ⟨r,f⟩:=jic ha';have e:eqV (kV a') .non=false:=by cases a' <;> rfl
       exact jaU (x:=.non) r rfl f rfl prog w E Q (by rw [e];simpa using h)
     . refine (j5 prog w).eqBool ha' hb' ?_;have e:decide (some a'=some b')=decide (a'=b'):=by
        by_cases z:a'=b'
        . subst z;simp
        . have:¬some a'=some b':=fun q=>z (Option.some.inj q);rw [Y6 z,Y6 this]
       rw [e] at h;exact h
 «strs»:=fun k x t v h=>by
   rcases qv h with ⟨rfl,e⟩ | ⟨k',rfl,h'⟩
   . cases e
   . exact (j5 prog w).strs k' x t v h'
end
section
variable {X:Cx} {tf:List (Addr×Obj)} {σ:St} {H:Hp} {s:Shared} {a:Addr} {A:Around} {E:Value->Shared->Prop}
theorem jk8 {kvs:List (zw×V)} (I:Inv X tf σ H s) (e:Rd H a (.dK kvs)):∃f,s.heap.MapOf (jhC X.prog X.w) a f/\f none=none:=by
 obtain ⟨z,hd,vs,rel,dd⟩:=ZZ I.hok e;obtain ⟨o,es,ep,h1,h2,h3,h4,h5,h6⟩:=dd;refine ⟨findBy je3 es,⟨o,es,ep,h1,h2,h3,fun q hq=>?_,fun k=>rfl⟩,?_⟩
 . obtain ⟨k,k1,k2⟩:=h4 q hq;exact ⟨some k,k1,k2⟩
 . unfold findBy;have:es.find? (fun q=>je3 none q.key)=none:=by
    rw [Array.find?_eq_none];intro q hq hn;obtain ⟨k,k1,k2⟩:=h4 q hq;rcases qv hn with ⟨_,e⟩ | ⟨k',e,_⟩
    . rcases j7 k1 with ⟨i,t,_,e'⟩ | ⟨x,t,_,e'⟩ <;> · rw [e] at e';cases e'
    . cases e
   rw [this];rfl
theorem jo4 {kvs:List (zw×V)} {Q:Value → Shared → Prop} (I:Inv X tf σ H s) (e:Rd H a (.dK kvs)) (h:∀s',Inv X tf σ H s' → Q .none s'):wpAny ‹"h"› A (call (.builtin "dict.get") [.ref a,.none]) Q E s:=by obtain ⟨z,hd,vs,rel,dd⟩:=ZZ I.hok e;obtain ⟨f,hm,hf⟩:=jk8 I e;refine call_meetsIn Ko dd.typeIs KS (KN _ _) (meets_dict_get (jhC X.prog X.w) a (k:=none) rfl hd) ⟨f,hm,?_⟩;rw [hf];exact h _ (I.tok _)
end
def jk1 (td ty:TE):TE:=fun σ H Q=>td σ H fun x H1=>∃a,x=.ref a/\IsD H1 a/\ty σ H1 fun y H2=>(∃o,jgQ H2 a y o/\Q (o.getD .non) H2)\/(y=.non/\(∃kvs,Rd H2 a (.dK kvs))/\Q .non H2)
theorem jjK {X:Cx} {o e:Expr} {apos cpos:Pos} {td ty:TE} (hu:X.A.units+1<cLine) (ho:PE X o td) (he:PE X e ty) (m:M1 X o "get" apos e cpos):PE X (.Call (.Attribute o "get" apos) [e] [] cpos) (jk1 td ty):=by
 intro tf s σ H Q I h;refine wpAny_Call_method m.base m.few m.line PySem.F.plainAttrs_dict Ko PySem.F.type_dict_get (qD (ho tf s σ H _ I h) fun u s1 z=>?_);obtain ⟨x,H1,I1,rx,a,ex,d,q1⟩:=z;subst ex;obtain rfl:u=Value.ref a:=rx;obtain ⟨t1,t2,_⟩:=jnU I1 d;refine ⟨t1,t2,?_⟩;rw [m.trees];refine Calls.callWith_builtin rfl (Calls.evalArgs_plain (KQ (qD (he tf s1 σ H1 _ I1 q1) fun iv s2 z=>K1 ?_)));obtain ⟨y,H2,I2,ry,q2⟩:=z;rcases q2 with ⟨ov,g,q2⟩ | ⟨ey,⟨kvs,g⟩,q2⟩
 . exact joT hu I2 g ry fun w' s3 I3 rw'=>⟨_,H2,I3,rw',q2⟩
 . subst ey;obtain rfl:iv=Value.none:=ry;exact jo4 I2 g fun s3 I3=>⟨.non,H2,I3,rfl,q2⟩
section
variable [Fr]
def jaT:D->D->Option D
 | .dic ks ds,.int i=>some ((zo ks ds i).getD .non)
 | .dic _ _,.non=>some .non
 | _,_=>none
theorem jgE {x y d:D} (q:jaT x y=some d):∃ks ds,x=.dic ks ds/\((∃i,y=.int i/\(zo ks ds i).getD .non=d)\/(y=.non/\D.non=d)):=by
 cases x with
 | dic ks ds=>
   refine ⟨ks,ds,rfl,?_⟩;cases y with
   | int i=>exact .inl ⟨i,rfl,Option.some.inj q⟩
   | non=>exact .inr ⟨rfl,Option.some.inj q⟩
   | _=>exact qo q
 | _=>exact qo q
theorem jlL {td ty:TE} {fd fk:ee->Option D} (hd:Ji td fd) (hk:Ji ty fk):EOk (jk1 td ty) (jl jaT fd fk):=fun G0 H0 G H σ ρ Q d e q k=>by
 obtain ⟨x,qa,q⟩:=bind_some q;obtain ⟨y,qb,q⟩:=bind_some q;obtain ⟨ks,ds,rfl,qz⟩:=jgE q;clear q;refine hd G0 H0 G H σ ρ _ _ e qa fun u G1 H1 x1 r1=>?_;cases r1 with
 | @dic a _ vs _ h hl r=>
   refine ⟨a,rfl,.inl ⟨_,h⟩,hk G0 H0 G1 H1 σ ρ _ y (e.grow x1) qb fun v G2 H2 x2 r2=>?_⟩;have h':=h.same x2.hh;rcases qz with ⟨i,rfl,rfl⟩ | ⟨rfl,rfl⟩
   . (have hh:=RepT.of_int r2;subst hh)
     have r':=r.mono x2.gg;obtain ⟨l1,l2⟩:=jcs r' i hl;refine .inl ⟨_,.inl ⟨_,Sum.inl i,h',rfl,rfl⟩,?_⟩;cases z:zo ks ds i with
     | none=>rw [l2 z];exact k _ G2 H2 (x1.trans x2) (by rw [z];exact .non)
     | some d'=>obtain ⟨v,hv,rv⟩:=l1 d' z;rw [hv];exact k _ G2 H2 (x1.trans x2) (by rw [z];exact rv)
   . (have hh:=RepT.of_non r2;subst hh)
     exact .inr ⟨rfl,⟨_,h'⟩,k _ G2 H2 (x1.trans x2) .non⟩
end
end L2
namespace L2
open PySem PySem.Spec PyProof.Rows
section
variable [Fr]
def EOkOO (t:TE) (f:ee->Option (List (List D))):Prop:=∀G0 H0 G H σ ρ (Q:VK) dss,EnvOk G0 H0 G H σ ρ->f ρ=some dss->
 (∀a bs G' H',Ext G H G' H'->(∀b∈a::bs,H b=none/\G' b=none)->(a::bs).Nodup->H' a=some (.lst (bs.map V.ref))->Rows G' H' bs dss->Q (.ref a) H')->t σ H Q
def jbI (m:D->ee->Option ee) (ft:ee->Option Bool) (fe:ee->Option (List D)) (ρ:ee):List D->Option (List (List D))
 | []=>some []
 | d::ds=>(m d ρ).bind fun ρ1=>(ft ρ1).bind fun b=>if b then (fe ρ1).bind fun y=>(jbI m ft fe ρ ds).map (y::·) else jbI m ft fe ρ ds
def jky (fi:ee->Option (List D)) (m:D->ee->Option ee) (ft:ee->Option Bool) (fe:ee->Option (List D)) (n:Nat) (ix:List Nat):ee->Option (List (List D)):=fun ρ=>(fi ρ).bind fun ds=>if Jm ds.length then jbI m ft fe (Jr n ix ρ) ds else none
theorem Rows.snoc {G H:Hp} {bs:List Addr} {dss:List (List D)} {b:Addr} {us:List V} {ds:List D} (h:Rows G H bs dss) (hb:H b=some (.lst us)) (r:Reps G us ds):Rows G H (bs++[b]) (dss++[ds]):=by
 induction h with
 | nil=>exact .cons hb r .nil
 | cons h q t ih=>exact .cons h q ih
theorem jqd {wi:TI} {fi:ee->Option (List D)} {g:TG} {m:D->ee->Option ee} {tt:TT} {ft:ee->Option Bool} {te:TE} {fe:ee->Option (List D)} (n:Nat) (ix:List Nat) (hi:jiV wi fi) (hg:GOk g m) (ht:TOk tt ft) (he:EOkO te fe) :
 EOkOO (tLC wi g tt te n ix) (jky fi m ft fe n ix):=fun G0 H0 G H σ ρ Q es e q k=>by
 obtain ⟨ds,q1,q2⟩:=bind_some q;split at q2
 . rename_i hz;refine hi _ _ _ _ _ _ _ _ e q1 fun J G1 H1 x1 it=>?_;refine ⟨fun i n' ys H'=>n'=ds.length-i/\i<=ds.length/\ys.length<=i/\∃G' gs hs bs,Ext G1 H1 G' H'/\ys=bs.map V.ref/\bs.Nodup/\(∀b∈bs,H1 b=none/\G' b=none)/\Rows G' H' bs gs/\jbI m ft fe (Jr n ix ρ) (ds.drop i)=some hs/\gs++hs=es,
    ⟨_,rfl,yH _,Ys _,G1,[],es,[],.refl x1.gh,rfl,List.nodup_nil,(fun b hb=>absurd hb YJ),Rows.nil,q2,rfl⟩,?_⟩
   rintro i n' ys H' ⟨rfl,hl,hy,G',gs,hs,bs,x2,ey,nd,own,rows,hlc,hes⟩;have hz':=Zp hz;obtain ⟨go,stop⟩:=it i G' H' x2.gg x2.hh x2.gh;by_cases hlt:i<ds.length
   . have hd:ds[i]?=some ds[i]:=Ya hlt;obtain ⟨g1,g2⟩:=go _ hd;rw [KB hlt] at hlc;simp only [jbI] at hlc;obtain ⟨ρ1,hm,hlc⟩:=bind_some hlc;obtain ⟨b,hb,hlc⟩:=bind_some hlc;refine .inr ⟨g1,by omega,fun ys' H'=>ys'.length<=i+1/\∃G' gs hs bs,Ext G1 H1 G' H'/\ys'=bs.map V.ref/\bs.Nodup/\(∀b∈bs,H1 b=none/\G' b=none)/\Rows G' H' bs gs/\jbI m ft fe (Jr n ix ρ) (ds.drop (i+1))=some hs/\gs++hs=es,fun ys' H' ⟨a0,a⟩=>⟨_,by omega,rfl,by omega,a0,a⟩,fun x H2 y=>?_⟩;obtain ⟨G2,x3,r3⟩:=g2 x H2 y;have e3:EnvOk G0 H0 G2 H2 (JJ n σ ix) (Jr n ix ρ):=(jkd n ix e).grow ‹"aE"›;refine hg _ _ _ _ _ _ _ _ _ _ e3 r3 hm fun σ2 e4=>ht _ _ _ _ _ _ _ _ e4 hb fun G4 H4 x4=>?_;have x24:=(x2.trans x3).trans x4;have x34:=x3.trans x4;have keep:∀{G5 H5:Hp},Ext G' H' G5 H5->(∀b∈bs,H1 b=none/\G5 b=none)/\Rows G5 H5 bs gs:=fun {G5 H5} x=>⟨fun b hb=>by
       obtain ⟨us,hu⟩:=rows.there b hb;exact ⟨(own b hb).1,x.gone (own b hb).2 hu⟩,rows.keep x.gg fun b hb=>by
       obtain ⟨us,hu⟩:=rows.there b hb;rw [hu];exact x.hh _ _ hu⟩
     cases b with
     | false=>rw [if_neg Yo] at hlc ⊢;exact ⟨by omega,G4,gs,hs,bs,x24,ey,nd,(keep x34).1,(keep x34).2,hlc,hes⟩
     | true=>
       rw [if_pos rfl] at hlc ⊢;obtain ⟨y',hy',hlc⟩:=bind_some hlc;obtain ⟨hs',hh,hlc⟩:=map_some hlc;subst hlc;refine he _ _ _ _ _ _ _ _ (e4.grow x4) hy' fun a us G5 H5 x5 hn hgn ha r5=>?_;have k5:=keep (x34.trans x5);have na:a∉bs:=fun z=>by obtain ⟨us,hu⟩:=rows.there a z;rw [x34.hh _ _ hu] at hn;cases hn
       refine ⟨by simp;omega,G5,gs++[y'],hs',bs++[a],x24.trans x5,by rw [ey,YO];rfl,?_,fun c hc=>?_,k5.2.snoc ha r5,hh,by simpa using hes⟩
       . rw [List.nodup_append];refine ⟨nd,by simp,fun c hc d hd z=>?_⟩;rw [YN.mp hd] at z;exact na (z ▸ hc)
       . rcases Y7.mp hc with hc | hc
         . exact k5.1 c hc
         . rw [YN.mp hc];exact ⟨x24.hh.free hn,hgn⟩
   . have hd:ds[i]?=none:=YV.mpr (by omega);rw [KW (by omega)] at hlc;cases hlc;rw [Kd] at hes;subst hes;refine .inl ⟨stop hd,by omega,fun p hp=>?_⟩;have np:∀b∈bs,b≠p:=fun b hb z=>by obtain ⟨us,hu⟩:=rows.there b hb;rw [z,hp] at hu;cases hu
     refine k p bs G' _ ((x1.trans x2).trans (.new x2.gh hp)) (fun b hb=>?_) (ye.mpr ⟨fun z=>np p z rfl,nd⟩) (by rw [jB,ey]) (rows.keep (.refl _) fun b hb=>jC (np b hb));rcases Yq.mp hb with rfl | hb
     . exact ⟨(x1.trans x2).hh.free hp,x2.gh.free hp⟩
     . exact ⟨x1.hh.free (own b hb).1,(own b hb).2⟩
 . cases q2
def jcd (i:Nat) (fo:ee->Option (List (List D))):FS:=fun ρ=>match fo ρ with
 | some dss=>.next (ρ.set i (.oo dss))
 | none=>.fail
theorem jlQ {te:TE} {fo:ee->Option (List (List D))} (i:Nat) (h:EOkOO te fo):ZI (jdr te (ZR i)) (jcd i fo):=fun G0 H0 G H σ ρ E e q=>by
 unfold jcd at q;split at q
 . rename_i dss z;exact h _ _ _ _ _ _ _ _ e z fun a bs G' H' x hn nd ha r=>q G' H' _ x.gg (e.setOO x hn nd ha r)
 . exact q.elim
def jm8:V->V->Hp->VK->Prop:=fun o i H Q=>∃p xs k v,o=.ref p/\i=.int k/\H p=some (.lst xs)/\0<=k/\xs[k.toNat]?=some v/\Q v H
def asI:D->Option Int
 | .int i=>some i
 | _=>none
def jqr:Slot->Option (List (List D))
 | .oo d=>some d
 | _=>none
theorem jdG {o:Option D} {i:Int} (h:o.bind asI=some i):o=some (.int i):=by obtain ⟨d,h1,h2⟩:=bind_some h;cases d <;> cases h2;exact h1
theorem joo {o:Option Slot} {d:List (List D)} (h:o.bind jqr=some d):o=some (.oo d):=by obtain ⟨s,h1,h2⟩:=bind_some h;cases s <;> cases h2;exact h1
def jgl (i:Nat) (fk fl fv:ee->Option D) (g:Int->Int->Int) (ρ:ee):Option ee:=
 (ρ[i]?.bind jqr).bind fun dss=>((fk ρ).bind asI).bind fun k=>((fl ρ).bind asI).bind fun l=>((fv ρ).bind asI).bind fun z=>if 0<=k/\0<=l then dss[k.toNat]?.bind fun ds=>(ds[l.toNat]?.bind asI).map fun y=>ρ.set i (.oo (dss.set k.toNat (ds.set l.toNat (.int (g y z))))) else none
def jdh (i:Nat) (fk fl fv:ee->Option D) (g:Int->Int->Int):FS:=fun ρ=>match jgl i fk fl fv g ρ with
 | some ρ'=>.next ρ'
 | none=>.fail
theorem jo5 {tk tl tv:TE} {fk fl fv:ee->Option D} {g:Int->Int->Int} (i:Nat) (hk:Ji tk fk) (hl:EOk tl fl) (hv:EOk tv fv):ZI (jm2 (tOp (rIx Fr.K) (jeg i) tk) tl tv jm8 (ipI g) jk3) (jdh i fk fl fv g):=fun G0 H0 G H σ ρ E e q=>by
 unfold jdh at q;cases hq:jgl i fk fl fv g ρ with
 | none=>rw [hq] at q;exact q.elim
 | some ρ'=>
 rw [hq] at q;unfold jgl at hq;obtain ⟨dss,z1,hq⟩:=bind_some hq;obtain ⟨k,z2,hq⟩:=bind_some hq;obtain ⟨l,z3,hq⟩:=bind_some hq;obtain ⟨z,z4,hq⟩:=bind_some hq;by_cases hkl:0<=k/\0<=l
 case neg=>rw [if_neg hkl] at hq;cases hq
 rw [if_pos hkl] at hq;obtain ⟨ds,hds,hq⟩:=bind_some hq;obtain ⟨y,hy,hq⟩:=map_some hq;subst hq;replace z1:=joo z1;replace z2:=jdG z2;replace z3:=jdG z3;replace z4:=jdG z4;replace hy:=jdG hy;obtain ⟨a,bs,h1,h2,h3,h4,h5⟩:=e.oo z1;obtain ⟨b,us,b1,b2,b3⟩:=h5.get hds;have hkb:k.toNat<bs.length:=(Yh.mp b1).1;refine ⟨_,h1,hk _ _ _ _ _ _ _ _ e z2 fun kv G1 H1 x1 r1=>?_⟩
 (have hh:=RepT.of_int r1;subst hh)
 refine .inl ⟨a,bs.map V.ref,k,.ref b,rfl,rfl,.inl (.inl (x1.hh _ _ h2)),?_,hl _ _ _ _ _ _ _ _ (e.grow x1) z3 fun lv G2 H2 x2 r2=>?_⟩
 . unfold atI ixN;rw [if_pos hkl.1,Yc,if_pos (by omega)];show (bs.map V.ref)[k.toNat]?=_;rw [List.getElem?_map,b1];rfl
 (have hh:=Rep.of_int r2;subst hh)
 obtain ⟨v,hv1,hv2⟩:=b3.get hy
 (have hh:=Rep.of_int hv2;subst hh)
 have x12:=x1.trans x2;refine ⟨b,us,l,.int y,rfl,rfl,x12.hh _ _ b2,hkl.2,hv1,hv _ _ _ _ _ _ _ _ (e.grow x12) z4 fun zv G3 H3 x3 r3=>?_⟩
 (have hh:=Rep.of_int r3;subst hh)
 have x13:=x12.trans x3;refine ⟨y,z,rfl,rfl,b,us,l,l.toNat,rfl,rfl,x13.hh _ _ b2,?_,?_⟩
 . have:l.toNat<us.length:=(Yh.mp hv1).1;unfold ixN;rw [if_pos hkl.2,if_pos (by omega)]
 . exact q G3 _ σ x13.gg ((e.grow x13).putOO z1 h1 (x13.hh _ _ h2) b1 ((b3.mono x13.gg).set (.int _) _))
def joA:Slot->Option D
 | .sh d=>some d
 | _=>none
theorem jn9 {o:Option Slot} {d:D} (h:o.bind joA=some d):o=some (.sh d):=by obtain ⟨s,h1,h2⟩:=bind_some h;cases s <;> cases h2;exact h1
def jmg (i:Nat) (fv:ee->Option D) (g:Int->Int->Int):FS:=fun ρ=>match ((ρ[i]?.bind joA).bind asI).bind fun y=>((fv ρ).bind asI).map fun z=>(y,z) with
 | some p=>.next (ρ.set i (.sh (.int (g p.1 p.2))))
 | none=>.fail
theorem jqB {tv:TE} {fv:ee->Option D} {g:Int->Int->Int} (i:Nat) (hv:EOk tv fv):ZI (jpS i tv (ipI g)) (jmg i fv g):=fun G0 H0 G H σ ρ E e q=>by
 unfold jmg at q;cases hq:((ρ[i]?.bind joA).bind asI).bind fun y=>((fv ρ).bind asI).map fun z=>(y,z) with
 | none=>rw [hq] at q;exact q.elim
 | some p=>
 rw [hq] at q;obtain ⟨y,z1,hq⟩:=bind_some hq;obtain ⟨z,z2,hq⟩:=map_some hq;subst hq;obtain ⟨v,h1,r⟩:=e.sh (jn9 (jdG z1))
 (have hh:=Rep.of_int r;subst hh)
 refine ⟨_,h1,hv _ _ _ _ _ _ _ _ e (jdG z2) fun zv G1 H1 x1 r1=>?_⟩
 (have hh:=Rep.of_int r1;subst hh)
 exact ⟨y,z,rfl,rfl,q G1 H1 _ x1.gg ((e.grow x1).set (.int _))⟩
theorem jo1 {t:TS}:ZI t fun _=>.fail:=fun G0 H0 G H σ ρ E e q=>q.elim
end
section
variable {X:Cx}
theorem jjL:jpK X jm8:=fun tf s σ H o i ov iv Q I ro ri zz=>by obtain ⟨p,xs,k,v,e1,e2,hp,h0,hx,q⟩:=zz;subst e1;subst e2;cases ro;obtain ⟨t,rfl⟩:=ri;obtain ⟨tu,r,pl,hz⟩:=I.list (.inl (.inl hp));obtain ⟨w,ew,rw'⟩:=r.get hx;have hl:=r.length;have hn:=Z8;have hlt:k.toNat<xs.length:=(Yh.mp hx).1;exact wpAny_getItem_list pl.isList h0 (by omega) (by simpa using ew) ⟨v,H,I,rw',q⟩
end
end L2
namespace L2
open PySem PySem.Spec PyProof.Rows
section
variable {prog:Program} {w:World} {A:Around} {E:Value->Shared->Prop} {s:Shared}
theorem jhn:typeLookup (.type "list_reverseiterator") "__len__"=pure none:=by rw [KL,yW];kernel_rfl
theorem jjr:typeLookup (.type "list_reverseiterator") "__length_hint__"=pure (some (.builtin "list_reverseiterator.__length_hint__")):=by rw [KL,yW];kernel_rfl
theorem jkK {a:Addr} {Q:Bool → Shared → Prop} (hT:s.TypeIs (.ref a) "list_reverseiterator") (h:Q false s):wpAny (model prog w) A (Builtin.List.listLengthHint (.ref a)) Q E s:=by
 unfold Builtin.List.listLengthHint;refine Yb (yP hT jhn ?_);show wpAny _ _ (specialOf (Value.ref a) (Str.ofString "__length_hint__") >>= _) _ _ s;refine Yb (yP hT jjr ?_);generalize hid:("list_reverseiterator.__length_hint__":String)=id0
 wp_delta
 rw [show splitId id0=some ("list_reverseiterator","__length_hint__") from by subst hid;decide +kernel];subst hid;refine Yb (K3 (T := "list_reverseiterator") (b:=true) hT (by rw [isSubtype_type];kernel_rfl) ?_);refine yZ (fun hab=>absurd hab (by decide)) (fun _=>?_);refine yZ (fun _=>?_) (fun hab=>absurd ‹"aA"› hab);refine yZ (fun hab=>absurd hab ‹"aA"›) (fun _=>?_);exact Yk h
theorem jjM {it l:Addr} {items:Array Value} {Q:Value->Shared->Prop} (hh:A.handled=none) (hne:l≠it) (hit:s.heap.IsRevIter it l ((items.size:Int)-1)) (hl:s.heap.IsList l items) (hn:items.size<=sizeLine)
 (hQ:∀h' tk tF c,(∀b o,b≠it → s.heap.get? b=some o → h'.get? b=some o) → h'.get? s.heap.objs.size=some { cls:=.type "list",dict:=none,data:=.seq tF c,slots:=#[] } → ItemsOf (fun i v=>items[items.size-1-i]?=some v) tF items.size → Q (.ref s.heap.objs.size) { s with heap:=h',toks:=tk }) :
 wpAny (model prog w) A (call (.type "list") [.ref it]) Q E s:=by
 refine callType_codes (Q₁:=fun obj s₁=>obj=.ref s.heap.objs.size ∧ s₁={ s with heap:=s.heap.push { cls:=.type "list",data:=.seq #[] } }) PySem.F.called_list (PySem.F.typeCall_list_1 _) PySem.F.entry_list_init (code_list_new _ ⟨rfl,rfl⟩) fun obj s₁ e₁=>?_;obtain ⟨rfl,rfl⟩:=e₁;generalize hSd:s.heap.objs.size=S at *
 have hS:(s.heap.push { cls:=.type "list",data:=.seq #[] }).get? S=some { cls:=.type "list",data:=.seq #[] }:=by rw [← hSd];exact Yx _ rfl
 refine ⟨⟨_,hS,rfl⟩,PySem.F.args_list_init_2 _ _,?_⟩;generalize hG:s.heap.push { cls:=.type "list",data:=.seq #[] }=G at *
 have up:∀b o,s.heap.get? b=some o->G.get? b=some o:=fun b o e=>by rw [<-hG];exact Yl _ e
 have nS:∀b o,s.heap.get? b=some o->b≠S:=fun b o e=>by rw [<-hSd];exact Yt (Yw e)
 obtain ⟨oi,ei,_⟩:=id hit;obtain ⟨ol,el,_⟩:=id hl;have itS:=nS _ _ ei;have lS:=nS _ _ el;show wpAny _ _ (do let old <- Builtin.List.listItems (.ref S);Builtin.List.listUpdate (.ref S) (fun _=>#[]);letGo old.toList.reverse;Builtin.List.listExtendWith (.ref S) (.ref it) .none) _ _ _;refine Yb ?_;unfold Builtin.List.listItems;refine Yb (Ky hS rfl (Yk ?_));show wpAny _ _ (updateSeq S (fun _=>#[]) >>= fun _=>letGo (#[]:Array Value).toList.reverse >>= fun _=>Builtin.List.listExtendWith (.ref S) (.ref it) .none) _ _ _;refine Yb (yE hS rfl ?_);have hS2:=YW (Obj.mapSeq (fun _=>(#[]:Array Value))) hS rfl;refine Yb (wpAny_letGo ?_);have sb1:Heap.SameBut S G (G.update S ‹"aQ"›):=Heap.SameBut.update ..
 generalize G.update S ‹"aQ"›=G1 at hS2 sb1 ⊢;have up1:∀b o,s.heap.get? b=some o->G1.get? b=some o:=fun b o e=>sb1.extBut b o (nS b o e) (up b o e);have W:=Walks.listRev (prog:=prog) (w:=w) (A:=A.in1.in1) hh it l hne items;have hSf:S∉[it,l]:=by simp only [Yq,YJ,Ku,not_or];exact ⟨Ne.symm itS,Ne.symm lS⟩
 have key:∀(R:Result → Shared → Prop),(∀h' tk tF c,(∀b o,b≠it → s.heap.get? b=some o → h'.get? b=some o) → h'.get? S=some { cls:=.type "list",dict:=none,data:=.seq tF c,slots:=#[] } → ItemsOf (fun i v=>items[items.size-1-i]?=some v) tF items.size → R (.ok (.ret .none)) { s with heap:=h',toks:=tk }) →
  ∀(h:Heap) (c₁ tk:Nat),(∀b o,s.heap.get? b=some o → h.get? b=some o) → h.get? S=some { cls:=.type "list",data:=.seq #[] c₁ } →
  codeAny (model prog w) A.in1 (.builtin "list.extend.loop" ⟨[.ref S,.ref it,.none],[]⟩) R { s with heap:=h,toks:=tk }:=fun R hR h c₁ tk hk hS₁=>by
  refine codeAny_extend_loopS W.toS hn S hSf .none items.size 0 { s with heap:=h,toks:=tk } #[] c₁ rfl (yH _) ⟨yH _,?_,hl.at fun o e=>hk _ o e⟩ hS₁ (ItemsOf.nil _) fun s' acc' c' hm hS' hacc=>?_
  . have:=hit.at (h':=h) fun o e=>hk _ o e;simpa using this
  . rw [Moved.eq_with hm];refine hR s'.heap s'.toks acc' c' (fun b o hb e=>hm.heap b o (fun hmem=>?_) (hk b o e)) hS' hacc;rcases Yq.mp hmem with e' | hmem
    . exact nS _ _ e e'
    . exact hb (YN.mp hmem)
 unfold Builtin.List.listExtendWith;have hit1:G1.IsRevIter it l ((items.size:Int)-1):=hit.at fun o e=>up1 _ o e;refine Yb (wpAny_typeOf (T := "list_reverseiterator") (Heap.IsRevIter.typeIs (s:={ s with heap:=G1 }) hit1) ?_);have hsr:Builtin.List.listSameRef (.ref S) (.ref it)=false:=by simp [Builtin.List.listSameRef,Ne.symm itS]
 have t1:(Value.type "list_reverseiterator" == Value.type "list")=false:=by decide
 have t2:(Value.type "list_reverseiterator" == Value.type "tuple")=false:=by decide
 simp only [hsr,t1,t2,Bool.or_false,YX,yy];refine Yb (wpAny_pyIter_revIter hit1 ?_);refine Yb (yn (jkK (Heap.IsRevIter.typeIs (s:={ s with heap:=G1 }) hit1) ?_));refine yZ (fun _=>?_) (fun _=>Yk ⟨yV yX _,key _ (fun h' tk tF c h1 h2 h3=>⟨rfl,hQ h' tk tF c h1 h2 h3⟩) _ _ _ up1 hS2⟩);refine Yb (wpAny_rule ?_);refine Yb ?_;show wpAny _ _ (updateSeq S (·.push .none) >>= fun _=>updateSeq S (·.pop)) _ _ _;refine Yb (yE hS2 rfl ?_);have hS3:=YW (Obj.mapSeq (·.push Value.none)) hS2 rfl;have sb2:Heap.SameBut S G1 (G1.update S (Obj.mapSeq (·.push Value.none))):=Heap.SameBut.update ..
 generalize G1.update S (Obj.mapSeq (·.push Value.none))=G2 at hS3 sb2 ⊢;refine yE (hz:=by seq_fits) hS3 rfl ?_;have hS4:=YW (Obj.mapSeq (·.pop)) hS3 rfl;have sb3:Heap.SameBut S G2 (G2.update S (Obj.mapSeq (·.pop))):=Heap.SameBut.update ..
 generalize G2.update S (Obj.mapSeq (·.pop))=G3 at hS4 sb3 ⊢;refine Yk ⟨yV yX _,key _ (fun h' tk tF c h1 h2 h3=>⟨rfl,hQ h' tk tF c h1 h2 h3⟩) _ _ _ (fun b o e=>sb3.extBut b o (nS b o e) (sb2.extBut b o (nS b o e) (up1 b o e))) hS4⟩
end
def jcm (K:PySem.W.Frag) (ta:TA):TE:=fun σ H Q=>ta σ H fun vs H1=>∃p xs,vs=[.ref p]/\Jn K H1 p xs/\∀l,H1 l=none->Q (.ref l) (upd H1 l (.lst xs.reverse))
section
variable {X:Cx}
theorem jgU {a:Expr} {ta:TA} {p1 p2 pos1 pos2:Pos} (hc:X.calm=true) (hg1:Gl X "list") (hm1:X.mg "list"=none) (hg2:Gl X "reversed") (hm2:X.mg "reversed"=none) (ha:PA X [a] ta)
 (hs:starEach [a] X.env=[(false,eval a X.env)]:=by rfl)
 (hs3:starEach [.Call (.Name "reversed" p2) [a] [] pos2] X.env=[(false,eval (.Call (.Name "reversed" p2) [a] [] pos2) X.env)]:=by rfl) :
 PE X (.Call (.Name "list" p1) [.Call (.Name "reversed" p2) [a] [] pos2] [] pos1) (jcm X.K ta):=by
 intro tf s σ H Q I h;refine Call_ (Qh I hg1 hm1 Kj (YY ?_ hs3 rfl));rw [hs3];show wpAny _ _ (spliced ((false,eval (.Call (.Name "reversed" p2) [a] [] pos2) X.env)::backTo pos1 [])) _ _ s;refine KQ (Call_ (Qh I hg2 hm2 boot_reversed (YY (qD (ha pos2 tf s σ H _ I h) fun us s1 zz=>?_) hs rfl)));obtain ⟨vs,H1,I1,r1,q1⟩:=zz;obtain ⟨pa,xs,e,hp,q⟩:=q1;subst e;obtain ⟨u,rfl,ru⟩:=Vals.one r1;cases ru;obtain ⟨tu,rx,pl,hz⟩:=I1.list hp;have lx:=rx.length;have lta:@LT.lt Nat instLTNat pa s1.heap.objs.size:=by obtain ⟨_,e,_⟩:=pl.isList;exact ltN e
 refine call_reversed_list pl.isList ?_;refine K1 ?_;have up:∀b o,s1.heap.get? b=some o->(s1.heap.push (revObj pa ((tu.toArray.size:Int)-1))).get? b=some o:=fun b o e=>Yl _ e;have hsz:(s1.heap.push (revObj pa ((tu.toArray.size:Int)-1))).objs.size=s1.heap.objs.size+1:=yh ..
 refine jjM (items:=tu.toArray) (I.ok.hd hc) (l:=pa) (Yt lta) ⟨_,Yx _ rfl,rfl,rfl⟩ (pl.isList.at fun o e=>up _ o e) (by simp;omega) fun h' tk tF c hk hD hacc=>?_;have hv:Vals xs.reverse tF.toList:=Paired.of (by rw [kd,lx];have:=hacc.1;simpa using this.symm) fun i x y e1 e2=>by
  have e3:=hacc.2 i y (by rw [<-yG];exact e2);have hi:i<xs.length:=by simpa using (Yh.mp e1).1
  rw [List.getElem?_reverse hi] at e1;have e4:tu[xs.length-1-i]?=some y:=by rw [lx];simpa using e3
  obtain ⟨y',h1,h2⟩:=Paired.get rx e1;rw [e4] at h1;cases h1;exact h2
 have hD':h'.get? (s1.heap.objs.size+1)=some { cls:=.type "list",dict:=none,data:=.seq tF c,slots:=#[] }:=by have:=hD;rw [hsz] at this;exact this
 have I2:=I1.laid (a:=s1.heap.objs.size+1) (o:=.lst xs.reverse) (t':=tk) (h':=h') (fun b o e=>hk b o (Yt (Yw e)) (up b o e)) (ka _) ⟨by rw [kd];exact hz,tF.toList,c,hv,by rw [Array.toArray_toList];exact hD'⟩;refine ⟨.ref (s1.heap.objs.size+1),_,I2,?_,q _ (I1.hok.fresh (ka _))⟩;show Value.ref _=Value.ref _;rw [hsz]
end
section
variable [Fr]
def jgb:List D->Option (List D)
 | [.lst l]=>some l.reverse
 | _=>none
theorem jp7 {As:TA} {fs:ee->Option (List D)} (h:jbd As fs):EOkO (jcm Fr.K As) (jh jgb fs):=fun G0 H0 G H σ ρ Q es e q k=>by
 obtain ⟨ds,q1,q2⟩:=bind_some q;refine h _ _ _ _ _ _ _ _ e q1 fun vs G1 H1 x1 r1=>?_;unfold jgb at q2;split at q2
 . cases q2;cases r1 with
   | cons r t=>cases t;obtain ⟨_,_,rfl,h,r⟩:=r.of_lst;exact ⟨_,_,rfl,.inl h,fun l hl=>k l _ G1 _ (x1.trans (.new x1.gh hl)) (x1.hh.free hl) (x1.gh.free hl) jB r.reverse⟩
 . cases q2
end
def jmI:R2:=fun x y H Q=>∃l xs n,x=.ref l/\y=.int n/\Rd H l (.lst xs)/\0<=n/\xs.length*n.toNat<=sizeLine/\n<2 ^ 63/\∀p,H p=none->Q (.ref p) (upd H p (.lst (List.replicate n.toNat xs).flatten))
section
variable {X:Cx}
theorem jf5 {xs:List V} {tu:List Value} (r:Vals xs tu):∀n,Vals (List.replicate n xs).flatten (List.replicate n tu).flatten
 | 0=>.nil
 | n+1=>by rw [yw,yw,K0,K0];exact r.append (jf5 r n)
theorem jge {α} (tu:Array α):∀(n:Nat) (tF:Array α),List.foldl (fun x1 x2=>x1++x2) tF (List.replicate n tu)=(tF.toList++(List.replicate n tu.toList).flatten).toArray
 | 0,tF=>by simp
 | n+1,tF=>by rw [yw,List.foldl_cons,jge tu n];simp [yw]
theorem jl7:OpR X (binaryOp .Mult) jmI:=by
 intro tf s σ H x y v u Q I rx ry h;obtain ⟨l,xs,n,rfl,rfl,hH,h0,hz,h63,q⟩:=h;cases rx;obtain ⟨t,rfl⟩:=ry;obtain ⟨z,tu,k,r,e⟩:=hH.ok I.hok;have hl:=r.length;have e24:sizeLine=2 ^ 24:=by rw [PySem.sizeLine_eq]
 have e9:tu.toArray.size*n.toNat=xs.length*n.toNat:=by rw [YD,hl]
 refine wpAny_binaryOp_repeat_ref (T := "list") (U:="int") (by decide) ⟨_,e,rfl⟩ (fun s'=>typeIs_int s' n t) noFill_list_mul PySem.F.fills_int_mul PySem.F.slot_int_rmul repeat_list PySem.F.slot_int_index.lookup
  (call_meets PySem.F.slot_int_rmul (typeIs_int s n t) PySem.F.entry_int_rmul (PySem.F.args_int_rmul_2 _ _) (int___rmul___int_list n t l tu.toArray k)
   ⟨e,rfl,⟨_,e,rfl⟩,call_meets PySem.F.slot_list_mul ⟨_,e,rfl⟩ PySem.F.entry_list_mul (PySem.F.args_list_mul_2 _ _)
     (AutoListH.list___mul___list_int_3 l tu.toArray k n t (by simp [Builtin.List.listFitsIndex];omega) (by omega) (by simp [Builtin.List.listTooLong];rw [<-hl];omega))
     ⟨e,?_⟩⟩)
 have ea:List.foldl (fun x1 x2=>x1++x2) #[] (List.replicate (if tu.toArray.isEmpty=true then 0 else n.toNat) tu.toArray)=((List.replicate n.toNat tu).flatten).toArray:=by
  rw [jge];cases tu with
  | nil=>simp
  | cons a as=>simp
 rw [ea];exact ⟨.ref _,_,I.lnew (t':=s.toks) (jf5 r _) (by rw [List.length_flatten];simp;rw [Nat.mul_comm];exact hz),rfl,q _ I.fresh⟩
end
section
variable [Fr]
def joC:D->D->Option (List D)
 | .lst l,.int n=>if 0<=n/\l.length*n.toNat<=sizeLine/\n<2 ^ 63 then some (List.replicate n.toNat l).flatten else none
 | _,_=>none
theorem jfm {G:Hp} {vs:List V} {ds:List D} (r:Reps G vs ds):∀n,Reps G (List.replicate n vs).flatten (List.replicate n ds).flatten
 | 0=>.nil
 | n+1=>by rw [yw,yw,K0,K0];exact r.append (jfm r n)
theorem jpV:joX jmI joC:=fun G H x y dx dy d Q s rx ry q k=>by
 unfold joC at q;split at q
 . split at q
   . rename_i hz;cases q;obtain ⟨_,_,rfl,h,r⟩:=rx.of_lst;cases ry with
     | int n=>exact ⟨_,_,_,rfl,rfl,h,hz.1,by rw [r.length];exact hz.2.1,hz.2.2,fun p hp=>k p _ G _ (.new s hp) hp (s.free hp) jB (jfm r _)⟩
   . cases q
 . cases q
end
section
variable {prog:Program} {w:World} {A:Around} {E:Value->Shared->Prop} {s:Shared}
end
section
variable {X:Cx}
end
section
variable [Fr]
end
end L2
namespace L2
open PySem PySem.Spec PyProof.Rows
structure WD (M:Fm) (e:Expr) (f:ee->Option (List Int×List D)):Prop where
 h:∃t,(∀i,PE (M.X i) e t)/\@EOkD M.fr t f
section
variable {M:Fm} {a b c e o:Expr} {es:List Expr} {fa fb fc fe:ee->Option D} {fo:ee->Option (List D)} {fs:ee->Option (List D)} {fd:ee->Option (List Int×List D)} {ga gb:ee->Option Bool} {pos p apos cpos:Pos} {x:Str}
theorem WD.toE (h:WD M e fd):WE M e (jkx fd):=let ⟨t,h1,h2⟩:=h.h;⟨_,fun j=>jpO (h1 j),@EOkD.e M.fr _ _ h2⟩
theorem jrN (ha:WT M a fa) (hb:WT M b fb):WO M (.BinOp a .Mult b pos) (jl joC fa fb):=let ⟨_,h1,h2⟩:=ha.h;let ⟨_,k1,k2⟩:=hb.h;⟨_,fun j=>jkR jl7 (h1 j) (k1 j),@jmM M.fr _ _ _ _ _ _ (@jpV M.fr) h2 k2⟩
theorem jnj {p1 p2 pos1 pos2:Pos} (hg1:∀j,Gl (M.X j) "list") (hm1:∀j,(M.X j).mg "list"=none) (hg2:∀j,Gl (M.X j) "reversed") (hm2:∀j,(M.X j).mg "reversed"=none) (ha:WAT M [a] fs) (h:ql a=false:=by rfl) :
 WO M (.Call (.Name "list" p1) [.Call (.Name "reversed" p2) [a] [] pos2] [] pos1) (jh jgb fs):=
 let ⟨_,h1,h2⟩:=ha.h
 ⟨jcm M.K _,fun j=>by have:=jgU (p1:=p1) (p2:=p2) (pos1:=pos1) (pos2:=pos2) (M.calm j) (hg1 j) (hm1 j) (hg2 j) (hm2 j) (h1 j) (by rw [qE h];rfl) (by rw [qE rfl];rfl);rw [M.hK j] at this;exact this,@jp7 M.fr _ _ h2⟩
theorem jeG {n:Nat} (h:n+64<cLine):n+1<cLine:=by omega
theorem jqf (hu:∀j,(M.X j).A.units+64<cLine):WCmp M .In (jeC false):=⟨_,fun j=>joL (jeG (hu j)),@jqR M.fr false⟩
theorem joK (hu:∀j,(M.X j).A.units+64<cLine) (ha:WT M a fa) (hb:WT M b fb) (hs:autoParam (joQ b) QA.a12._auto_1):WE M (.Subscript a b pos) (jl jhu fa fb):=let ⟨_,h1,h2⟩:=ha.h;let ⟨_,k1,k2⟩:=hb.h;⟨_,fun j=>jml (jeG (hu j)) (h1 j) (k1 j) hs,@jo2 M.fr _ _ _ _ h2 k2⟩
theorem jlB (hu:∀j,(M.X j).A.units+64<cLine) (ha:WT M o fa) (hb:WT M e fb) (h':ql e=false:=by rfl)
 (hbase:∀j,attributeBase o "get" (M.X j).env (eval o (M.X j).env)=eval o (M.X j).env:=by intro _;rfl) (hline:(apos.endLine == cpos.line)=true:=by rfl):WE M (.Call (.Attribute o "get" apos) [e] [] cpos) (jl jaT fa fb):=
 let ⟨_,h1,h2⟩:=ha.h;let ⟨_,k1,k2⟩:=hb.h;⟨_,fun j=>jjK (jeG (hu j)) (h1 j) (k1 j) ⟨hbase j,by rw [qE h'];rfl,hline,by rw [qE h'];rfl⟩,@jlL M.fr _ _ _ _ h2 k2⟩
theorem jlw:WBO M (.type "list") jci:=⟨_,fun j=>jgN (M.calm j),@jlq M.fr⟩
theorem jor (ha:WE M a fa) (hb:WE M b fb):WD M (.Dict [some a] [b] pos) (jfX fa fb):=let ⟨_,h1,h2⟩:=ha.h;let ⟨_,k1,k2⟩:=hb.h;⟨_,fun j=>jl1 (jkb (h1 j) (k1 j) jmD) rfl rfl (by simp) (by show 1<=15;decide),@jnO M.fr _ _ _ _ h2 k2⟩
theorem jlo (hg:∀j,Gl (M.X j) "dict") (hm:∀j,(M.X j).mg "dict"=none) (ha:WAT M [e] fs) (h:ql e=false:=by rfl):WD M (.Call (.Name "dict" p) [e] [] pos) (jh jeS fs):=let ⟨_,h1,h2⟩:=ha.h;⟨_,fun j=>Zy jgA (hg j) (hm j) boot_dict (h1 j) (by decide) (by decide) (qE h) (JH rfl),@jlY M.fr _ _ h2⟩
theorem jov {tg:Expr} (h:WE M e fe):WI M tg e (jcc fe):=let ⟨_,h1,h2⟩:=h.h;⟨_,fun j=>jmo (h1 j),@jpF M.fr _ _ h2⟩
variable {m:D->ee->Option ee} {tg iter:Expr} {st:Stmt} {sts body:List Stmt} {F F' B:FS}
theorem jmC {i:Nat} {pos':Pos} (h:WD M e fd) (hN:∀j,(M.X j).N.Nodup) (hi:M.N[i]?=some x) (hx:∀j,Loc (M.X j).env.scope x) (hf:∀j,(M.X j).fn x=true\/(M.X j).env.scope.names.lookup x=some .local) (hs:∀j,swapsWith e (some (.Name x pos')) pos.line (M.X j).env=pure false:=by intro _;rfl) :
 WS M (.Assign [.Name x pos'] e pos) (jhR i fd):=let ⟨_,h1,h2⟩:=h.h;⟨_,fun j=>jgW (hN j) (by rw [M.hN j];exact hi) (hx j) (h1 j) (hs j) (hf j),@jn4 M.fr _ _ i h2⟩
theorem jlU {i:Nat} {pos':Pos} {y:Str} {py:Pos} (hu:∀j,(M.X j).A.units+64<cLine) (hN:M.N[i]?=some y) (hv:∀j,Vis (M.X j).env.scope y) (hk:WE M b fb) (h:WE M e fe) (hd:(y == ("__debug__":Str))=false:=by decide) (hcd:(y == ("__classdict__":Str))=false:=by decide)
 (hs:∀j,swapsWith e (some (.Subscript (.Name y py) b pos')) pos.line (M.X j).env=pure false:=by intro _;rfl):WS M (.Assign [.Subscript (.Name y py) b pos'] e pos) (jfs i fb fe):=
 let ⟨_,a1,a2⟩:=h.h;let ⟨_,b1,b2⟩:=hk.h;⟨_,fun j=>jmh (jeG (hu j)) ‹"1"› (b1 j) (a1 j) (hs j),@joh M.fr _ _ _ _ i b2 a2⟩
theorem jlN (i:Nat) (hN:M.N[i]?=some x:=by rfl) (hv:autoParam (∀j,Vis (M.X j).env.scope x) QA.a7._auto_1) (hd:‹"q"›=false:=by decide)
 (hcd:(x == ("__classdict__":Str))=false:=by decide):WS M (.Return (some (.Name x p)) pos) (jh9 i):=⟨_,fun j=>jj3 ‹"1"›,@jot M.fr i⟩
theorem jfZ:WS M st (fun _=>.fail):=⟨fun _ _ _=>False,fun _ _ _ _ _ _ _ h=>h.elim,@jo1 M.fr _⟩
variable {ifs:List Expr} {scope sc:Scope} {Lc Fn:List Str} {ix:List Nat}
theorem jlt {i:Nat} {y:Str} {py spos:Pos} (hNd:∀j,(M.X j).N.Nodup) (hy:M.N[i]?=some y) (hyl:∀j,(M.X j).env.scope.names.lookup y=some .local) (hsc:∀j,(M.X j).env.scope=sc) (ok:LcOk sc M.N scope Fn ix) (hi:WIT M tg iter fo) (hg:WL ‹"Y"› Lc.length tg m) (ht:WTs ‹"Y"› ifs ga) (he:WO ‹"Y"› e fs)
 (hsw:∀j,swapsWith ‹"t"› (some (.Name y py)) spos.line (M.X j).env=pure true:=by intro _;rfl) (hs:∀j x,foldedSetIterable iter (M.X j).env x=pure x:=by intro _ _;rfl):WS M (.Assign [.Name y py] ‹"t"› spos) (jcd i (jky fo m ga fs Lc.length ix)):=
 let ⟨_,i1,i2⟩:=hi.h;let ⟨_,g1,g2,g3⟩:=hg.h;let ⟨_,t1,t2⟩:=ht.h;let ⟨_,e1,e2⟩:=he.h
 ⟨_,fun j=>jaf (hNd j) (by rw [M.hN j];exact hy) (hyl j) (hsc j) (M.hN j) (M.calm j) ok (i1 j) (fun C s H fp=>g1 (j,C,s,H,fp)) g3 (fun C s H fp=>t1 (j,C,s,H,fp)) (fun C s H fp=>e1 (j,C,s,H,fp)) (hsw j) (hs j),@jlQ M.fr _ _ i (@jqd M.fr _ _ _ _ _ _ _ _ _ _ i2 g2 t2 e2)⟩
structure WIp (M:Fm) (op:Operator) (g:Int->Int->Int):Prop where
 h:∀j,PIp (M.X j) op (ipI g)
theorem jmG:WIp M .Add (fun i j=>i+j):=⟨fun _=>joJ⟩
theorem jqT:WIp M .Sub (fun i j=>i-j):=⟨fun _=>jnx⟩
theorem joZ {i:Nat} {op:Operator} {g:Int->Int->Int} {pos':Pos} (ho:WIp M op g) (h:WE M e fe) (hN:∀j,(M.X j).N.Nodup) (hi:M.N[i]?=some x) (hx:∀j,Loc (M.X j).env.scope x) (hf:∀j,(M.X j).fn x=true\/(M.X j).env.scope.names.lookup x=some .local) :
 WS M (.AugAssign (.Name x pos') op e pos) (jmg i fe g):=let ⟨_,h1,h2⟩:=h.h;⟨_,fun j=>jnV (hN j) (by rw [M.hN j];exact hi) (hx j) (h1 j) (ho.h j) (hf j),@jqB M.fr _ _ g i h2⟩
theorem jhN {i:Nat} {y:Str} {py p1 tpos:Pos} {op:Operator} {g:Int → Int → Int} (ho:WIp M op g) (hN:M.N[i]?=some y) (hv:∀j,Vis (M.X j).env.scope y) (hk:WT M a fa) (hl:WE M b fb) (h:WE M e fe) (hd:(y == ("__debug__":Str))=false:=by decide) (hcd:(y == ("__classdict__":Str))=false:=by decide) (hs:jeF a:=by exact fun _ _=>rfl)
 (ha:∀ov iv new,augStore b ov iv new=(do holding [new,ov,iv] (setItem ov iv new);release [new,ov,iv] [];pure .next):=by intros;rfl):WS M (.AugAssign (.Subscript (.Subscript (.Name y py) a p1) b tpos) op e pos) (jdh i fa fb fe g):=
 let ⟨_,a1,a2⟩:=hk.h;let ⟨_,b1,b2⟩:=hl.h;let ⟨_,e1,e2⟩:=h.h
 ⟨_,fun j=>jmA (jmO (r:=rIx M.K) (by rw [<-M.hK j];exact jjl) ‹"1"› (a1 j) hs) (b1 j) jjL (e1 j) (ho.h j) jfb ha,@jo5 M.fr _ _ _ _ _ _ g i a2 b2 e2⟩
end
end L2
namespace L2
open PySem PySem.Spec PyProof.Rows
abbrev TLk:=V->TT
section
variable {X:Cx} {op op':CmpOp} {ops:List CmpOp} {b b' a:Expr} {bs:List Expr} {r:R2} {tb ta:TE} {l:TLk} {pos:Pos}
end
section
variable [Fr]
variable {r:R2} {f:D->D->Option D} {ta tb:TE} {fa fb:ee->Option D} {l:TLk} {m:D->ee->Option Bool}
end
section
variable {M:Fm} {a b b':Expr} {bs:List Expr} {op op':CmpOp} {ops:List CmpOp} {f:D->D->Option D} {fa fb:ee->Option D} {m:D->ee->Option Bool} {pos:Pos}
end
end L2
namespace L2
open PySem PySem.Spec PyProof.Rows
section
variable {X:Cx}
end
section
variable [Fr]
end
section
variable {M:Fm} {o e:Expr} {fa fe:ee->Option D} {apos cpos:Pos}
end
section
variable {P:Program} {w:World} {K:PySem.W.Frag} {mg:Str->Option Value} {base:Heap} {f:Addr} {fd:FuncData} {ps:List Str} {k:Nat}
end
end L2
namespace QS
open PySem.W PyProof.Rows
structure PA (n:Nat) (p:Array Nat):Prop where
 size:p.size=n
 perm:p.toList.Perm (List.range n)
def key (K:Nat->Int) (p:Array Nat) (i:Nat):Int:=K (p.getD i 0)
section
variable {n:Nat} {K:Nat->Int} {p:Array Nat}
theorem ja5 {q:Array Nat} {i j:Nat} (h:p[i]?=q[j]?):key K p i=key K q j:=by unfold key;rw [Ks,Ks,h]
def Ris (K:Nat->Int) (p:Array Nat) (m:Nat):Prop:=∀i,i+1<m->key K p i<key K p (i+1)
theorem Ris.all {m:Nat} (h:Ris K p m):∀{d i:Nat},i+d+1<m->key K p i<key K p (i+d+1)
 | 0,i,hi=>h i hi
 | d+1,i,hi=>K2 (h.all (d:=d) (by omega)) (h (i+d+1) (by omega))
variable (hK:∀i j,i<n->j<n->i≠j->K i≠K j)
include hK
end
end QS
namespace QS
open PySem PySem.W PySem.Calls PyProof.Rows
abbrev Tr:=Value×Int×Int
def t0:Tr:=(.none,0,0)
section
variable {prog:Program} {w:World} {A:Around} {E:Value->Shared->Prop} {s:Shared}
def trs (as:List Addr) (ps:List (Int×Int)):List Tr:=(as.zip ps).map fun q=>(.ref q.1,q.2)
end
end QS
namespace QS
open PySem PySem.W PySem.Calls PyProof.Rows PyProof.V PySem.Spec
section
variable {prog:Program} {w:World} {A:Around} {R:Result->Shared->Prop} {I S:Addr} {fp wr:List Addr} {n:Nat} {P:Nat->Value->Prop} {St:Nat->Heap->Prop} {val:Nat->Int} {d:Value}
theorem gt_int {a b:Int} {t u:Tok} {s:Shared} {Q:Value->Shared->Prop} {E:Value->Shared->Prop} (h:Q (.bool (decide (a>b))) s):wpAny (model prog w) A (richCompare .Gt (.int a t) (.int b u)) Q E s:=CmpOf.ints_gt (P:=fun i v=>v=.int (if i=0 then a else b) (if i=0 then t else u)) (fun i=>if i=0 then a else b) (fun i v hv=>⟨_,hv⟩) 0 1 _ _ s Q E rfl rfl h
end
section
variable {prog:Program} {w:World} {A:Around} {E:Value->Shared->Prop} {s:Shared}
end
end QS
namespace L2
open PySem PySem.Spec PyProof.Rows
section
variable {X:Cx}
end
section
variable [Fr]
end
section
variable {X:Cx}
end
section
variable [Fr]
end
end L2
namespace L2
open PySem PySem.Spec PyProof.Rows
section
variable {M:Fm} {o e f:Expr} {fa fb fx:ee->Option D}
end
end L2
namespace L2
open PySem PySem.Spec PyProof.Rows
section
variable [Fr]
end
section
variable {M:Fm} {a b e:Expr} {fa fb fe:ee->Option D} {pos:Pos}
end
end L2
namespace L2
open PySem PySem.Spec PyProof.Rows
section
variable [Fr]
def ooO (f:ee->Option (List (List D))):ee->Option D:=fun ρ=>(f ρ).map fun dss=>.lst (dss.map .lst)
theorem EOkOO.e {t:TE} {f:ee->Option (List (List D))} (h:EOkOO t f):EOk t (ooO f):=fun G0 H0 G H σ ρ Q d e q k=>by
 obtain ⟨dss,q1,q2⟩:=map_some q;subst q2;refine h _ _ _ _ _ _ _ _ e q1 fun a bs G' H' x hn nd ha r=>?_;have ss:=jbk (bs:=bs) x.gh;have nd':=ye.mp nd;have rr:=r.frozen ss.1 fun b hb=>jb4 hb;have x1:Ext G H (more G' H' bs) H':=⟨x.hh,x.gg.trans ss.1,ss.2,fun b u z=>by
  by_cases hb:b∈bs
  . exact .inr (hn b (Yj _ hb)).1
  . rw [JW hb] at z;exact x.nw b u z⟩
 have ga:more G' H' bs a=none:=by rw [JW nd'.1];exact (hn a Yf).2
 exact k _ _ H' (x1.freeze (hn a Yf).1 ga ha) (.lst (.inl jB) (rr.mono (.upd ga)))
variable {As:TA} {fs:ee->Option (List D)}
end
section
variable {M:Fm} {a b c e o:Expr} {es:List Expr} {fa fb fe:ee->Option D} {fs:ee->Option (List D)} {g:ee->Option (List (List D))} {pos p apos cpos:Pos} {x:Str} {st:Stmt} {sts:List Stmt} {F F':FS} {f2:List D->Option (List (List D))}
variable {P:Program} {w:World} {K:PySem.W.Frag} {mg:Str->Option Value} {base:Heap} {y qual:Str} {f:Addr} {fd:FuncData} {N ps:List Str} {k n:Nat} {m:FS}
end
end L2
namespace Q
open PySem PySem.Spec PyProof.Rows L2
def J3:FS:=(jt (zQ (qw (jl dLt (ja 1) (jh qj (jc (ja 0) jj))))
 (j6 (jl jM (ja 0) (ja 1))) jQ)
 (j6 (eC (.int 0))))
def jT:List D->Option D:=zb 2 2 J3
def Q4:FS:=(jt (jE 3 (jl qI (jl qu (ja 0) (eC (.int 6))) (eC (.int 2))))
 (jt ‹"aL"›
 (jt (zQ (qw (jl dEq (ja 2) (eC (.int 1))))
 (jt (jE 3 (jl qI (jl qu (ja 0) (eC (.int 50))) (eC (.int 25))))
 (jE 4 (jl qp (jl qp (ja 3) (eC (.int 1))) (jl qu (jl zy (ja 0) (eC (.int 50))) (eC (.int 40)))))) jQ)
 (jt (zQ (qw (jl dEq (ja 2) (eC (.int 2))))
 (jt ‹"T"›
 (jE 4 (jl qp (jl qp (ja 3) (eC (.int 1))) (jl za (jl qu (jl za (ja 0) (eC (.int 1664525013))) (eC (.int 2147483629))) (jl QM (eC (.int 10)) (eC (.int 5))))))) jQ)
 (jt (jE 5 (jl jM (jN (zH (jc (eC (.int 2)) (jc (eC (.int 1)) (jc (eC (.int 3)) (jc (eC (.int 5)) (jc (jl QM (eC (.int 10)) (eC (.int 15))) (jc (jl qp (eC (.int 1)) (jl qu (jl zy (ja 1) (eC (.int 8))) (eC (.int 50)))) (jc (eC (.int 0)) (jc (eC (.int 4)) jj)))))))))) (jl qu (ja 1) (eC (.int 8)))))
 (jt (jE 6 (jl qu (jl za (ja 1) (eC (.int 1103515245))) (eC (.int 2147483647))))
 (jt (jE 7 (jl za (ja 5) (jl qI (ja 4) (ja 3))))
 (jt (jE 8 (jl jM (jN (zH (jc (jl zy (jl za (ja 7) (jl qu (ja 6) (eC (.int 17)))) (eC (.int 16))) (jc (jl qu (ja 6) (jl qp (ja 7) (eC (.int 1)))) (jc (jh ZL (jc (ja 7) (jc (jl qu (ja 6) (eC (.int 9))) jj))) (jc (jq 7) jj)))))) (jl qu (jl zy (ja 6) (eC (.int 17))) (eC (.int 4)))))
 (j6 (QP (jc (jq 3) (jc (jq 4) (jc (jq 8) (jc (jq 5) jj))))))))))))))
def Jb:List D->Option D:=zb 3 9 Q4
def JL:FS:=(jt (jE 2 (jh jT ‹"am"›))
 (jt (zc 3 (zH jj))
 (jt (zP (Jt (jc (jl jM (jN (zH (jc (eC (.int 3)) (jc (eC (.int 4)) (jc (eC (.int 2)) (jc (eC (.int 4)) (jc (eC (.int 1)) (jc (eC (.int 3)) (jc (eC (.int 0)) (jc (eC (.int 4)) jj)))))))))) (jl qu (ja 2) (eC (.int 8)))) jj)) (jz 4)
 (jt (jE 5 (jh jT (jc (jq 0) (jc (jl qp (jl qp (ja 1) (eC (.int 1))) (jl za (eC (.int 2)) (ja 4))) jj))))
 (zG 3 (jh Jb (jc (jq 5) (jc (jh jT (jc (jq 0) (jc (jl qp (jl qp (ja 1) (eC (.int 2))) (jl za (eC (.int 2)) (ja 4))) jj))) (jc (jl qu (jl zy (ja 2) (eC (.int 8))) (eC (.int 3))) jj)))))))
 (jt (zQ ‹"7"›
 (Q8 3 (jcL (eC (.int 1))) (jl jM (ja 3) (eC (.int 0)))) jQ)
 (jbn 3)))))
def JN:List D->Option (List D):=J9 2 6 JL
def JT:FS:=(jt (jE 1 (jN (jh jfi (jc (jN (jl jbU (jN (JV (qg (ja 0)) (jz 0) ‹"l"› ‹"ag"› 1 [])) (jN (JV (qg (ja 0)) (jz 0) ‹"l"› ‹"av"› 1 [])))) jj))))
 (Jc (JV (Jt (jc (jl qI (jh qj (jc (ja 1) jj)) (eC (.int 1))) jj)) (jz 0) (qw (jl dLt (jl jM (ja 1) (ja 0)) (jl jM (ja 1) (jl qp (ja 0) (eC (.int 1)))))) (QP (jc (jl jM (ja 1) (ja 0)) (jc (jl jM (ja 1) (jl qp (ja 0) (eC (.int 1)))) jj))) 1 [1])))
def JP:List D->Option (List D):=J9 1 2 JT
def JO:FS:=(jt (zc 2 (zH jj))
 (jt (zP (qg (jq 1)) (Qa 2 (jZ (jz 3) (jZ (jz 4) Qi)))
 (zQ (jat (qw (jl dLe ‹"ag"› (ja 3))) (qw (jl dLe (ja 4) ‹"av"›)))
 (zG 2 (jl za (jl jM (ja 0) (eC (.int 3))) (jl qI (ja 4) (ja 3)))) (zG 2 (eC (.int 0)))))
 (jbn 2)))
def Jg:List D->Option (List D):=J9 2 5 JO
def Qb:FS:=(jt (jE 2 (jN (jh JP (jc (jq 0) jj))))
 (jt (zc 3 (zH jj))
 (jt (zP (Jt ‹"aO"›) (jz 4)
 (jt (jE 5 (jN (jh Jg (jc (jl jM (ja 0) (ja 4)) (jc (jq 2) jj)))))
 (jt (jE 6 (jl jM (jl jM (ja 0) (ja 4)) (eC (.int 2))))
 (jt (zc 7 (zH jj))
 (jt (zP (Jt (jc (jh qj (jc (ja 2) jj)) jj)) (jz 8)
 (jt ‹"G"›
 (jt ‹"f"›
 (jt ‹"aa"›
 (jE 6 (jl qI (ja 6) (jl jM (ja 7) (ja 8))))))))
 (jt (zP (Jt (jc (jh qj (jc (ja 2) jj)) jj)) (jz 8)
 (jt ‹"F"›
 (jt ‹"S"›
 (jt ‹"aH"›
 (jE 6 (jl qI (ja 6) (ja 12)))))))
 (jad 7 (zG 3 (jq 7)))))))))
 (jbn 3))))
def Zq:List D->Option (List D):=J9 2 13 Qb
def jcK:FS:=(j6 (jcb (QN "int" (ja 0)) (jiy (QN "bool" (ja 0)))))
def Jq:List D->Option D:=zb 1 1 jcK
def jbf:FS:=(jt (zQ (bOr (J7 (qw (QN "tuple" (ja 0)))) (qw (jl dNe (jh qj (jc (ja 0) jj)) (eC (.int 4)))))
 (j6 (eC (.bl false))) jQ)
 (jt (zQ (J7 (qw (jh jdz (jc (jN (JV (Q9 (jq 0)) (jz 0) ‹"l"› (jh Jq (jc (jq 0) jj)) 1 [])) jj))))
 (j6 (eC (.bl false))) jQ)
 (jt (jE 1 (jl qI ‹"av"› ‹"ag"›))
 (j6 (jcb (jl dGt (ja 1) (eC (.int 0))) (jcb (jl dGe (jl jM (ja 0) (eC (.int 3))) (eC (.int 0))) (JY dLe dLe (eC (.int 0)) (jl jM (ja 0) (eC (.int 2))) (jl za (jl jM (ja 0) (eC (.int 3))) (ja 1)))))))))
def Qw:List D->Option D:=zb 1 2 jbf
def Z5:FS:=(j6 (jcb (QN "list" (ja 0)) (jh jdz (jc (jN (JV (qg (ja 0)) (jz 0) ‹"l"› (jh Qw (jc (jq 0) jj)) 1 [])) jj))))
def QC:List D->Option D:=zb 1 1 Z5
def JE:FS:=(zQ (J7 (qw (jh QC (jc (jq 0) jj))))
 (fun _=>.fail) jQ)
def zO:List D->Option D:=zb 1 1 JE
def jaJ:FS:=(jt (jE 1 (jN (JV (qg (ja 0)) (jz 0) ‹"l"› ‹"ag"› 1 [])))
 (jt (jE 2 (jN (JV (qg (ja 0)) (jz 0) ‹"l"› ‹"av"› 1 [])))
 (Jc (jft (jc (jN (jl jbU (ja 1) (ja 2))) jj)))))
def jck:List D->Option (List D):=J9 1 3 jaJ
def Qc:FS:=(jt (jE 1 (jN (jh jck (jc (jq 0) jj))))
 (Jc (eLZ (jc (ja 1) (jc (jN (eSl (ja 1) (pSo (eC (.int 1))) pNo)) jj)))))
def JA:List D->Option (List D):=J9 1 2 Qc
def jc3:FS:=(j6 (jl qI ‹"av"› ‹"ag"›))
def Q5:List D->Option D:=zb 1 1 jc3
def jgv:FS:=(jt (zQ (jat (qw (jl dLe ‹"ag"› (jl jM (ja 1) (eC (.int 0))))) (qw (jl dLe (jl jM (ja 1) (eC (.int 1))) ‹"av"›)))
 (j6 (jl za (jl jM (ja 0) (eC (.int 3))) (jh Q5 (jc (jq 1) jj)))) jQ)
 (j6 (eC (.int 0))))
def jbh:List D->Option D:=zb 2 2 jgv
def QE:FS:=(jt (zQ (bOr (J7 (qw (QN "list" (ja 2)))) (qw (jl dNe (jh qj (jc (ja 2) jj)) (jh qj (jc (ja 1) jj)))))
 (j6 (eC (.bl false))) jQ)
 (jt (zQ (J7 (qw (jh jdz (jc (jN (JV (qg (ja 2)) (jz 0) ‹"l"› (jh Jq (jc (jq 0) jj)) 1 [])) jj))))
 (j6 (eC (.bl false))) jQ)
 (jt (zQ (J7 (qw (jh jdz (jc (jN (JV (QX (jc (ja 1) (jc (ja 2) jj))) (Qa 2 ‹"aK"›) ‹"l"› (JY dLe dLe (eC (.int 0)) (ja 1) (jh jbh (jc (jq 2) (jc (jq 0) jj)))) 2 [0])) jj))))
 (j6 (eC (.bl false))) jQ)
 (j6 (jl dEq (jh jbP (jc (ja 2) jj)) (jl jM (ja 0) (eC (.int 2))))))))
def QD:List D->Option D:=zb 3 3 QE
def Zx:FS:=(jt (zQ (bOr (J7 (qw (QN "list" (ja 1)))) (qw (jl dNe (jh qj (jc (ja 1) jj)) (jh qj (jc (ja 0) jj)))))
 (j6 (eC (.bl false))) jQ)
 (jt (jE 2 (jN (jh JA (jc (jq 0) jj))))
 (j6 (jh jdz (jc (jN (JV (QX (jc (ja 0) (jc (ja 1) jj))) (Qa 2 (jZ (jz 0) (jZ (jz 1) Qi))) (fun _=>some true) (jh QD (jc (jq 0) (jc (jq 2) (jc (jq 1) jj)))) 2 [2])) jj)))))
def ja3:List D->Option D:=zb 2 3 Zx
def J2:FS:=(jt (Ze (jh zO (jc (jq 0) jj)))
 (zQ (J7 (qw (jh ja3 ‹"am"›)))
 (fun _=>.fail) jQ))
def zq:List D->Option D:=zb 2 2 J2
def QU:FS:=(jt (jE 1 (jN (jh JA (jc (jq 0) jj))))
 (Jc (JV (qg (ja 0)) (jz 0) (fun _=>some true) (jN (JV (qg (ja 1)) (jz 0) (fun _=>some true) (jh jbh (jc (jq 1) (jc (jq 0) jj))) 1 [0])) 1 [1])))
def Z4:List D->Option (List D):=J9 1 2 QU
def JQ:FS:=(Jc (JV (qg (jN (jh JA (jc (jq 0) jj)))) (jz 0) ‹"l"› (jh Q5 (jc (jq 0) jj)) 1 []))
def Jh:List D->Option (List D):=J9 1 1 JQ
def jen:FS:=(j6 (jh jbP (jc (jN (JV (qg (ja 0)) (jz 0) ‹"l"› (jl jM (ja 0) (ja 1)) 1 [1])) jj)))
def jb5:List D->Option D:=zb 2 2 jen
def jeq:FS:=(jt (zP (jeU (jc (jq 1) jj)) (Qa 2 (jZ (jz 4) (jZ (jz 5) Qi)))
 (zQ (jat (qw (jl dGt (jl jM (ja 5) (ja 2)) (eC (.int 0)))) (qw (jl dLt (jl jM (ja 5) (ja 3)) (jl jM (jl jM (ja 0) (ja 4)) (ja 3)))))
 (j6 (jq 4)) jQ))
 (j6 (eC .non)))
def QQ:List D->Option D:=zb 4 6 jeq
def jeJ:FS:=(jt (jhR 3 (jh jeS (jc (ja 2) jj)))
 (jt (zc 4 (jh jci (jc (ja 2) jj)))
 (jt (jE 5 (eC (.int 0)))
 (jt (QF (qw (jl dLt (ja 5) (jh qj (jc (ja 4) jj))))
 (jt (jE 6 (jl jM (ja 4) (ja 5)))
 (jt (zP (Jt (jc (jh qj (jc ‹"ag"› jj)) jj)) (jz 7)
 (jt (jE 8 (eIf (qw ‹"aN"›) (eC .non) ‹"V"›))
 (zQ (qw (jaA (ja 8)))
 (jt (jfs 3 (jq 7) (QP (jc (jq 8) (jc (jq 6) (jc (jq 7) jj)))))
 (zG 4 (jq 7))) jQ)))
 (jmg 5 (eC (.int 1)) (fun i j=>i+j)))))
 (jh9 3)))))
def jaF:List D->Option D:=zb 3 9 jeJ
def jcW:FS:=(jt (zc 2 (zH jj))
 (jt (jE 3 (jl jhu (ja 0) (ja 1)))
 (jt (QF (qw (jaA (ja 3)))
 (jt (zG 2 (jq 3))
 (jE 3 (jl jaT (ja 0) (jl jM (ja 3) (eC (.int 1)))))))
 (Jc (jh jgb (jc (ja 2) jj))))))
def Zk:List D->Option (List D):=J9 2 4 jcW
def jex:FS:=(jt (Ze (jh zq ‹"am"›))
 (jt (jE 2 (jN (jh Z4 (jc (jq 0) jj))))
 (jt (jE 3 (jN (jh Jh (jc (jq 0) jj))))
 (jt (jE 4 (jN (JV (Jt (jc (jh qj (jc (ja 3) jj)) jj)) (jz 0) ‹"l"› (jh jb5 (jc (jq 1) (jc (jq 0) jj))) 1 [1])))
 (jt (jE 5 (jN (JV (QX (jc (ja 4) (jc (ja 3) jj))) (Qa 2 ‹"aK"›) ‹"l"› (jl zy (ja 0) (ja 1)) 2 [])))
 (jt (jE 6 (jN (JV (QX (jc (ja 4) (jc (ja 3) jj))) (Qa 2 ‹"aK"›) ‹"l"› (jl zy (jl qI (jl qp (ja 0) (ja 1)) (eC (.int 1))) (ja 1)) 2 [])))
 (jt (zP (Jt (jc (jh qj (jc (ja 3) jj)) jj)) (jz 7)
 (jt (jE 8 (jh jaF (jc (jq 2) (jc (jq 1) (jc (jkx (jfX (jq 7) (eC .non))) jj)))))
 (jt (jE 9 (jN (JV (jcc (jq 8)) (jz 0) ‹"0"› (jq 0) 1 [6,7,5])))
 (zQ (qw (jl dNe (ja 9) (jN (zH jj))))
 (j6 (jN (jh Zk (jc (jq 8) (jc (jl jM (ja 9) (eC (.int 0))) jj))))) jQ))))
 (j6 (eC .non)))))))))
def jb1:List D->Option D:=zb 2 10 jex
def Qk:FS:=(Jc (JV (Jt ‹"aO"›) (jz 0) ‹"l"› ‹"a3"› 1 [1]))
def Jw:List D->Option (List D):=J9 2 2 Qk
def Jx:FS:=(j6 (jl zy (jl jM (ja 1) (ja 2)) ‹"aJ"›))
def Qj:List D->Option D:=zb 3 3 Jx
def Qd:FS:=(jt (jE 3 ‹"aJ"›)
 (j6 (jl zy (jl qI (jl qp (jl jM (ja 1) (ja 2)) (ja 3)) (eC (.int 1))) (ja 3))))
def Zi:List D->Option D:=zb 3 4 Qd
def jcS:FS:=(jt (jcd 3 (jky (qg (ja 0)) (jz 0) ‹"l"› (jh J4 (jc (ja 0) jj)) 1 []))
 (jt (zP (qg (jq 1)) (Qa 3 (jZ (jz 4) (jZ (jz 5) (jZ (jz 6) Qi))))
 (jt (zQ (qw (jaA (ja 5)))
 (jdh 3 (ja 4) (jq 5) (jq 2) (fun i j=>i-j)) jQ)
 (jdh 3 (ja 4) (jq 6) (jq 2) (fun i j=>i+j))))
 (jad 3 (j6 (jq 3)))))
def jay:List D->Option D:=zb 3 7 jcS
def jeA:FS:=(jt (Ze (jh zq ‹"am"›))
 (j6 (jh jay (jc (jq 1) (jc (jq 2) (jc (eC (.int 1)) jj))))))
def jbZ:List D->Option D:=zb 3 3 jeA
def Qm:FS:=(jt (jE 1 (jl qp (eC (.int 2)) (jl qu (ja 0) (eC (.int 7)))))
 (jt (jE 2 (jl qp (eC (.int 1)) (jl qu (jl zy (ja 0) (eC (.int 7))) (eC (.int 5)))))
 (jt (jE 3 (jl qp (eC (.int 1)) (jl qu (jl zy (ja 0) (eC (.int 35))) (jl QM (eC (.int 10)) (eC (.int 13))))))
 (jt (jE 4 (jl qp (jl qp (ja 2) (eC (.int 1))) (jl qu (jl zy (ja 0) (eC (.int 70))) (eC (.int 3)))))
 (jt (zc 5 (zH jj))
 (jt (zc 6 (zH jj))
 (jt (zP (Jt (jc (ja 1) jj)) (jz 7)
 (jt ‹"bh"›
 (jt ‹"aT"›
 (jt (zQ (qw (jl dEq (ja 7) (jl qI (ja 1) (eC (.int 1)))))
 (Q8 8 (jq 1) (jl za (jl qI (ja 2) (eC (.int 1))) (ja 3))) jQ)
 (jt ‹"v"›
 (jad 8 (zG 6 (jq 8))))))))
 (jt (zQ (qw (jl dEq (jl qu (jl zy (ja 0) (eC (.int 210))) (eC (.int 2))) (eC (.int 1))))
 (jt (zc 5 (JV (qg (ja 5)) (Qa 4 (jZ (jz 0) (jZ (jz 1) (jZ (jz 2) (jZ (jz 3) Qi))))) ‹"l"› ‹"aC"› 4 []))
 (zc 6 (JV (qg (ja 6)) (jz 0) (fun _=>some true) (jN (jh jgb (jc (ja 0) jj))) 1 []))) jQ)
 (jad 6 (jad 5 (j6 (QP (jc (jq 5) (jc (jq 6) jj))))))))))))))
def zI:List D->Option D:=zb 1 9 Qm
def JD:FS:=(Jc (JV (qg (ja 0)) (jz 0) ‹"l"› (jN (jh Jg ‹"am"›)) 1 [1]))
def JF:List D->Option (List D):=J9 2 2 JD
def zN:FS:=(jt (zQ (bOr (J7 (qw (QN "list" (ja 3)))) (qw (jl dEq (ja 3) (jN (zH jj)))))
 (j6 (eC (.bl false))) jQ)
 (jt (jE 4 (jN (jh JF ‹"am"›)))
 (jt (zc 5 (zH jj))
 (jt (zP (qg (jq 3)) (jz 6)
 (jt (zQ (bOr (J7 (qw (QN "tuple" (ja 6)))) (qw (jl dNe (jh qj (jc (ja 6) jj)) (eC (.int 3)))))
 (j6 (eC (.bl false))) jQ)
 (jt (zP (Q9 (jq 6)) (jz 7)
 (zQ ‹"L"›
 (j6 (eC (.bl false))) jQ))
 (jt (jdB (Qa 3 (jZ (jz 8) (jZ (jz 9) (jZ (jz 10) Qi)))) (jq 6))
 (jt (zQ ‹"4"›
 (j6 (eC (.bl false))) jQ)
 (jt (zQ ‹"U"›
 (j6 (eC (.bl false))) jQ)
 (jt (zQ (qw (jl dEq (ja 5) (jN (zH jj))))
 (zG 5 (jq 9)) jQ)
 (jt (zQ ‹"K"›
 (j6 (eC (.bl false))) jQ)
 (zG 5 (jq 10))))))))))
 (j6 (eC (.bl true)))))))
def JG:List D->Option D:=zb 4 11 zN
def JS:FS:=(jt (jE 3 (eC (.int 0)))
 (jt (jE 4 (jN (jh Jw ‹"am"›)))
 (jt (zP (Jt ‹"aO"›) (jz 5)
 (jE 3 (jl qp (ja 3) (jh jbB (jc (eC (.int 0)) (jc (jl qI (jl jM (ja 4) (ja 5)) (jl za (ja 2) (jl qI (jl jM (jl jM (ja 0) (ja 5)) (eC (.int 1))) (jl jM (jl jM (ja 0) (ja 5)) (eC (.int 0)))))) jj))))))
 (j6 (jq 3)))))
def qQ:List D->Option D:=zb 3 6 JS
def jht:FS:=(jt (jE 1 (jN (jh JN (jc (jq 0) (jc (eC (.int 3)) jj)))))
 (jt (jE 2 (jN (jh Zq (jc (jq 1) (jc (jN (jl jbU (jN (eSl (ja 0) (pSo (eC (.int 12))) (pSo (eC (.int 63))))) (jN (zH (jc (eC (.int 0)) jj))))) jj)))))
 (jt (zQ ‹"aS"›
 (jdB (Qa 2 (jZ (jz 1) (jZ (jz 2) Qi))) (jh zI (jc (jl zy (jh jT (jc (jq 0) (jc (eC (.int 2)) jj))) (eC (.int 3))) jj))) jQ)
 (jt (jE 3 (jN (jh JP (jc (jq 1) jj))))
 (jt (jE 4 (jh jb1 (jc (jN (jh J4 (jc (ja 1) jj))) (jc (jN (JV (qg (ja 2)) (jz 0) ‹"l"› (jN (jh J4 (jc (ja 0) jj))) 1 [])) jj))))
 (jt (zQ (qw (ji1 (ja 4)))
 (j6 (eC (.bl true))) jQ)
 (jt (zQ (J7 (qw (jh JG (jc (jq 1) (jc (jq 3) (jc (jq 2) (jc (jq 4) jj)))))))
 (j6 (eC (.bl false))) jQ)
 (jt (jE 5 (jN (jh Jw (jc (jq 3) (jc (jq 2) jj)))))
 (jt (jE 6 (jh Qj (jc (jq 3) (jc (jq 5) (jc (jl jM (jl jM (ja 4) (jcL (eC (.int 1)))) (eC (.int 2))) jj)))))
 (jt (jE 7 (jh Zi (jc (jq 3) (jc (jq 5) (jc (jl jM (jl jM (ja 4) (eC (.int 0))) (eC (.int 1))) jj)))))
 (jt (zQ (qw (jl dLt (ja 7) (jl qp (ja 6) (eC (.int 2)))))
 (j6 (eC (.bl false))) jQ)
 (jt (jE 8 (jh jbZ (jc (jN (jh J4 (jc (ja 1) jj))) (jc (jN (JV (qg (ja 2)) (jz 0) ‹"l"› (jN (jh J4 (jc (ja 0) jj))) 1 [])) (jc (jN (jh J4 (jc (ja 4) jj))) jj)))))
 (jt (jE 9 (jN (zH (jc (eC (.int 0)) (jc (jl qu (jh jT (jc (jq 0) (jc (eC (.int 0)) jj))) (jl QM (eC (.int 10)) (eC (.int 16)))) jj)))))
 (jt (zP (Jt (jc (jh qj (jc (ja 3) jj)) jj)) (jz 10)
 (jt (jE 11 (jl zy (jl jM (ja 5) (ja 10)) (jl qI (jl jM (jl jM (ja 3) (ja 10)) (eC (.int 1))) (jl jM (jl jM (ja 3) (ja 10)) (eC (.int 0))))))
 (jE 9 (jN (jl jbU (ja 9) (jN (zH (jc (jq 11) (jc (jl qp (ja 11) (eC (.int 1))) jj)))))))))
 (jt (zP (qg (jq 9)) (jz 12)
 (zQ (qw (jl dGt (jh qQ (jc (jq 3) (jc (jq 8) (jc (jq 12) jj)))) (jh qQ (jc (jq 3) (jc (jq 2) (jc (jq 12) jj))))))
 (j6 (eC (.bl false))) jQ))
 (jt (zQ (qw (jl dNe (jh qQ (jc (jq 3) (jc (jq 8) (jc (eC (.int 0)) jj)))) (jh qQ (jc (jq 3) (jc (jq 2) (jc (eC (.int 0)) jj))))))
 (j6 (eC (.bl false))) jQ)
 (jt (jE 12 (jl qp (jl qp (ja 6) (eC (.int 1))) (jl qu (jh jT (jc (jq 0) (jc (eC (.int 1)) jj))) (jl qI (jl qI (ja 7) (ja 6)) (eC (.int 1))))))
 (j6 (jl dEq (jh qQ (jc (jq 3) (jc (jq 8) (jc (jq 12) jj)))) (jl qI (jh qQ (jc (jq 3) (jc (jq 2) (jc (jq 12) jj)))) (eC (.int 1))))))))))))))))))))))
def jmL:List D->Option D:=zb 1 13 jht
local macro_rules | `(tactic| walk_at "ev") => `(tactic| simp (disch := omega) only [zb, J9, jdm, jbQ, qK, jt, zQ, jE, zc, j6, Jc, jbn, jQ, jdB, jad, frz, zG, jqc, Q8, jkY, Ze, jq, ja, eC, jl, jh, jj, jc, zH, QP, jN, qw, jat, bOr, J7, jcL, jiy, jcb, eOr, eIf, jz, Qi, jZ, Qa, ji1, jaA, jpU, jpC, qG, eSl, pSo, pNo,
 jI,jV,QO,Jl,j9,jK,jh8,jjV,jle,jg1,jgG,jaa,jaS,jaX,jc0,jki,jol,jqI,jpR,qj,j2,ZL,jbB,J4,jm9,dIs,jmT,JY,JI,zR,ja6,ja4,je4,jlc,jkh,jjA,QN,jbx,jc2,jbF,jbv,jbq,jbG,jaz,jbp,jaM,jaj,jav,jaE,jbu,jc5,jbN,jbO,jbz,jby,jak,jbs,jaN,jas,jag,jaG,ZW,jan,ZU,ZV,ZN,ZP,
 List.map_cons,yD,Yy,YZ,yw,yR,yU,Kq,Yg,Yn,Yz,Yv,Yd,Yi,Nat.reduceAdd,Nat.reduceSub,Nat.reduceLT,Nat.reduceLeDiff,yo,yy,reduceIte,YX,Bool.true_eq_false,Kp,Nat.add_zero,KI,Nat.reduceEqDiff,KY,Kn,Bool.not_true,Bool.not_false,Int.reduceEq,Int.reduceLT,Int.reduceLE,Int.reduceNeg,Int.reduceSub,Int.reduceAdd,Int.reduceMul,Int.cast_ofNat_Int,Int.natCast_zero,Int.natCast_one])
local macro_rules | `(tactic| walk_at "evh") => `(tactic| simp (disch := omega) only [*, zb, J9, jdm, jbQ, qK, jt, zQ, jE, zc, j6, Jc, jbn, jQ, jdB, jad, frz, zG, jqc, Q8, jkY, Ze, jq, ja, eC, jl, jh, jj, jc, zH, QP, jN, qw, jat, bOr, J7, jcL, jiy, jcb, eOr, eIf, jz, Qi, jZ, Qa, ji1, jaA, jpU, jpC, qG, eSl, pSo, pNo,
 jI,jV,QO,Jl,j9,jK,jh8,jjV,jle,jg1,jgG,jaa,jaS,jaX,jc0,jki,jol,jqI,jpR,qj,j2,ZL,jbB,J4,jm9,dIs,jmT,JY,JI,zR,ja6,ja4,je4,jlc,jkh,jjA,QN,jbx,jc2,jbF,jbv,jbq,jbG,jaz,jbp,jaM,jaj,jav,jaE,jbu,jc5,jbN,jbO,jbz,jby,jak,jbs,jaN,jas,jag,jaG,ZW,jan,ZU,ZV,ZN,ZP,
 List.map_cons,yD,Yy,YZ,yw,yR,yU,Kq,Yg,Yn,Yz,Yv,Yd,Yi,Nat.reduceAdd,Nat.reduceSub,Nat.reduceLT,Nat.reduceLeDiff,yo,yy,reduceIte,YX,Bool.true_eq_false,Kp,Nat.add_zero,KI,Nat.reduceEqDiff,KY,Kn,Bool.not_true,Bool.not_false,Int.reduceEq,Int.reduceLT,Int.reduceLE,Int.reduceNeg,Int.reduceSub,Int.reduceAdd,Int.reduceMul,Int.cast_ofNat_Int,Int.natCast_zero,Int.natCast_one])
def cell (ns:List Int) (k:Int):Int:=ns.getD k.toNat 0
theorem Zf {l:List D}:qj [.lst l]=some (.int (l.length:Int)):=rfl
theorem jns {l:List Int}:qj [.scr l]=some (.int (l.length:Int)):=rfl
theorem jbe (ns:List Int) (k:Int) (h:0<=k):jT [.scr ns,.int k]=some (.int (cell ns k)):=by
 unfold jT J3;simp (disch:=omega) only [zb,Yy,YZ,Kp,Nat.reduceAdd,jdm,jt,zQ,qw,jl,ja,qK,List.map_cons,yD,KI,yR,yU,Kq,Yn,Yg,jh,jc,jj,Yi,Yd,jns,jaa,j6,jQ,eC,yo];by_cases hk:k<ns.length
 . have e:jM (.scr ns) (.int k)=some (.int (cell ns k)):=by
    show (atI ns k).map D.int=_;unfold atI ixN;rw [if_pos h,if_pos hk];have hi:k.toNat<ns.length:=by omega
    simp [cell,hi,Ye]
   simp only [hk,KY,e]
 . have e:cell ns k=0:=by unfold cell;rw [Ye,YF (by omega)];rfl
   simp only [hk,Kn,e]
def ji (s:Ship):D:=.tup [.int s.b,.int s.e,.int s.n,.int s.m]
theorem jd7 {ns:List Int} {i:Int} (h0:0<=i) (h1:i<ns.length):∃m,m∈ns/\jM (.lst (ns.map D.int)) (.int i)=some (.int m):=by obtain ⟨d,hd,e⟩:=jqV (ds:=ns.map D.int) h0 (by rw [Yc];exact h1);obtain ⟨m,hm,rfl⟩:=Y3.mp hd;exact ⟨m,hm,e⟩
theorem jnp {f x:Int} (h0:0<=f) (h1:0<=x) (h2:x<=16):0<=f*x/16/\f*x/16<=f:=by have a:0<=f*x:=yz h0 h1;have b:f*x<=f*16:=Int.mul_le_mul_of_nonneg_left h2 h0;omega
section
variable {β:Type} {ρ:ee}
theorem jx {f:List D->Option β} {fa:ee->Option (List D)} {ds:List D} {x:β} (ha:fa ρ=some ds) (h:f ds=some x):jh f fa ρ=some x:=by unfold jh;rw [ha];exact h
theorem jn {g:D->D->Option β} {fa fb:ee->Option D} {x y:D} {z:β} (h1:fa ρ=some x) (h2:fb ρ=some y) (h3:g x y=some z):jl g fa fb ρ=some z:=by unfold jl;rw [h1,h2];exact h3
theorem qx {fe:ee->Option D} {i:Nat} {d:D} (h:fe ρ=some d):jE i fe ρ=.next (ρ.set i (.sh d)):=by unfold jE;rw [h]
theorem Je {fo:ee->Option (List D)} {l:List D} (h:fo ρ=some l):jN fo ρ=some (.lst l):=by unfold jN;rw [h];rfl
theorem jy {fa:ee->Option D} {fs:ee->Option (List D)} {d:D} {ds:List D} (h1:fa ρ=some d) (h2:fs ρ=some ds):jc fa fs ρ=some (d::ds):=by unfold jc;rw [h1,h2];rfl
theorem jL {fa:ee->Option D} {b:Bool} (h:fa ρ=some (.bl b)):qw fa ρ=some b:=by unfold qw;rw [h]
theorem qH {fc:ee->Option Bool} {F:FS} (h:fc ρ=some false):zQ fc F jQ ρ=.next ρ:=by unfold zQ;rw [h];rfl
theorem ZS {fc:ee->Option Bool} {F F':FS} (h:fc ρ=some true):zQ fc F F' ρ=F ρ:=by unfold zQ;rw [h]
theorem Zc {ga gb:ee->Option Bool} {b:Bool} (h:ga ρ=some false) (h2:gb ρ=some b):bOr ga gb ρ=some b:=by unfold bOr;rw [h];exact h2
theorem QW {ga:ee->Option Bool} {b:Bool} (h:ga ρ=some b):J7 ga ρ=some (!b):=by unfold J7;rw [h];rfl
theorem JX {fe:ee->Option D} {d:D} (h:fe ρ=some d):j6 fe ρ=.ret d:=by unfold j6;rw [h]
theorem jg2 {fa fb:ee->Option D} {d:D} (h:fa ρ=some (.bl true)) (h2:fb ρ=some d):jcb fa fb ρ=some d:=by unfold jcb;rw [jL h];exact h2
theorem jf0 {i j:Int} (h:i=j):dEq (.int i) (.int j)=some (.bl true):=by rw [jki,Y8 h]
theorem ji6 {i j:Int} (h:i=j):dNe (.int i) (.int j)=some (.bl false):=by rw [jol,Y8 h];rfl
theorem jkm {i j:Int} (h:j<=i):dLt (.int i) (.int j)=some (.bl false):=by rw [jaa,Y6 (by omega)]
theorem jqs {i j:Int} (h:i<=j):dGt (.int i) (.int j)=some (.bl false):=by rw [jaX,Y6 (by omega)]
theorem Qp {C:Res->Prop} {F:FS} {r:Res} (h:F ρ=r) (k:C r):C (F ρ):=by rw [h];exact k
theorem qf {F F':FS} {ρ':ee} (h:F ρ=.next ρ'):jt F F' ρ=F' ρ':=by unfold jt;rw [h]
theorem jh3 {ga gb:ee->Option Bool} {b c:Bool} (h:ga ρ=some b) (h2:gb ρ=some c):jat ga gb ρ=some (b && c):=by unfold jat;rw [h];cases b <;> simp [h2]
theorem jm4 {fc:ee->Option Bool} {F F':FS} {b:Bool} (h:fc ρ=some b):zQ fc F F' ρ=if b=true then F ρ else F' ρ:=by unfold zQ;rw [h];cases b <;> rfl
theorem jbr {i j:Int} (h:¬i=j):dEq (.int i) (.int j)=some (.bl false):=by rw [jki,Y6 h]
theorem jfk {fs:ee->Option (List D)} {l:List D} (h:fs ρ=some l) (h2:l.length<16777216):zH fs ρ=some l:=by unfold zH;rw [h];show (if Jm l.length=true then _ else _)=_;rw [if_pos (j2 h2)]
theorem jf8 {fs:ee->Option (List D)} {l:List D} (h:fs ρ=some l) (h2:l.length<16777216):QP fs ρ=some (.tup l):=by unfold QP;rw [h];show (if Jm l.length=true then _ else _)=_;rw [if_pos (j2 h2)]
end
theorem jfU {ρ:ee} {i:Nat} {fa:ee->Option D} {ds:List D} {d:D} (h:ρ[i]?=some (.ow ds)) (hf:fa ρ=some d) (hs:ds.length<16777216):zG i fa ρ=.next (ρ.set i (.ow (ds++[d]))):=by unfold zG;rw [h,hf];show (if Jm ds.length=true then _ else _)=_;rw [if_pos (j2 hs)]
theorem Jd {a n:Nat} {m:FS} {ds:List D} {ρ:ee} {d:D} (h1:ds.length=a) (h2:qK n ds=ρ) (h:∀C:Res->Prop,C (.ret d)->C (m ρ)):zb a n m ds=some d:=by unfold zb;rw [if_pos h1,h2];exact h (fun r=>jdm r=some d) rfl
theorem jF {C:Res->Prop} {F F':FS} {ρ:ee} (ρ':ee) (h:F ρ=.next ρ') (k:C (F' ρ')):C (jt F F' ρ):=by unfold jt;rw [h];exact k
structure Ok0 (s:Ship):Prop where
 ok:s.Ok
 long:s.e-s.b<=214748362800001
 lo:-100000000000000<=s.b
 hi:s.b<=114748364600000
theorem zF (x:Int) {k:Int} (h:0<k):0<=x%k/\x%k<k:=⟨yF _ (Int.ne_of_gt h),yq _ h⟩
theorem jmj (one two kind:Int):∃s:Ship,Ok0 s/\Jb [.int one,.int two,.int kind]=some (ji s):=by
 have key:∃b e:Int,b<e/\e-b<=214748362800001 /\ -100000000000000<=b/\b<=114748364600000/\∀R:FS,
  (jt (jE 3 (jl qI (jl qu (ja 0) (eC (.int 6))) (eC (.int 2)))) (jt ‹"aL"› (jt (zQ (qw (jl dEq (ja 2) (eC (.int 1))))
  (jt (jE 3 (jl qI (jl qu (ja 0) (eC (.int 50))) (eC (.int 25))))
  (jE 4 (jl qp (jl qp (ja 3) (eC (.int 1))) (jl qu (jl zy (ja 0) (eC (.int 50))) (eC (.int 40)))))) jQ)
  (jt (zQ (qw (jl dEq (ja 2) (eC (.int 2))))
  (jt ‹"T"›
  (jE 4 (jl qp (jl qp (ja 3) (eC (.int 1))) (jl za (jl qu (jl za (ja 0) (eC (.int 1664525013))) (eC (.int 2147483629))) (jl QM (eC (.int 10)) (eC (.int 5))))))) jQ) R))))
    [.sh (.int one),.sh (.int two),.sh (.int kind),.un,.un,.un,.un,.un,.un]=R [.sh (.int one),.sh (.int two),.sh (.int kind),.sh (.int b),.sh (.int e),.un,.un,.un,.un]:=by
  have b50:=zF one (show (0:Int)<50 by decide);have b40:=zF (one/50) (show (0:Int)<40 by decide);have b6:=zF one (show (0:Int)<6 by decide);have b5:=zF (one/6) (show (0:Int)<5 by decide);have bx:=zF (one*1103515245) (show (0:Int)<2147483647 by decide);have by':=zF (one*1664525013) (show (0:Int)<2147483629 by decide)
  by_cases h1:kind=1
  . clear b6 b5 bx by'
    refine ⟨one%50-25,one%50-25+1+one/50%40,?_,?_,?_,?_,fun R=>
      (qf (qx (jn ‹"R"› rfl jV))).trans ((qf ‹"be"›).trans
      ((qf ((ZS (jL (jn rfl rfl (jf0 h1)))).trans ((qf (qx (jn ‹"R"› rfl jV))).trans ‹"be"›))).trans
      (qf (qH (jL (jn rfl rfl (jbr (by omega))))))))⟩
    all_goals (generalize one%50=u at *;generalize one/50%40=v at *;omega)
  . by_cases h2:kind=2
    . clear b6 b5 b50 b40;refine ⟨(one*1103515245%2147483647-1000000000)*100000,(one*1103515245%2147483647-1000000000)*100000+1+one*1664525013%2147483629*100000,?_,?_,?_,?_,fun R=>
       (qf (qx (jn ‹"R"› rfl jV))).trans ((qf ‹"be"›).trans
       ((qf (qH (jL (jn rfl rfl (jbr h1))))).trans
       (qf ((ZS (jL (jn rfl rfl (jf0 h2)))).trans ((qf (qx (jn (jn (jn (jn rfl rfl (Jl (by decide) (by decide))) rfl (jK (by decide))) (jn rfl rfl jjV) jV) (jn rfl rfl jh8) (Jl (by decide) (by decide))))).trans (qx (jn (jn rfl rfl jI) (jn (jn (jn rfl rfl (Jl (by decide) (by decide))) rfl (jK (by decide))) (jn rfl rfl jh8) (Jl (by decide) (by decide))) jI)))))))⟩
      all_goals (generalize one*1103515245%2147483647=u at *;generalize one*1664525013%2147483629=v at *;omega)
    . clear bx by' b50 b40
      refine ⟨one%6-2,one%6-2+1+one/6%5,?_,?_,?_,?_,fun R=>
       (qf (qx (jn ‹"R"› rfl jV))).trans ((qf ‹"be"›).trans
       ((qf (qH (jL (jn rfl rfl (jbr h1))))).trans (qf (qH (jL (jn rfl rfl (jbr h2)))))))⟩
      all_goals (generalize one%6=u at *;generalize one/6%5=v at *;omega)
 obtain ⟨b,e,h1,h2,h3,h4,hk⟩:=key;obtain ⟨m,hm,em⟩:=jd7 (ns:=[2,1,3,5,1000000000000000,1+two/8%50,0,4]) (i:=two%8) (zF two (show (0:Int)<8 by decide)).1 (zF two (show (0:Int)<8 by decide)).2;have m01:0<=m/\m<=1000000000000000:=by
  have:=zF (two/8) (show (0:Int)<50 by decide);simp only [Yq,YJ,Ku] at hm;generalize two/8%50=u at *
  clear hk h1 h2 h3 h4 em;rcases hm with rfl | rfl | rfl | rfl | rfl | rfl | rfl | rfl
  . exact ⟨by decide,by decide⟩
  . exact ⟨by decide,by decide⟩
  . exact ⟨by decide,by decide⟩
  . exact ⟨by decide,by decide⟩
  . exact ⟨by decide,by decide⟩
  . omega
  . exact ⟨by decide,by decide⟩
  . exact ⟨by decide,by decide⟩
 clear hm;obtain ⟨m0,m1⟩:=m01;have full0:0<=m*(e-b):=yz m0 (by omega);obtain ⟨x,hx,hx0⟩:∃x,two*1103515245%2147483647=x/\0<=x:=⟨_,rfl,(zF _ (by decide)).1⟩;obtain ⟨f,hf⟩:∃f,m*(e-b)=f:=⟨_,rfl⟩;rw [hf] at full0;obtain ⟨n,hn,en⟩:=jd7 (ns:=[f*(x%17)/16,x%(f+1),if x%9<f then x%9 else f,f]) (i:=x/17%4) (zF (x/17) (show (0:Int)<4 by decide)).1 (zF (x/17) (show (0:Int)<4 by decide)).2;have n01:0<=n/\n<=f:=by
  have a1:=jnp full0 (x:=x%17) (zF x (by decide)).1 (Int.le_of_lt_add_one (zF x (show (0:Int)<17 by decide)).2);have a2:0<=x%(f+1):=yF _ (by omega);have a3:x%(f+1)<f+1:=yq _ (by omega);simp only [Yq,YJ,Ku] at hn;rcases hn with rfl | rfl | rfl | rfl
  . exact a1
  . omega
  . split <;> omega
  . omega
 clear hn;refine ⟨⟨b,e,n,m⟩,⟨⟨h1,by show e-b<=_;omega,by show _<=b;omega,by show b<=_;omega,m0,m1,n01.1,by show n<=m*(e-b);rw [hf];exact n01.2⟩,h2,h3,h4⟩,?_⟩;unfold Jb;refine Jd (ρ:=[.sh (.int one),.sh (.int two),.sh (.int kind),.un,.un,.un,.un,.un,.un]) rfl rfl fun C fin=>?_;unfold Q4;rw [hk];refine jF [.sh (.int one),.sh (.int two),.sh (.int kind),.sh (.int b),.sh (.int e),.sh (.int m),.un,.un,.un] (qx (jn (Je (jfk (jy rfl (jy rfl (jy rfl (jy rfl (jy (jn rfl rfl jg1) (jy (jn rfl ‹"c"› jI) (jy rfl (jy rfl rfl)))))))) (show 8<16777216 by decide))) ‹"R"› em)) ?_;refine jF [.sh (.int one),.sh (.int two),.sh (.int kind),.sh (.int b),.sh (.int e),.sh (.int m),.sh (.int x),.un,.un] (hx ▸ qx (jn (jn rfl rfl (Jl (by decide) (by decide))) rfl (jK (by decide)))) ?_;refine jF [.sh (.int one),.sh (.int two),.sh (.int kind),.sh (.int b),.sh (.int e),.sh (.int m),.sh (.int x),.sh (.int f),.un] (hf ▸ qx (jn rfl (jn rfl rfl jV) (QO (by omega) (by omega)))) ?_;refine jF [.sh (.int one),.sh (.int two),.sh (.int kind),.sh (.int b),.sh (.int e),.sh (.int m),.sh (.int x),.sh (.int f),.sh (.int n)] (qx (jn (Je (jfk (jy (jn (jn rfl ‹"R"› (Jl (Int.lt_of_lt_of_le (by decide) (zF x (show (0:Int)<17 by decide)).1) (K2 (zF x (show (0:Int)<17 by decide)).2 (by decide)))) rfl (j9 (by decide) (by decide))) (jy (jn rfl (jn rfl rfl jI) (jK (by omega))) (jy (jx (jy rfl (jy ‹"R"› rfl)) rfl) (jy rfl rfl)))) (show 4<16777216 by decide))) ‹"c"› en)) ?_;exact Qp (JX (jf8 (l:=[.int b,.int e,.int n,.int m]) (jy rfl (jy rfl (jy rfl (jy rfl rfl)))) (show 4<16777216 by decide))) fin
theorem jnH (one two kind:Int):∃s:Ship,s.Ok/\Jb [.int one,.int two,.int kind]=some (ji s):=let ⟨s,h,e⟩:=jmj one two kind;⟨s,h.ok,e⟩
theorem jie {m:D->ee->Option ee} {B:FS} (P:List D->ee->Prop) (hs:∀d ds ρ,P (d::ds) ρ->∃ρ1 ρ2,m d ρ=some ρ1/\B ρ1=.next ρ2/\P ds ρ2):∀(ds:List D) (ρ:ee),P ds ρ->∃ρ',Qn m B ds ρ=.next ρ'/\P [] ρ'
 | [],ρ,h=>⟨ρ,rfl,h⟩
 | d::ds,ρ,h=>by obtain ⟨ρ1,ρ2,h1,h2,h3⟩:=hs d ds ρ h;obtain ⟨ρ',h4,h5⟩:=jie P hs ds ρ2 h3;exact ⟨ρ',by simp only [Qn,h1,h2];exact h4,h5⟩
theorem jmK {C:Res->Prop} {F F':FS} {ρ:ee} {d:D} (h:F ρ=.ret d) (k:C (.ret d)):C (jt F F' ρ):=by unfold jt;rw [h];exact k
theorem jcl {C:Res->Prop} {fi:ee->Option (List D)} {m:D->ee->Option ee} {B F':FS} {ρ:ee} (ds:List D) (P:List D->ee->Prop) (hi:fi ρ=some ds) (h0:P ds ρ)
 (hs:∀d ds ρ,P (d::ds) ρ->∃ρ1 ρ2,m d ρ=some ρ1/\B ρ1=.next ρ2/\P ds ρ2) (k:∀ρ',P [] ρ'->C (F' ρ')):C (jt (zP fi m B) F' ρ):=by
 obtain ⟨ρ',h1,h2⟩:=jie P hs ds ρ h0;exact jF ρ' (by unfold zP;rw [hi];exact h1) (k ρ' h2)
theorem zJ (lo:Int) (n:Nat):rng lo (n+1)=.int lo::rng (lo+1) n:=by unfold rng;rw [KU,List.map_cons,YL];simp only [Int.natCast_zero,kn,List.cons.injEq,true_and];refine Kh fun i _=>?_;simp only [Function.comp,Nat.succ_eq_add_one,Int.natCast_add,Int.natCast_one,D.int.injEq];omega
theorem Jk {fa:ee->Option (List D)} {ρ:ee} {j:Int} (h:fa ρ=some [.int j]) (h0:0<=j) (h1:j<4611686018427387904):Jt fa ρ=some (rng 0 j.toNat):=by unfold Jt;rw [h];simp only;rw [if_pos ⟨by omega,by omega⟩]
theorem jkI {Pr:Ship->Prop} (hP:∀one two kind:Int,∃s:Ship,Pr s/\Jb [.int one,.int two,.int kind]=some (ji s)) (ns:List Int) (st:Int) (h0:0<=st):∃fl:List Ship,(∀s∈fl,Pr s)/\fl.length<=4/\JN [.scr ns,.int st]=some (fl.map ji):=by
 suffices main:∀C:Res->Prop,(∀fl:List Ship,(∀s∈fl,Pr s)->fl.length<=4->C (.retO (fl.map ji)))->C (JL [.sh (.scr ns),.sh (.int st),.un,.un,.un,.un]) by exact main (fun r=>∃fl:List Ship,(∀s∈fl,Pr s)/\fl.length<=4/\jbQ r=some (fl.map ji)) fun fl h1 h2=>⟨fl,h1,h2,rfl⟩
 intro C fin;unfold JL;have ec:=jbe ns st h0;generalize cell ns st=c at ec;refine jF [.sh (.scr ns),.sh (.int st),.sh (.int c),.un,.un,.un] (qx (jx rfl ec)) ?_;refine jF [.sh (.scr ns),.sh (.int st),.sh (.int c),.ow [],.un,.un] rfl ?_;obtain ⟨n,hn,en⟩:=jd7 (ns:=[3,4,2,4,1,3,0,4]) (i:=c%8) (by omega) (by show c%8<8;omega);have n01:0<=n/\n<=4:=by simp only [Yq,YJ,Ku] at hn;omega
 clear hn;refine jcl (rng 0 n.toNat) (fun ds ρ=>∃(fl:List Ship) (k:Nat) (lo:Int) (x y:Slot),ds=rng lo k/\0<=lo/\fl.length+k<=4/\(∀s∈fl,Pr s)/\ρ=‹"aj"›)
  (Jk (jy (jn (Je (jfk (l:=[3,4,2,4,1,3,0,4].map D.int) rfl (show 8<16777216 by decide))) ‹"R"› en) rfl) n01.1 (by omega)) ⟨[],n.toNat,0,.un,.un,rfl,by omega,by simp;omega,by simp,rfl⟩ ?_ ?_
 . rintro d ds ρ ⟨fl,k,lo,x,y,hd,hlo,hl,hok,rfl⟩;cases k with
   | zero=>cases hd
   | succ k=>
     rw [zJ] at hd;cases hd;obtain ⟨s,hs,es⟩:=hP (cell ns (st+1+2*lo)) (cell ns (st+2+2*lo)) (c/8%3);refine ⟨_,[.sh (.scr ns),.sh (.int st),.sh (.int c),.ow ((fl++[s]).map ji),.sh (.int lo),.sh (.int (cell ns (st+1+2*lo)))],rfl,?_,⟨fl++[s],k,lo+1,_,_,rfl,by omega,by simp;omega,fun s' h'=>?_,rfl⟩⟩
     . rw [YO];exact (qf (qx (jx (jy rfl (jy (jn (jn rfl rfl jI) (jn rfl rfl (QO (by decide) (by decide))) jI) rfl)) (jbe ns (st+1+2*lo) (by omega))))).trans (jfU (ds:=fl.map ji) rfl (jx (jy rfl (jy (jx (jy rfl (jy (jn (jn rfl rfl jI) (jn rfl rfl (QO (by decide) (by decide))) jI) rfl)) (jbe ns (st+2+2*lo) (by omega))) (jy ‹"c"› rfl))) es) (by rw [Yc];omega))
     . rcases Y7.mp h' with h' | h'
       . exact hok s' h'
       . rw [YN.mp h'];exact hs
 . rintro ρ ⟨fl,k,lo,x,y,hd,hlo,hl,hok,rfl⟩;have hk:k=0:=by
    cases k with
    | zero=>rfl
    | succ k=>rw [zJ] at hd;cases hd
   subst hk;have el:qj [.lst (fl.map ji)]=some (.int (fl.length:Int)):=by show some (D.int ((fl.map ji).length:Int))=_;rw [Yc]
   have hif:∀(ρ:ee) (F:FS),ρ=‹"aj"›->zQ ‹"7"› F jQ ρ=if (decide (1<(fl.length:Int)) && decide (c/24%4=1))=true then F ρ else jQ ρ:=fun ρ F hρ=>by subst hρ;exact jm4 (jh3 (jL (jn (jx rfl el) rfl jaX)) (jL (jn ‹"c"› rfl jki)))
   by_cases hb:1<(fl.length:Int)/\c/24%4=1
   . cases fl with
     | nil=>simp at hb
     | cons s fl=>
       rw [Yy] at hb;refine jF [.sh (.scr ns),.sh (.int st),.sh (.int c),.ow (((s::fl).set fl.length s).map ji),x,y] ?_ ?_
       . have e0:jM (.lst (ji s::fl.map ji)) (.int 0)=some (ji s):=jab (by decide) rfl;have e1:ixN (fl.length+1) (-1)=some fl.length:=by unfold ixN;rw [if_neg (by decide),if_pos (by omega)];congr 1;omega
         rw [hif _ _ rfl,if_pos (by rw [Y8 (by rw [Yy];exact hb.1),Y8 hb.2];rfl)];simp (disch:=omega) only [jl,ja,List.map_cons,Yn,Yg,Yd,Yy,eC,Q8,jcL,Int.reduceNeg,Yv,Yz];simp only [Yy,Yc,e0,e1,KJ,List.map_cons]
       . refine fin ((s::fl).set fl.length s) (fun s' h'=>?_) (by simpa using hl);rcases List.mem_or_eq_of_mem_set h' with h' | h'
         . exact hok s' h'
         . rw [h'];exact hok s Yf
   . refine jF ‹"aj"› ?_ (fin fl hok (by omega));rw [hif _ _ rfl,if_neg (fun q=>hb ⟨Ka (Bool.and_eq_true_iff.mp q).1,Ka (Bool.and_eq_true_iff.mp q).2⟩)];rfl
theorem jmm (ns:List Int) (st:Int) (h0:0<=st):∃fl:List Ship,(∀s∈fl,s.Ok)/\fl.length<=4/\JN [.scr ns,.int st]=some (fl.map ji):=jkI jnH ns st h0
theorem jgX {m:D->ee->Option ee} {ft:ee->Option Bool} {fe:ee->Option D} {ρ:ee} (g:D->D):∀(ds:List D),(∀d∈ds,∃ρ1,m d ρ=some ρ1/\ft ρ1=some true/\fe ρ1=some (g d))->Q3 m ft fe ρ ds=some (ds.map g)
 | [],_=>rfl
 | d::ds,h=>by obtain ⟨ρ1,h1,h2,h3⟩:=h d Yf;simp only [Q3,h1,h2,h3,Yd,yo,jgX g ds fun x hx=>h x (Yj _ hx),Yi,List.map_cons]
theorem jd5 {m:D->ee->Option ee} {ft:ee->Option Bool} {fe:ee->Option D} {ρ:ee} (p:D->Bool) (g:D->D):∀(ds:List D),(∀d∈ds,∃ρ1,m d ρ=some ρ1/\ft ρ1=some (p d)/\(p d=true->fe ρ1=some (g d)))->Q3 m ft fe ρ ds=some ((ds.filter p).map g)
 | [],_=>rfl
 | d::ds,h=>by
   obtain ⟨ρ1,h1,h2,h3⟩:=h d Yf;have ih:=jd5 p g ds fun x hx=>h x (Yj _ hx);cases hp:p d with
   | true=>simp only [Q3,h1,h2,hp,h3 hp,Yd,yo,ih,Yi,yg,List.map_cons]
   | false=>simp only [Q3,h1,h2,hp,Yd,YX,yy,ih,yg]
theorem qV {fi:ee->Option (List D)} {m:D->ee->Option ee} {ft:ee->Option Bool} {fe:ee->Option D} {n:Nat} {ix:List Nat} {ρ:ee} {ds es:List D} (h1:fi ρ=some ds) (h2:ds.length<16777216) (h3:Q3 m ft fe (Jr n ix ρ) ds=some es):JV fi m ft fe n ix ρ=some es:=by unfold JV;rw [h1,Yd,if_pos (j2 h2),h3]
theorem jer (bs:List Bool):jdz [.lst (bs.map D.bl)]=some (.bl (bs.all id)):=by show ((jfx (bs.map D.bl)).map fun ns=>D.bl (ns.all id))=_;rw [jaw];rfl
theorem jb2 (bs:List Int):jbP [.lst (bs.map D.int)]=some (.int bs.sum):=by show ((jaL (bs.map D.int)).map fun ns=>D.int ns.sum)=_;rw [Zz];rfl
theorem jkt {fe:ee->Option D} {ρ:ee} {l:List D} (h:fe ρ=some (.tup l)):Q9 fe ρ=some l:=by unfold Q9;rw [h]
theorem qF {fe:ee->Option D} {ρ:ee} {l:List D} (h:fe ρ=some (.lst l)):qg fe ρ=some l:=by unfold qg;rw [h]
def plain:Nat->D->Prop
 | n+1,.lst l=>∀d∈l,plain n d
 | n+1,.tup l=>∀d∈l,plain n d
 | _,.lst _=>False
 | _,.tup _=>False
 | _,.scr _=>False
 | _,.dic _ _=>False
 | _,_=>True
theorem je0 {l:List D}:dEq (.lst l) (.lst [])=some (.bl l.isEmpty):=by show (eqF 40 (.lst l) (.lst [])).map D.bl=_;cases l <;> rfl
theorem jeE {α:Type} {f:α->D} {l:List α} {k:Int} {a:α} (h0:0<=k) (h:l[k.toNat]?=some a):jM (.lst (l.map f)) (.int k)=some (f a):=jab h0 (by rw [List.getElem?_map,h];rfl)
def ju (p:Int×Int):D:=.tup [.int p.1,.int p.2]
theorem jhU (k:Int):∀l:List Int,(ins k l).length<=l.length+1
 | []=>by simp [ins]
 | x::l=>by
   have:=jhU k l;unfold ins;split
   . simp
   . split
     . simp
     . simp;omega
theorem jh1:∀l:List Int,(srt l).length<=l.length
 | []=>by simp [srt]
 | x::l=>by have h1:=jh1 l;have h2:=jhU x (srt l);show (ins x (srt l)).length<=l.length+1;omega
theorem jcU (fl:List Ship):(J8 fl).length<=2*fl.length:=by have:=jh1 (hrs fl);unfold J8;simp [hrs] at this ⊢;omega
theorem ZC {fl:List Ship} (k:Int) (g:Ship->Int) (hg:∀s,jM (ji s) (.int k)=some (.int (g s))) (ρ:ee) (i:Nat) (hi:ja i ρ=some ‹"d"›) (hl:fl.length<1000) :
 JV (qg (ja i)) (jz 0) ‹"l"› (jl jM (ja 0) (eC (.int k))) 1 [] ρ=some ((fl.map g).map D.int):=by
 refine qV (qF hi) (by rw [Yc];omega) ?_;rw [jgX (fun d=>match jM d (.int k) with | some x=>x | none=>.non) _ fun d hd=>?_]
 . rw [YL,YL];congr 1;refine Kh fun s _=>?_;show (match jM (ji s) (.int k) with | some x=>x | none=>D.non)=_;rw [hg s];rfl
 . obtain ⟨s,_,rfl⟩:=Y3.mp hd;refine ⟨[.sh (ji s)],rfl,rfl,?_⟩;show jM (ji s) (.int k)=_;rw [hg s]
theorem jfq (fl:List Ship) (hl:fl.length<20):jck [.lst (fl.map ji)]=some ((J8 fl).map D.int):=by
 suffices main:∀C:Res->Prop,C (.retO ((J8 fl).map D.int))->C (jaJ [.sh ‹"d"›,.un,.un]) by exact main (fun r=>jbQ r=some ((J8 fl).map D.int)) rfl
 intro C fin;unfold jaJ;refine jF [.sh ‹"d"›,.sh (.lst ((fl.map (·.b)).map D.int)),.un] (by unfold jE jN;rw [ZC 0 (·.b) (fun s=>JI) _ 0 rfl (by omega)];rfl) ?_
 refine jF [.sh ‹"d"›,.sh (.lst ((fl.map (·.b)).map D.int)),.sh (.lst ((fl.map (·.e)).map D.int))] (by unfold jE jN;rw [ZC 1 (·.e) (fun s=>zR) _ 0 rfl (by omega)];rfl) ?_
 have last:∀r,r=Res.retO ((J8 fl).map D.int)->C r:=fun r h=>by rw [h];exact fin
 refine last _ ?_;have hcat:jbU (.lst ((fl.map (·.b)).map D.int)) (.lst ((fl.map (·.e)).map D.int))=some ((hrs fl).map D.int):=by show (if _ then some _ else none)=_;rw [if_pos (by simp only [Yc];show fl.length+fl.length<=2 ^ 24;omega),<- YO];rfl
 unfold Jc jft;simp (disch:=omega) only [jc,jN,jl,ja,Yn,Yg,Yd,jj,Yi];rw [hcat];simp (disch:=omega) only [Yi,Yd];rw [Zz,Yd,if_pos (by simp [hrs];omega)];rfl
theorem jkT {l:List D}:L2.jew l (some 1) none=l.tail:=by
 unfold L2.jew;rw [HT.sIx_none,show (1:Int)=((1:Nat):Int) from rfl,HT.sIx_nat];cases l with
 | nil=>rfl
 | cons d l=>simp
theorem J1 (fl:List Ship) (hl:fl.length<20):JA [.lst (fl.map ji)]=some ‹"a5"›:=by
 suffices main:∀C:Res->Prop,C (.retO ‹"a5"›)->C (Qc [.sh ‹"d"›,.un]) by exact main (fun r=>jbQ r=some ‹"a5"›) rfl
 intro C fin;unfold Qc;refine jF [.sh ‹"d"›,.sh (.lst ((J8 fl).map D.int))] (by simp (disch:=omega) only [jE,jN,jh,jc,jq,Yg,jj,Yi,Yd,Yv,Yz];simp only [jfq fl hl];simp (disch:=omega) only [Yi]) ?_;have last:∀r,r=Res.retO ‹"a5"›->C r:=fun r h=>by rw [h];exact fin
 refine last _ ?_;have hb:=jcU fl;unfold Jc eLZ;simp (disch:=omega) only [jc,ja,Yn,Yg,jN,eSl,pSo,eC,pNo,Yi,jj,Yd];rw [jkT];simp only [Yc];rw [j2 (by omega)];unfold jc4 jg;rw [<-List.map_tail,List.zip_map,YL];rfl
theorem jbj (fl:List Ship):(J8 fl).Pairwise (· < ·):=QI
theorem mem_bnds {fl:List Ship} {k:Int}:k∈J8 fl ↔ k∈hrs fl:=jb8
theorem jcE:∀{l:List Int},l.Pairwise (· < ·)->∀p∈l.zip l.tail,p.1<p.2/\p.1∈l/\p.2∈l
 | [],_,p,hp=>by simp at hp
 | [x],_,p,hp=>by simp at hp
 | x::y::l,h,p,hp=>by
   have h':=YA.mp h;simp only [List.tail_cons,Km,Yq] at hp;rcases hp with rfl | hp
   . exact ⟨h'.1 y Yf,Yf,Yj _ Yf⟩
   . obtain ⟨a,b,c⟩:=jcE h'.2 p hp;exact ⟨a,Yj _ b,Yj _ c⟩
theorem jaH {fl:List Ship} {p:Int×Int} (h:p∈jg fl):p.1<p.2/\p.1∈J8 fl/\p.2∈J8 fl:=jcE (jbj fl) p h
theorem jdE {x:Int} {l:List Int} (h:(x::l).Pairwise (· < ·)):∀y∈x::l,x<=y:=fun y hy=>by
 rcases Yq.mp hy with rfl | hy
 . exact ke _
 . exact Y4 ((YA.mp h).1 y hy)
def jd2:Int->List Int->Int
 | x,[]=>x
 | _,y::l=>jd2 y l
theorem jfd:∀(x:Int) (l:List Int),(x::l).Pairwise (· < ·)->∀y∈x::l,y<=jd2 x l
 | x,[],_,y,hy=>by simp at hy;subst hy;exact ke _
 | x,z::l,h,y,hy=>by
   have h':=YA.mp h;have ih:=jfd z l h'.2;show y<=jd2 z l;rcases Yq.mp hy with rfl | hy
   . have:=h'.1 z Yf;have:=ih z Yf;omega
   . exact ih y hy
def inS (h:Int) (p:Int×Int):Bool:=decide (p.1<=h) && decide (h<p.2)
theorem jnW (h:Int):∀(x:Int) (l:List Int),(x::l).Pairwise (· < ·)->(((x::l).zip l).filter (inS h)).length=if x<=h/\h<jd2 x l then 1 else 0
 | x,[],_=>by
   show 0=if x<=h/\h<x then 1 else 0
   rw [if_neg (by omega)]
 | x,y::l,hr=>by
   have h':=YA.mp hr;have ih:=jnW h y l h'.2;have xy:=h'.1 y Yf;have yl:=jfd y l h'.2 y Yf;show _=if x<=h/\h<jd2 y l then 1 else 0
   generalize jd2 y l=z at *
   rw [Km,yg];by_cases c:x<=h/\h<y
   . have e1:inS h (x,y)=true:=by simp [inS,c.1,c.2]
     have e2:¬(y<=h/\h<z):=by omega
     rw [if_neg e2] at ih;rw [if_pos e1,if_pos ⟨c.1,by omega⟩,Yy,ih]
   . have e1:¬inS h (x,y)=true:=by simp [inS];omega
     rw [if_neg e1,ih];by_cases d:y<=h/\h<z
     . rw [if_pos d,if_pos ⟨by omega,d.2⟩]
     . rw [if_neg d,if_neg (by omega)]
theorem jhV (l:List Int):(l.zip l.tail).length=l.length-1:=by simp <;> omega
def nb:List Int->List (Int×Int)
 | x::y::l=>if x<y then (x,y)::nb (y::l) else nb (y::l)
 | _=>[]
def ded:List Int->List Int
 | x::y::l=>if x<y then x::ded (y::l) else ded (y::l)
 | l=>l
theorem jf2 (x:Int):∀l:List Int,(x::l).Pairwise (· <= ·)->∃r,ded (x::l)=x::r
 | [],_=>⟨[],rfl⟩
 | y::l,h=>by
   have h':=YA.mp h;obtain ⟨r,hr⟩:=jf2 y l h'.2;by_cases c:x<y
   . exact ⟨ded (y::l),by simp [ded,c]⟩
   . have e:x=y:=by have:=h'.1 y Yf;omega
     subst e;exact ⟨r,by simp [ded];exact hr⟩
theorem jkr:∀l:List Int,l.Pairwise (· <= ·)->nb l=(ded l).zip (ded l).tail
 | [],_=>rfl
 | [x],_=>rfl
 | x::y::l,h=>by
   have h':=YA.mp h;have ih:=jkr (y::l) h'.2;obtain ⟨r,hr⟩:=jf2 y l h'.2;by_cases c:x<y
   . simp only [nb,ded,c,yo];rw [ih,hr];rfl
   . simp only [nb,ded,c,yy];exact ih
theorem jeZ:∀(l:List Int),l.Pairwise (· <= ·)->∀k,k∈ded l ↔ k∈l
 | [],_,k=>Iff.rfl
 | [x],_,k=>Iff.rfl
 | x::y::l,h,k=>by
   have h':=YA.mp h;have ih:=jeZ (y::l) h'.2 k;by_cases c:x<y
   . simp only [ded,c,yo,Yq (a:=k) (b:=x),ih]
   . have e:x=y:=by have:=h'.1 y Yf;omega
     subst e;simp only [ded,c,yy,ih];simp
theorem jgh:∀(l:List Int),l.Pairwise (· <= ·)->(ded l).Pairwise (· < ·)
 | [],_=>by simp [ded]
 | [x],_=>by simp [ded]
 | x::y::l,h=>by
   have h':=YA.mp h;have ih:=jgh (y::l) h'.2;by_cases c:x<y
   . simp only [ded,c,yo];refine YA.mpr ⟨fun z hz=>?_,ih⟩;have hz':=(jeZ (y::l) h'.2 z).mp hz;rcases Yq.mp hz' with rfl | hz'
     . exact c
     . have:=(YA.mp h'.2).1 z hz';omega
   . simp only [ded,c,yy];exact ih
theorem jlr (l:List Int):nb (Qz l)=(srt l).zip (srt l).tail:=by
 rw [jkr _ (JC l)];have e:ded (Qz l)=srt l:=QH (jgh _ (JC l)) QI fun k=>by rw [jeZ _ (JC l),(Qx l).mem_iff,jb8]
 rw [e]
def nbI (l:List Int) (i:Nat):Bool:=decide (l.getD i 0<l.getD (i+1) 0)
theorem jfO:∀l:List Int,((List.range (l.length-1)).filter (nbI l)).map (fun i=>(l.getD i 0,l.getD (i+1) 0))=nb l
 | []=>rfl
 | [x]=>rfl
 | x::y::l=>by
   have ih:=jfO (y::l);simp only [Yy,Nat.add_sub_cancel] at ih ⊢;rw [KU,yg,List.filter_map];have e1:(nbI (x::y::l)∘Nat.succ)=nbI (y::l):=by funext i;simp [nbI,Function.comp]
   have e2:((fun i=>((x::y::l).getD i 0,(x::y::l).getD (i+1) 0))∘Nat.succ)=fun i=>((y::l).getD i 0,(y::l).getD (i+1) 0):=by funext i;simp [Function.comp]
   by_cases c:x<y
   . have:nbI (x::y::l) 0=true:=by simp [nbI,c]
     rw [if_pos this,List.map_cons,YL,e1,e2,ih];simp [nb,c]
   . have:¬nbI (x::y::l) 0=true:=by simp [nbI,c]
     rw [if_neg this,YL,e1,e2,ih];simp [nb,c]
theorem Zj {l:List Int} {i:Nat} (h:i<l.length):jM (.lst (l.map D.int)) (.int i)=some (.int (l.getD i 0)):=by refine jab (by omega) ?_;rw [Yp,List.getElem?_map,Ya h,Ye,Ya h];rfl
theorem jcP (fl:List Ship) (hl:fl.length<20):JP [.lst (fl.map ji)]=some ‹"a5"›:=by
 suffices main:∀C:Res->Prop,C (.retO ‹"a5"›)->C (JT [.sh ‹"d"›,.un]) by exact main (fun r=>jbQ r=some ‹"a5"›) rfl
 intro C fin;unfold JT;have hcat:jbU (.lst ((fl.map (·.b)).map D.int)) (.lst ((fl.map (·.e)).map D.int))=some ((hrs fl).map D.int):=by show (if _ then some _ else none)=_;rw [if_pos (by simp only [Yc];show fl.length+fl.length<=2 ^ 24;omega),<- YO];rfl
 have hhl:(hrs fl).length<64:=by simp [hrs];omega
 have hsort:jfi [.lst ((hrs fl).map D.int)]=some ((Qz (hrs fl)).map D.int):=by show ((jaL ((hrs fl).map D.int)).bind fun ns=>if ns.length<64 then some ((Qz ns).map D.int) else none)=_;rw [Zz,Yd,if_pos hhl]
 have q1:=ZC (fl:=fl) 0 (·.b) (fun s=>JI) [.sh ‹"d"›,.un] 0 rfl (by omega);have q2:=ZC (fl:=fl) 1 (·.e) (fun s=>zR) [.sh ‹"d"›,.un] 0 rfl (by omega);refine jF [.sh ‹"d"›,.sh (.lst ((Qz (hrs fl)).map D.int))] (by simp (disch:=omega) only [jE,jN,jh,jc,jl,jj,Yi,Yv,Yz];simp only [q1,q2];simp (disch:=omega) only [Yi,Yd];simp only [hcat];simp (disch:=omega) only [Yi,Yd];simp only [hsort];simp (disch:=omega) only [Yi]) ?_
 have last:∀r,r=Res.retO ‹"a5"›->C r:=fun r h=>by rw [h];exact fin
 refine last _ ?_;have hsl:(Qz (hrs fl)).length=(hrs fl).length:=(Qx _).length_eq;have hsp:jg fl=nb (Qz (hrs fl)):=by rw [jlr];rfl
 rw [hsp,<- jfO];generalize Qz (hrs fl)=l at *
 have hr:Jt (jc (jl qI (jh qj (jc (ja 1) jj)) (eC (.int 1))) jj) [.sh ‹"d"›,.sh (.lst (l.map D.int))]=some (rng 0 ((l.length:Int)-1).toNat):=by unfold Jt;simp (disch:=omega) only [jc,jl,jh,ja,Yn,Yg,jj,Yi,Yd,Zf,eC,jV];simp only [Yc];rw [if_pos ⟨by omega,by omega⟩]
 have hn:((l.length:Int)-1).toNat=l.length-1:=by omega
 rw [hn] at hr;unfold Jc;rw [qV hr (by simp [rng];omega) (jd5 (fun d=>match d with | .int i=>nbI l i.toNat | _=>false) (fun d=>match d with | .int i=>ju (l.getD i.toNat 0,l.getD (i.toNat+1) 0) | _=>.non) _ fun d hd=>?_)]
 . simp only [rng,List.filter_map,YL];congr 1;have e1:((fun d=>match d with | D.int i=>nbI l i.toNat | _=>false)∘fun (i:Nat)=>D.int (0+(i:Int)))=nbI l:=by funext i;simp [Function.comp]
   rw [e1];refine Kh fun i _=>?_;simp [Function.comp]
 . unfold rng at hd;obtain ⟨i,hi,rfl⟩:=Y3.mp hd;rw [yM] at hi;have z:(0:Int)+(i:Int)=i:=by omega
   rw [z];have d0:=Zj (l:=l) (i:=i) (by omega);have d1:=Zj (l:=l) (i:=i+1) (by omega);have ec:((i+1:Nat):Int)=(i:Int)+1:=by omega
   rw [ec] at d1;refine ⟨[.sh (.int i),.sh (.lst (l.map D.int))],rfl,?_,fun _=>?_⟩
   . show qw _ _=_;simp (disch:=omega) only [qw,jl,ja,Yn,Yg,Yd,eC,jI];simp only [d0,d1];simp (disch:=omega) only [Yd,jaa];rfl
   . simp (disch:=omega) only [QP,jc,jl,ja,Yn,Yg,Yd,eC,jI,jj,Yi];simp only [d0,d1];simp (disch:=omega) only [Yd,Yi,Yy,YZ,Kp,Nat.reduceAdd,j2,yo];rfl
def qR (s:Ship) (p:Int×Int):Int:=if s.b<=p.1/\p.2<=s.e then s.m*(p.2-p.1) else 0
def jm (r:List Int):D:=.lst (r.map D.int)
theorem jdI (s:Ship):∀(x:Int) (l:List Int),(x::l).Pairwise (· < ·)->(((x::l).zip l).map (qR s)).sum=s.m*(((((x::l).zip l).filter fun p=>decide (s.b<=p.1/\p.2<=s.e)).map fun p=>p.2-p.1).sum)
 | x,[],_=>by simp
 | x,y::l,h=>by
   have h':=YA.mp h;have ih:=jdI s y l h'.2;rw [Km,List.map_cons,List.sum_cons,ih,yg];by_cases c:s.b<=x/\y<=s.e
   . rw [if_pos (by simpa using c),List.map_cons,List.sum_cons,Int.mul_add];simp [qR,c]
   . rw [if_neg (by simpa using c)];simp [qR,c]
theorem jfH (b e:Int):∀(x:Int) (l:List Int),(x::l).Pairwise (· < ·)->b<=x->x<=e->e∈x::l->((((x::l).zip l).filter fun p=>decide (b<=p.1/\p.2<=e)).map fun p=>p.2-p.1).sum=e-x
 | x,[],_,_,_,he=>by simp at he;subst he;simp
 | x,y::l,h,hb,hxe,he=>by
   have h':=YA.mp h;have hxy:=h'.1 y Yf;rw [Km,yg];by_cases c:y<=e
   . have he':e∈y::l:=by
       rcases Yq.mp he with z | z
       . omega
       . exact z
     have ih:=jfH b e y l h'.2 (by omega) c he';rw [if_pos (by simp;exact ⟨hb,c⟩),List.map_cons,List.sum_cons,ih];show y-x+(e-y)=e-x;omega
   . have hx:e=x:=by
       rcases Yq.mp he with z | z
       . exact z
       . have:=jdE h'.2 e z;omega
     rw [if_neg (by simp;intro _;omega)];have:(((y::l).zip l).filter fun p=>decide (b<=p.1/\p.2<=e))=[]:=List.filter_eq_nil_iff.mpr fun p hp=>by have q:=jcE h'.2 p (by simpa using hp);have:=jdE h'.2 p.1 q.2.1;simp;intro _;omega
     rw [this,hx];simp
theorem jii (b e:Int) (hbe:b<=e):∀(l:List Int),l.Pairwise (· < ·)->b∈l->e∈l->(((l.zip l.tail).filter fun p=>decide (b<=p.1/\p.2<=e)).map fun p=>p.2-p.1).sum=e-b
 | [],_,hb,_=>by cases hb
 | x::l,h,hb,he=>by
   by_cases c:b=x
   . subst c;exact jfH b e b l h (ke _) hbe he
   . have hb':b∈l:=by rcases Yq.mp hb with z | z;exact absurd z c;exact z
     have h':=YA.mp h;have hxb:=h'.1 b hb';have he':e∈l:=by rcases Yq.mp he with z | z;omega;exact z
     have ih:=jii b e hbe l h'.2 hb' he';cases l with
     | nil=>cases hb'
     | cons y l=>rw [List.tail_cons,Km,yg,if_neg (by simp;intro z;omega)];exact ih
theorem jd8 {fl:List Ship} {s:Ship} (hs:s∈fl) (hk:s.Ok):((jg fl).map (qR s)).sum=s.m*(s.e-s.b):=by
 have hb:s.b∈J8 fl:=mem_bnds.mpr (Y9 _ (kb hs));have he:s.e∈J8 fl:=mem_bnds.mpr (YI _ (kb hs));have hr:=jbj fl;unfold jg;have e1:=jii s.b s.e (by have:=hk.lt;omega) (J8 fl) hr hb he;cases hl:J8 fl with
 | nil=>rw [hl] at hb;cases hb
 | cons x l=>rw [hl] at e1 hr;rw [List.tail_cons] at e1 ⊢;rw [jdI s x l hr,e1]
theorem jcB {s:Ship} (hs:s.Ok) {l:List (Int×Int)} (hl:l.length<1000):Jg [ji s,.lst (l.map ju)]=some ((l.map (qR s)).map D.int):=by
 suffices main:∀C:Res->Prop,C (.retO ((l.map (qR s)).map D.int))->C (JO [.sh (ji s),.sh (.lst (l.map ju)),.un,.un,.un]) by exact main (fun r=>jbQ r=some ((l.map (qR s)).map D.int)) rfl
 intro C fin;unfold JO;have m0:=hs.m0;have m1:=hs.m1;refine jF [.sh (ji s),.sh (.lst (l.map ju)),.ow [],.un,.un] ‹"aq"› ?_;refine jcl (l.map ju) (fun ds ρ=>∃(pre q:List (Int×Int)) (x y:Slot),pre++q=l/\ds=q.map ju/\ρ=[.sh (ji s),.sh (.lst (l.map ju)),.ow ((pre.map (qR s)).map D.int),x,y]) (qF rfl) ⟨[],l,.un,.un,rfl,rfl,rfl⟩ ?_ ?_
 . rintro d ds ρ ⟨pre,q,x,y,hpq,hds,rfl⟩;cases q with
   | nil=>cases hds
   | cons p q=>
     cases hds;have hpl:pre.length<1000:=by rw [<-hpq] at hl;simp at hl;omega
     refine ⟨[.sh (ji s),.sh (.lst (l.map ju)),.ow ((pre.map (qR s)).map D.int),.sh (.int p.1),.sh (.int p.2)],[.sh (ji s),.sh (.lst (l.map ju)),.ow (((pre++[p]).map (qR s)).map D.int),.sh (.int p.1),.sh (.int p.2)],rfl,?_,pre++[p],q,_,_,by simpa using hpq,rfl,rfl⟩;unfold ji;simp (disch:=omega) only [zQ,jat,qw,jl,ja,Yg,eC,Yd,JI,Yn,jaS,zR,zG,ja4,jV,QO,Yv,Yz];simp only [Yc,YO,List.map_cons,yD];rw [j2 (by omega)];unfold qR;by_cases c1:s.b<=p.1
     . by_cases c2:p.2<=s.e
       . simp only [c1,c2,KY,and_self,yo]
       . simp only [c1,c2,KY,Kn,and_false,yy]
         try simp (disch:=omega) only [yo]
     . simp only [c1,Kn,false_and,yy]
       try simp (disch:=omega) only [yo]
 . rintro ρ ⟨pre,q,x,y,hpq,hds,rfl⟩;have hq:q=[]:=by cases q with | nil=>rfl | cons _ _=>cases hds
   subst hq;rw [Kd] at hpq;subst hpq;exact fin
theorem jh7:∀(l:List Int) (i:Nat) (a v:Int),l[i]?=some a->(l.set i v).sum=l.sum-a+v
 | [],_,_,_,h=>by simp at h
 | x::l,0,a,v,h=>by simp at h;subst h;simp;omega
 | x::l,i+1,a,v,h=>by have:=jh7 l i a v (by simpa using h);simp only [Yv,List.sum_cons,this];omega
structure RowOk (S:List (Int×Int)) (s:Ship) (r:List Int):Prop where
 len:r.length=S.length
 bd:∀(j:Nat) x p,r[j]?=some x->S[j]?=some p->0<=x/\x<=qR s p
 sum:r.sum=s.n
structure PlanOk (fl:List Ship) (P:List (List Int)):Prop where
 len:P.length=fl.length
 row:∀(i:Nat) r s,P[i]?=some r->fl[i]?=some s->RowOk (jg fl) s r
theorem jfK {s:Ship} (hs:s.Ok) {p:Int×Int} (h:p.1<p.2):0<=qR s p:=by
 unfold qR;split
 . exact yz hs.m0 (by omega)
 . omega
theorem jem {l:List Int} {k:Int} {x:Int} (h0:0<=k) (h:l[k.toNat]?=some x):jM (.lst (l.map D.int)) (.int k)=some (.int x):=jeE h0 h
theorem jlE (a b c:Int):jcC a b c<=a/\jcC a b c<=b/\jcC a b c<=c:=by unfold jcC;split <;> split <;> omega
theorem jmk {a b c:Int} (h1:0<=a) (h2:0<=b) (h3:0<=c):0<=jcC a b c:=by unfold jcC;split <;> split <;> omega
theorem jqw {z0 z3 e f g h w:Slot} {cells Mo R:List Int} {parts:List D} {i left m cl sm x:Int} {j:Nat} (hi:0<=i) (hi':i<1000) (hc:0<cells.length) (hj:j<1000) (hRj:R.length=j)
 (ec:jM ‹"n"› (.int ((i*parts.length+j)%cells.length))=some (.int cl)) (dm:jM ‹"A"› (.int j)=some (.int m)) (hm:0<=m)
 (es:jM (.lst [.int 0,.int m,.int (m*(cl/4%9)/8),.int (cl/4%(m+1))]) (.int (cl%4))=some (.int sm)) (dmin:jbH [.int left,.int m,.int sm]=some (.int x))
 (dr:jM (.lst (R.map D.int++[.int x])) (.int j)=some (.int x)) :
 (jt ‹"G"›
  (jt ‹"f"›
  (jt ‹"aa"›
  (jE 6 (jl qI (ja 6) (jl jM (ja 7) (ja 8)))))))
  ‹"a6"› =
 .next [z0,.sh ‹"n"›,.sh (.lst parts),z3,.sh (.int i),.sh ‹"A"›,.sh (.int (left-x)),.ow (R.map D.int++[.int x]),.sh (.int j),.sh (.int cl),.sh (.int sm),h,w]:=by
 refine Qy (ρ':=[z0,.sh ‹"n"›,.sh (.lst parts),z3,.sh (.int i),.sh ‹"A"›,.sh (.int left),.ow (R.map D.int),.sh (.int j),.sh (.int cl),g,h,w]) (by simp (disch:=omega) only [jE,jl,ja,Yn,Yg,jh,jc,jj,Yi,Yd,Zf,QO,jI,Yv,Yz];simp only [Yc];simp (disch:=omega) only [jK,Yd];simp only [ec]) ?_;refine Qy (ρ':=[z0,.sh ‹"n"›,.sh (.lst parts),z3,.sh (.int i),.sh ‹"A"›,.sh (.int left),.ow (R.map D.int),.sh (.int j),.sh (.int cl),.sh (.int sm),h,w]) (by simp (disch:=omega) only [jE,jl,jN,zH,jc,eC,ja,Yn,Yg,Yd,j9,jK,jj,Yi,Yv,Yz];simp only [dm];simp (disch:=omega) only [Yd,Jl,j9,jI,jK,Yi,Yy,YZ,Kp,Nat.reduceAdd,j2,yo];simp only [es]) ?_;refine Qy (ρ':=[z0,.sh ‹"n"›,.sh (.lst parts),z3,.sh (.int i),.sh ‹"A"›,.sh (.int left),.ow (R.map D.int++[.int x]),.sh (.int j),.sh (.int cl),.sh (.int sm),h,w]) (by simp (disch:=omega) only [zG,Yn,Yg,jh,jc,ja,jl,Yd,jj,Yi,Yv,Yz];simp only [dm];simp (disch:=omega) only [Yd,Yi];simp only [dmin,Yc];rw [j2 (by omega)];rfl) ?_
 simp (disch:=omega) only [jE,jl,ja,Yn,Yg,Yd,Yv,Yz];simp only [dr];simp (disch:=omega) only [Yd,jV]
theorem jqE {z0 z3 f g h w:Slot} {cells Mo R:List Int} {parts:List D} {i left c m y x:Int} {j a:Nat} (hi:0<=i) (hc:0<cells.length) (hp:0<parts.length)
 (ec:jM ‹"n"› (.int (i%cells.length))=some (.int c)) (ha:((j:Int)+c)%parts.length=a) (dm:jM ‹"A"› (.int a)=some (.int m)) (dr:jM (.lst (R.map D.int)) (.int a)=some (.int y))
 (hx:(if m-y<left then m-y else left)=x) (hal:a<R.length) :
 (jt ‹"F"›
  (jt ‹"S"›
  (jt ‹"aH"›
  (jE 6 (jl qI (ja 6) (ja 12))))))
  ‹"a6"› =
 .next [z0,.sh ‹"n"›,.sh (.lst parts),z3,.sh (.int i),.sh ‹"A"›,.sh (.int (left-x)),.ow ((R.set a (y+x)).map D.int),.sh (.int j),f,g,.sh (.int a),.sh (.int x)]:=by
 refine Qy (ρ':=[z0,.sh ‹"n"›,.sh (.lst parts),z3,.sh (.int i),.sh ‹"A"›,.sh (.int left),.ow (R.map D.int),.sh (.int j),f,g,.sh (.int a),w]) (by simp (disch:=omega) only [jE,jl,ja,Yn,Yg,jh,jc,jj,Yi,Yd,Zf,Yv,Yz];simp only [Yc];simp (disch:=omega) only [jK,Yd];simp only [ec];simp (disch:=omega) only [Yd,jI,jK];rw [ha]) ?_;refine Qy (ρ':=[z0,.sh ‹"n"›,.sh (.lst parts),z3,.sh (.int i),.sh ‹"A"›,.sh (.int left),.ow (R.map D.int),.sh (.int j),f,g,.sh (.int a),.sh (.int x)]) (by simp (disch:=omega) only [jE,jh,jc,ja,Yn,Yg,jl,Yd,jj,Yi,Yv,Yz];simp only [dm,dr];simp (disch:=omega) only [Yd,jV,Yi,ZL];rw [hx]) ?_;refine Qy (ρ':=[z0,.sh ‹"n"›,.sh (.lst parts),z3,.sh (.int i),.sh ‹"A"›,.sh (.int left),.ow ((R.set a (y+x)).map D.int),.sh (.int j),f,g,.sh (.int a),.sh (.int x)]) (by
  have hix:ixN R.length (a:Int)=some a:=by unfold ixN;rw [if_pos (by omega),if_pos (by omega),Yp]
  simp (disch:=omega) only [Q8,Yn,Yg,jl,ja,Yd,jq,Yv,Yz];simp only [dr];simp (disch:=omega) only [Yd,jI];simp only [Yc,hix,KJ]) ?_
 simp (disch:=omega) only [jE,jl,ja,Yn,Yg,Yd,jV,Yv,Yz]
theorem jiL (fl:List Ship) (hfl:∀s∈fl,s.Ok) (tK:fl.length<=8) (cells:List Int) (hc0:cells≠[]) (hc1:cells.length<1000):∃P,PlanOk fl P/\Zq [.lst (fl.map ji),.lst (cells.map D.int)]=some (P.map jm):=by
 suffices main:∀C:Res->Prop,(∀P,PlanOk fl P->C (.retO (P.map jm)))->C (Qb [.sh ‹"d"›,.sh ‹"n"›,.un,.un,.un,.un,.un,.un,.un,.un,.un,.un,.un]) by exact main (fun r=>∃P,PlanOk fl P/\jbQ r=some (P.map jm)) fun P hP=>⟨P,hP,rfl⟩
 intro C fin;have eparts:=jcP fl (by omega);have hSlen:(jg fl).length<=16:=by have:=jcU fl;have:=jhV (J8 fl);unfold jg;omega
 have hSlt:∀p∈jg fl,p.1<p.2:=fun p hp=>(jaH hp).1;have hrooms:∀s∈fl,((jg fl).map (qR s)).sum=s.m*(s.e-s.b):=fun s hs=>jd8 hs (hfl s hs);generalize hS:jg fl=S at *
 have hcl:0<cells.length:=List.length_pos_iff.mpr hc0;unfold Qb;refine jF [.sh ‹"d"›,.sh ‹"n"›,.sh ‹"bb"›,.un,.un,.un,.un,.un,.un,.un,.un,.un,.un] (by simp (disch:=omega) only [jE,jN,jh,jc,jq,Yg,jj,Yi,Yd,Yv,Yz];simp only [eparts];simp (disch:=omega) only [Yi]) ?_;refine jF [.sh ‹"d"›,.sh ‹"n"›,.sh ‹"bb"›,.ow [],.un,.un,.un,.un,.un,.un,.un,.un,.un] ‹"aq"› ?_;refine jcl (rng 0 (fl.length:Int).toNat) (fun ds ρ=>∃(P:List (List Int)) (k:Nat) (lo:Int) (a b c d e f g h:Slot) (w:Slot),ds=rng lo k/\lo=P.length/\P.length+k=fl.length/\(∀(i:Nat) r s,P[i]?=some r->fl[i]?=some s->RowOk S s r) /\
  ρ=[.sh (.lst (fl.map ji)),.sh (.lst (cells.map D.int)),.sh (.lst (S.map ju)),.ow (P.map jm),a,b,c,d,e,f,g,h,w])
  (Jk (by simp (disch:=omega) only [jc,jh,ja,Yg,jj,Yi,Yd,Zf];simp only [Yc]) (by omega) (by omega)) ⟨[],fl.length,0,.un,.un,.un,.un,.un,.un,.un,.un,.un,by simp,rfl,by simp,by simp,rfl⟩ ?_ ?_
 . rintro d ds ρ ⟨P,k,lo,a,b,c,d',e,f,g,h,w,hds,hlo,hPk,hP,rfl⟩;cases k with
   | zero=>cases hds
   | succ k=>
     rw [zJ] at hds;cases hds;subst hlo;have hi:P.length<fl.length:=by omega
     have gs:fl[P.length]?=some fl[P.length]:=Ya hi;generalize hsh:fl[P.length]=s at gs;have hsm:s∈fl:=YE gs;have hs:=hfl s hsm;have hm0:=hs.m0;have hm1:=hs.m1;have hn0:=hs.n0;have dsh:jM ‹"d"› (.int P.length)=some (ji s):=jeE (by omega) (by rw [Yp];exact gs);have erooms:=jcB hs (l:=S) (by omega);have hsum:=hrooms s hsm;have hneed:s.n<=s.m*(s.e-s.b):=hs.n1;generalize hMo:S.map (qR s)=Mo at *
     have hMl:Mo.length=S.length:=by rw [<-hMo,Yc]
     have hMn:∀(j:Nat) x,Mo[j]?=some x->0<=x:=fun j x hx=>by rw [<-hMo,List.getElem?_map] at hx;obtain ⟨p,h1,h2⟩:=map_some hx;subst h2;exact jfK hs (hSlt p (YE h1))
     suffices turn:∀C':Res->Prop,(∀r ρ',RowOk S s r->(∃a b c d e f g h w,ρ'=[.sh ‹"d"›,.sh ‹"n"›,.sh ‹"bb"›,.ow ((P++[r]).map jm),a,b,c,d,e,f,g,h,w])->C' (.next ρ'))->C' ((jt (jE 5 (jN (jh Jg (jc (jl jM (ja 0) (ja 4)) (jc (jq 2) jj)))))
     (jt (jE 6 (jl jM (jl jM (ja 0) (ja 4)) (eC (.int 2))))
     (jt (zc 7 (zH jj))
     (jt (zP (Jt (jc (jh qj (jc (ja 2) jj)) jj)) (jz 8)
     (jt ‹"G"›
     (jt ‹"f"›
     (jt ‹"aa"›
     (jE 6 (jl qI (ja 6) (jl jM (ja 7) (ja 8))))))))
     (jt (zP (Jt (jc (jh qj (jc (ja 2) jj)) jj)) (jz 8)
     (jt ‹"F"›
     (jt ‹"S"›
     (jt ‹"aH"›
     (jE 6 (jl qI (ja 6) (ja 12)))))))
     (jad 7 (zG 3 (jq 7)))))))) [.sh (.lst (fl.map ji)),.sh (.lst (cells.map D.int)),.sh (.lst (S.map ju)),.ow (P.map jm),.sh (.int P.length),b,c,d',e,f,g,h,w]) by
       obtain ⟨ρ2,h1,r,hr,a2,b2,c2,d2,e2,f2,g2,h2,w2,rfl⟩:=turn (fun res=>∃ρ',res=.next ρ'/\∃r,RowOk S s r/\∃a b c d e f g h w,ρ'=[.sh ‹"d"›,.sh ‹"n"›,.sh ‹"bb"›,.ow ((P++[r]).map jm),a,b,c,d,e,f,g,h,w]) fun r ρ' hr hρ=>⟨ρ',rfl,r,hr,hρ⟩;refine ⟨_,_,rfl,h1,P++[r],k,P.length+1,a2,b2,c2,d2,e2,f2,g2,h2,w2,rfl,by simp,by simp;omega,fun i r' s' q1 q2=>?_,rfl⟩;by_cases hiP:i<P.length
       . rw [YB hiP] at q1;exact hP i r' s' q1 q2
       . rw [YC (by omega)] at q1;have:i=P.length:=by
           rcases YT (i-P.length) 1 with z | z
           . omega
           . rw [YF (by simpa using z)] at q1;cases q1
         subst this;simp at q1;subst q1;rw [gs] at q2;cases q2;exact hr
     intro C' fin';clear fin C eparts
     -- most, left, row
     refine jF [.sh ‹"d"›,.sh ‹"n"›,.sh ‹"bb"›,.ow (P.map jm),.sh (.int P.length),.sh ‹"A"›,c,d',e,f,g,h,w] (by simp (disch:=omega) only [jE,jN,jh,jc,jl,ja,Yg,Yn,Yd,jq,jj,Yi,Yv,Yz];simp only [dsh];simp (disch:=omega) only [Yd];simp only [erooms];simp (disch:=omega) only [Yi]) ?_;refine jF [.sh ‹"d"›,.sh ‹"n"›,.sh ‹"bb"›,.ow (P.map jm),.sh (.int P.length),.sh ‹"A"›,.sh (.int s.n),d',e,f,g,h,w] (by simp (disch:=omega) only [jE,jl,ja,Yg,Yn,Yd,eC,Yv,Yz];simp only [dsh];unfold ji;simp (disch:=omega) only [Yd,ja6]) ?_;refine jF [.sh ‹"d"›,.sh ‹"n"›,.sh ‹"bb"›,.ow (P.map jm),.sh (.int P.length),.sh ‹"A"›,.sh (.int s.n),.ow [],e,f,g,h,w] ‹"aq"› ?_
     -- first round
     refine jcl (rng 0 (S.length:Int).toNat) (fun ds ρ=>∃(R:List Int) (k:Nat) (left:Int) (e f g:Slot),ds=rng R.length k/\R.length+k=S.length/\left=s.n-R.sum/\0<=left/\(∀(j:Nat) x m,R[j]?=some x->Mo[j]?=some m->0<=x/\x<=m) /\
      ρ=[.sh (.lst (fl.map ji)),.sh (.lst (cells.map D.int)),.sh (.lst (S.map ju)),.ow (P.map jm),.sh (.int P.length),.sh (.lst (Mo.map D.int)),.sh (.int left),.ow (R.map D.int),e,f,g,h,w])
       ‹"az"› ⟨[],S.length,s.n,e,f,g,by simp,by simp,by simp,hn0,by simp,rfl⟩ ?_ ?_
     . rintro d ds ρ ⟨R,k,left,e,f,g,hds,hRk,hleft,hl0,hR,rfl⟩;cases k with
       | zero=>cases hds
       | succ k=>
         rw [zJ] at hds;cases hds;have hj:R.length<Mo.length:=by omega
         have gm:Mo[R.length]?=some Mo[R.length]:=Ya hj;generalize Mo[R.length]=m at gm;have hm:=hMn _ _ gm;have dm:jM ‹"A"› (.int R.length)=some (.int m):=jem (by omega) (by rw [Yp];exact gm);obtain ⟨cl,_,ec⟩:=jd7 (ns:=cells) (i:=((P.length:Int)*S.length+R.length)%cells.length) (yF _ (by omega)) (yq _ (by omega));have cm:0<=cl/4%(m+1):=yF _ (by omega);have cm':cl/4%(m+1)<m+1:=yq _ (by omega);obtain ⟨sm,hsm',es⟩:=jd7 (ns:=[0,m,m*(cl/4%9)/8,cl/4%(m+1)]) (i:=cl%4) (by omega) (by show cl%4<4;omega);have sm0:0<=sm:=by
          have:0<=m*(cl/4%9):=yz hm (by omega);simp only [Yq,YJ,Ku] at hsm';rcases hsm' with rfl | rfl | rfl | rfl
          . omega
          . exact hm
          . omega
          . exact cm
         simp only [List.map_cons,yD] at es;generalize hx:jcC left m sm=x;have x0:0<=x:=by rw [<-hx];exact jmk hl0 hm sm0
         obtain ⟨x1,x2,_⟩:=jlE left m sm;rw [hx] at x1 x2;refine ⟨_,[.sh ‹"d"›,.sh ‹"n"›,.sh ‹"bb"›,.ow (P.map jm),.sh (.int P.length),.sh ‹"A"›,.sh (.int (left-x)),.ow ((R++[x]).map D.int),.sh (.int R.length),.sh (.int cl),.sh (.int sm),h,w],rfl,?_,R++[x],k,left-x,_,_,_,by simp,by simp;omega,by simp;omega,by omega,fun j y m' q1 q2=>?_,rfl⟩
         . have dr:jM (.lst (R.map D.int++[.int x])) (.int R.length)=some (.int x):=jab (by omega) (by rw [Yp,YC (by simp)];simp);have dmin:jbH [.int left,.int m,.int sm]=some (.int x):=by rw [<-hx];rfl
           rw [YO];have hSl:(S.map ju).length=S.length:=Yc _;have ec':=ec;rw [<-hSl] at ec';exact jqw (e:=.un) (by omega) (by omega) hcl (by omega) rfl ec' dm hm es dmin dr
         . by_cases hjR:j<R.length
           . rw [YB hjR] at q1;exact hR j y m' q1 q2
           . rw [YC (by omega)] at q1;have:j=R.length:=by
               rcases YT (j-R.length) 1 with z | z
               . omega
               . rw [YF (by simpa using z)] at q1;cases q1
             subst this;simp at q1;subst q1;rw [gm] at q2;cases q2;exact ⟨x0,x2⟩
     obtain ⟨cc,_,ecc⟩:=jd7 (ns:=cells) (i:=(P.length:Int)%cells.length) (yF _ (by omega)) (yq _ (by omega));rintro ρ ⟨R0,k0,left0,e,f,g,hds,hRk,hleft,hl0,hR,rfl⟩;have hk0:k0=0:=by
       cases k0 with
       | zero=>rfl
       | succ k=>rw [zJ] at hds;cases hds
     subst hk0;clear hds
     -- second round
     refine jcl (rng 0 (S.length:Int).toNat) (fun ds ρ=>∃(R:List Int) (k t:Nat) (left:Int) (e h w:Slot),ds=rng t k/\t+k=S.length/\R.length=S.length/\left=s.n-R.sum/\0<=left/\(∀(j:Nat) x m,R[j]?=some x->Mo[j]?=some m->0<=x/\x<=m) /\
      (∀q:Nat,q<t->0<left->∀(a:Nat),((q:Int)+cc)%S.length=a->R[a]?=Mo[a]?) /\
      ρ=[.sh (.lst (fl.map ji)),.sh (.lst (cells.map D.int)),.sh (.lst (S.map ju)),.ow (P.map jm),.sh (.int P.length),.sh (.lst (Mo.map D.int)),.sh (.int left),.ow (R.map D.int),e,f,g,h,w])
       ‹"az"› ⟨R0,S.length,0,left0,e,h,w,by simp,by simp,by omega,hleft,hl0,hR,by simp,rfl⟩ ?_ ?_
     . rintro d ds ρ ⟨R,k,t,left,e,h,w,hds,htk,hRl,hleft,hl0,hR,hvis,rfl⟩;cases k with
       | zero=>cases hds
       | succ k=>
         rw [zJ] at hds;cases hds;have hpos:(0:Int)<S.length:=by omega
         have a0:=yF ((t:Int)+cc) (Int.ne_of_gt hpos);have a1:=yq ((t:Int)+cc) hpos;obtain ⟨a,ha⟩:∃a:Nat,((t:Int)+cc)%S.length=a:=⟨(((t:Int)+cc)%S.length).toNat,by omega⟩;rw [ha] at a0 a1;have haM:a<Mo.length:=by omega
         have haR:a<R.length:=by omega
         have gm:Mo[a]?=some Mo[a]:=Ya haM;have gr:R[a]?=some R[a]:=Ya haR;generalize Mo[a]=m at gm;generalize R[a]=y at gr;obtain ⟨y0,ym⟩:=hR a y m gr gm;have dm:jM ‹"A"› (.int a)=some (.int m):=jem (by omega) (by rw [Yp];exact gm);have dr:jM (.lst (R.map D.int)) (.int a)=some (.int y):=jem (by omega) (by rw [Yp];exact gr);generalize hx:(if m-y<left then m-y else left)=x;have hx1:0<=x/\x<=left/\x<=m-y/\(x=m-y\/x=left):=by rw [<-hx];split <;> omega
         obtain ⟨x0,xl,xm,xx⟩:=hx1;have tn:=jqE (z0:=.sh ‹"d"›) (z3:=.ow (P.map jm)) (f:=f) (g:=g) (h:=h) (w:=w) (parts:=S.map ju) (j:=t) (by omega) hcl (by rw [Yc];omega) ecc (by rw [Yc];exact ha) dm dr hx haR;refine ⟨_,_,rfl,tn,R.set a (y+x),k,t+1,left-x,_,_,_,by simp,by omega,by simp [hRl],?_,by omega,?_,?_,rfl⟩
         . rw [jh7 R a y (y+x) gr];omega
         . intro j z m' q1 q2;by_cases hja:a=j
           . subst hja;rw [Y1 haR] at q1;rw [gm] at q2;cases q1;cases q2;omega
           . rw [YQ hja] at q1;exact hR j z m' q1 q2
         . intro q hq hpos' b hb;by_cases hqt:q=t
           . subst hqt;have hab:b=a:=by omega
             subst hab;rw [Y1 haR,gm];congr 1;omega
           . have old:=hvis q (by omega) (by omega) b hb;by_cases hab:a=b
             . subst hab;rw [gr,gm] at old;have:=Option.some.inj old;rw [Y1 haR,gm];congr 1;omega
             . rw [YQ hab];exact old
     . rintro ρ ⟨R,k,t,left,e,h,w,hds,htk,hRl,hleft,hl0',hR,hvis,rfl⟩;have hk:k=0:=by
        cases k with
        | zero=>rfl
        | succ k=>rw [zJ] at hds;cases hds
       subst hk;have hz:left=0:=by
        refine Classical.byContradiction fun hz=>?_;have hpos:0<left:=by omega
        have hRM:R=Mo:=by
         refine Kw fun j=>?_;rcases YT j S.length with hj | hj
         . have hn:(0:Int)<S.length:=by omega
           have q0:=yF ((j:Int)-cc) (Int.ne_of_gt hn);have q1:=yq ((j:Int)-cc) hn;have q2:(((j:Int)-cc)%S.length+cc)%S.length=j:=by rw [Int.emod_add_emod,Int.sub_add_cancel];exact Int.emod_eq_of_lt (by omega) (by omega)
           refine hvis (((j:Int)-cc)%S.length).toNat (by omega) hpos j ?_;rw [Int.toNat_of_nonneg q0];exact q2
         . rw [YF (by omega),YF (by omega)]
        rw [hRM,hsum] at hleft;omega
       have last:∀r ρ',r=Res.next ρ'->C' (.next ρ')->C' r:=fun r ρ' h1 h2=>by rw [h1];exact h2
       refine last _ [.sh ‹"d"›,.sh ‹"n"›,.sh ‹"bb"›,.ow ((P++[R]).map jm),.sh (.int P.length),.sh ‹"A"›,.sh (.int left),.sh (jm R),e,f,g,h,w] ?_ (fin' R _ ⟨hRl,fun j x p q1 q2=>?_,by omega⟩ ⟨_,_,_,_,_,_,_,_,_,rfl⟩)
       . clear hvis hR hneed hsum hrooms;simp (disch:=omega) only [jad,zG,frz,Yn,Yg,Yv,Yz,jq];simp only [Yc];rw [j2 (by omega)];simp only [YO,List.map_cons,yD];rfl
       . exact hR j x (qR s p) q1 (by rw [<-hMo,List.getElem?_map,q2];rfl)
 . rintro ρ ⟨P,k,lo,a,b,c,d,e,f,g,h,w,hds,hlo,hPk,hP,rfl⟩;have hk:k=0:=by
    cases k with
    | zero=>rfl
    | succ k=>rw [zJ] at hds;cases hds
   subst hk;exact fin P ⟨by omega,by rw [hS];exact hP⟩
theorem jbl (p:Int×Int):Q5 [ju p]=some (.int (p.2-p.1)):=by unfold Q5 jc3 ju;simp (disch:=omega) only [zb,Yy,YZ,Kp,jdm,j6,jl,ja,qK,List.map_cons,yD,KI,yR,yU,Kq,Yg,eC,Yd,zR,JI,jV,yo]
def qt (P:List (List Int)) (j:Nat):Int:=(P.map fun r=>r.getD j 0).sum
theorem jgt {P:List (List Int)} {j:Nat} (hj:∀r∈P,j<r.length) (hl:P.length<1000):jb5 [.lst (P.map jm),.int j]=some (.int (qt P j)):=by
 have lc:JV (qg (ja 0)) (jz 0) ‹"l"› (jl jM (ja 0) (ja 1)) 1 [1] [.sh ‹"j"›,.sh (.int j)]=some ((P.map fun r=>r.getD j 0).map D.int):=by
  refine qV (qF rfl) (by rw [Yc];omega) ?_;rw [jgX (fun d=>match jM d (.int j) with | some x=>x | none=>.non) _ fun d hd=>?_]
  . rw [YL,YL];congr 1;refine Kh fun r hr=>?_;show (match jM (jm r) (.int j) with | some x=>x | none=>D.non)=_;unfold jm;rw [Zj (hj r hr)];rfl
  . obtain ⟨r,hr,rfl⟩:=Y3.mp hd;refine ⟨[.sh (jm r),.sh (.int j)],rfl,rfl,?_⟩;show jM (jm r) (.int j)=_;unfold jm;rw [Zj (hj r hr)]
 unfold jb5 jen;simp (disch:=omega) only [zb,Yy,YZ,Kp,Nat.reduceAdd,jdm,j6,jh,jc,jN,qK,List.map_cons,yD,KI,yR,yU,Kq,jj,Yi,yo];simp only [lc];simp (disch:=omega) only [Yi,Yd];rw [jb2];rfl
/-- the stretch in which an hour lies -/
theorem PlanOk.rows {fl:List Ship} {P:List (List Int)} (hP:PlanOk fl P):∀r∈P,r.length=(jg fl).length:=fun r hr=>by
 obtain ⟨i,hi,e⟩:=yf hr;have g1:P[i]?=some r:=by rw [Ya hi,e]
 have hi':i<fl.length:=by rw [<-hP.len];exact hi
 exact (hP.row i r fl[i] g1 (Ya hi')).len
theorem jkA (ns:List Int) (lo hi:Option Int):∃cs:List Int,L2.jew (ns.map D.int) lo hi=cs.map D.int/\cs.length<=ns.length:=by unfold L2.jew;rw [<-List.map_drop,<- List.map_take];exact ⟨_,rfl,by rw [K5,List.length_drop];omega⟩
theorem jrB {cs:List Int} (h:cs.length<1000):jbU (.lst (cs.map D.int)) (.lst [.int 0])=some ((cs++[0]).map D.int):=by unfold jbU;rw [YO];exact if_pos (yL (Ka (j2 (by rw [Yc];simp;omega))))
theorem ze {i:Nat} {fo:ee->Option (List D)} {ρ:ee} {l:List D} (h:fo ρ=some l):jE i (jN fo) ρ=.next (ρ.set i (.sh (.lst l))):=by unfold jE jN;rw [h];rfl
def j8 (f:Nat->Int):Nat->Int
 | 0=>0
 | n+1=>j8 f n+f n
theorem qq {f g:Nat->Int}:∀{n:Nat},(∀j,j<n->f j=g j)->j8 f n=j8 g n
 | 0,_=>rfl
 | n+1,h=>by unfold j8;rw [qq fun j hj=>h j (by omega),h n (by omega)]
theorem jeH {f g:Nat->Int}:∀{n:Nat},(∀j,j<n->f j<=g j)->j8 f n<=j8 g n
 | 0,_=>ke _
 | n+1,h=>by unfold j8;have:=jeH (n:=n) fun j hj=>h j (by omega);have:=h n (by omega);omega
theorem Jz {f g:Nat->Int}:∀{n:Nat},j8 (fun j=>f j+g j) n=j8 f n+j8 g n
 | 0=>rfl
 | n+1=>by unfold j8;rw [Jz];omega
theorem Za {f g:Nat->Int}:∀{n:Nat},j8 (fun j=>f j-g j) n=j8 f n-j8 g n
 | 0=>rfl
 | n+1=>by unfold j8;rw [Za];omega
theorem jd4 {f:Nat->Int} {n:Nat} (h:∀j,j<n->f j=0):j8 f n=0:=by
 rw [qq (g:=fun _=>0) h];induction n with
 | zero=>rfl
 | succ n ih=>unfold j8;rw [ih fun j hj=>h j (by omega)];rfl
theorem jbi {f:Nat->Int}:∀{n:Nat},j8 f (n+1)=f 0+j8 (fun j=>f (j+1)) n
 | 0=>by simp [j8]
 | n+1=>by have:=jbi (f:=f) (n:=n);show j8 f (n+1)+f (n+1)=f 0+(j8 (fun j=>f (j+1)) n+f (n+1));omega
theorem jdk:∀(l:List Int),l.sum=j8 (fun j=>l.getD j 0) l.length
 | []=>rfl
 | x::l=>by rw [List.sum_cons,Yy,jbi,jdk l];rfl
theorem jid {α:Type} (f:α->Int) (d:α):∀(l:List α),(l.map f).sum=j8 (fun j=>f (l.getD j d)) l.length
 | []=>rfl
 | x::l=>by rw [List.map_cons,List.sum_cons,Yy,jbi,jid f d l];rfl
theorem jqm {C:Res->Prop} {fi:ee->Option (List D)} {m:D->ee->Option ee} {B F':FS} {ρ:ee} (n:Nat) (P:Nat->ee->Prop) (hi:fi ρ=some (rng 0 n)) (h0:P 0 ρ)
 (hs:∀(j:Nat) ρ,j<n->P j ρ->∃ρ1 ρ2,m (.int (j:Int)) ρ=some ρ1/\B ρ1=.next ρ2/\P (j+1) ρ2) (k:∀ρ',P n ρ'->C (F' ρ')):C (jt (zP fi m B) F' ρ):=by
 refine jcl (rng 0 n) (fun ds ρ=>∃j k:Nat,ds=rng (j:Int) k/\j+k=n/\P j ρ) hi ⟨0,n,rfl,by omega,h0⟩ ?_ ?_
 . rintro d ds ρ ⟨j,k,hd,hjk,hP⟩;cases k with
   | zero=>cases hd
   | succ k=>rw [zJ] at hd;cases hd;obtain ⟨ρ1,ρ2,h1,h2,h3⟩:=hs j ρ (by omega) hP;exact ⟨ρ1,ρ2,h1,h2,j+1,k,rfl,by omega,h3⟩
 . rintro ρ ⟨j,k',hd,hjk,hP⟩;cases k' with
   | zero=>
     have e:j=n:=by omega
     subst e;exact k ρ hP
   | succ k=>rw [zJ] at hd;cases hd
theorem jjn {α:Type} {C:Res->Prop} {fi:ee->Option (List D)} {m:D->ee->Option ee} {B F':FS} {ρ:ee} (src:α->D) (l:List α) (P:List α->ee->Prop) (hi:fi ρ=some (l.map src)) (h0:P [] ρ)
 (hs:∀(pre:List α) (a:α) (q:List α) ρ,l=pre++a::q->P pre ρ->∃ρ1 ρ2,m (src a) ρ=some ρ1/\B ρ1=.next ρ2/\P (pre++[a]) ρ2) (k:∀ρ',P l ρ'->C (F' ρ')):C (jt (zP fi m B) F' ρ):=by
 refine jcl (l.map src) (fun ds ρ=>∃pre q:List α,ds=q.map src/\l=pre++q/\P pre ρ) hi ⟨[],l,rfl,rfl,h0⟩ ?_ ?_
 . rintro d ds ρ ⟨pre,q,hd,hl,hP⟩;cases q with
   | nil=>cases hd
   | cons a q=>cases hd;obtain ⟨ρ1,ρ2,h1,h2,h3⟩:=hs pre a q ρ hl hP;exact ⟨ρ1,ρ2,h1,h2,pre++[a],q,rfl,by rw [hl];simp,h3⟩
 . rintro ρ ⟨pre,q,hd,hl,hP⟩;cases q with
   | nil=>rw [Kd] at hl;subst hl;exact k ρ hP
   | cons a q=>cases hd
theorem Jo {α:Type} {m:D->ee->Option ee} {ft:ee->Option Bool} {fe:ee->Option D} {ρ:ee} (src g:α->D):∀(l:List α),(∀a∈l,∃ρ1,m (src a) ρ=some ρ1/\ft ρ1=some true/\fe ρ1=some (g a))->Q3 m ft fe ρ (l.map src)=some (l.map g)
 | [],_=>rfl
 | d::ds,h=>by obtain ⟨ρ1,h1,h2,h3⟩:=h d Yf;simp only [List.map_cons,Q3,h1,h2,h3,Yd,yo,Jo src g ds fun x hx=>h x (Yj _ hx),Yi]
theorem jkj {α:Type} {m:D->ee->Option ee} {ft:ee->Option Bool} {fe:ee->Option D} {ρ:ee} (src g:α->D) (p:α->Bool):∀(l:List α),(∀a∈l,∃ρ1,m (src a) ρ=some ρ1/\ft ρ1=some (p a)/\fe ρ1=some (g a))->Q3 m ft fe ρ (l.map src)=some ((l.filter p).map g)
 | [],_=>rfl
 | d::ds,h=>by
   obtain ⟨ρ1,h1,h2,h3⟩:=h d Yf;have ih:=jkj src g p ds fun x hx=>h x (Yj _ hx);cases hp:p d with
   | true=>simp only [List.map_cons,Q3,h1,h2,hp,h3,Yd,yo,ih,Yi,yg]
   | false=>simp only [List.map_cons,Q3,h1,h2,hp,Yd,YX,yy,ih,yg]
theorem jeu {α β:Type} (f:α->D) (g:β->D) (xs:List α) (ys:List β):jc4 (xs.map f) (ys.map g)=(xs.zip ys).map fun q=>.tup [f q.1,g q.2]:=by unfold jc4;rw [List.zip_map,YL];rfl
theorem jar {a n:Nat} {m:FS} {ds:List D} {ρ:ee} (Pr:D->Prop) (h1:ds.length=a) (h2:qK n ds=ρ) (h:∀C:Res->Prop,(∀d,Pr d->C (.ret d))->C (m ρ)):∃d,Pr d/\zb a n m ds=some d:=by unfold zb;rw [if_pos h1,h2];exact h (fun r=>∃d,Pr d/\jdm r=some d) fun d hd=>⟨d,hd,rfl⟩
theorem jhP {a n:Nat} {m:FS} {ds l:List D} {ρ:ee} (h1:ds.length=a) (h2:qK n ds=ρ) (h:m ρ=.retO l):J9 a n m ds=some l:=by unfold J9;rw [if_pos h1,h2,h];rfl
theorem jct {fe:ee->Option (List D)} {ρ:ee} {l:List D} (h:fe ρ=some l):Jc fe ρ=.retO l:=by unfold Jc;rw [h]
theorem jl0 {α:Type} {m:D->ee->Option ee} {ft:ee->Option Bool} {fe:ee->Option D} {ρ:ee} (src g:α->D) (p:α->Bool) (l:List α) (h:∀a∈l,∃ρ1,m (src a) ρ=some ρ1/\ft ρ1=some (p a)/\fe ρ1=some (g a)):Q3 m ft fe ρ (l.map src)=some ((l.filter p).map g):=jkj src g p l h
def spn (fl:List Ship) (j:Nat):Int×Int:=(jg fl).getD j (0,0)
def zp (fl:List Ship) (j:Nat):Int:=(spn fl j).2-(spn fl j).1
def jcX (x:Int):Int:=if x>0 then x else 0
def Sm (s:Ship):Prop:=0<=s.m/\s.m<=1000000000000000
theorem jnd {s:Ship} (h:s.Ok):Sm s:=⟨h.m0,h.m1⟩
theorem QR {fl:List Ship} {j:Nat} (h:j<(jg fl).length):(jg fl)[j]?=some (spn fl j):=by unfold spn;rw [Ye,Ya h];rfl
theorem jhs {fl:List Ship} {j:Nat} (h:j<(jg fl).length):spn fl j∈jg fl:=YE (QR h)
theorem jcY {fl:List Ship} {j:Nat} (h:j<(jg fl).length):jM ‹"i"› (.int j)=some (ju (spn fl j)):=jeE (by omega) (by rw [Yp];exact QR h)
theorem zC {fl:List Ship} (h:fl.length<20):(jg fl).length<40:=by have:=jcU fl;have:=jhV (J8 fl);unfold jg;omega
theorem jbb (n:Nat):rng 0 n=(List.range n).map fun j:Nat=>D.int (j:Int):=by unfold rng;refine Kh fun i _=>?_;rw [Int.zero_add]
def Jj (P:List (List Int)) (i s:Nat):Int:=(P.getD i []).getD s 0
def Shape (n m:Nat) (P:List (List Int)):Prop:=P.length=n/\∀r∈P,r.length=m
theorem Shape.row {n m:Nat} {P:List (List Int)} (h:Shape n m P) {i:Nat} (hi:i<n):P[i]?=some (P.getD i [])/\(P.getD i []).length=m:=by
 have hi':i<P.length:=by rw [h.1];exact hi
 have e:P[i]?=some (P.getD i []):=by rw [Ye,Ya hi'];rfl
 exact ⟨e,h.2 _ (YE e)⟩
theorem jcv {n m:Nat} {P:List (List Int)} (h:Shape n m P) {i:Nat} (hi:i<n):jM ‹"j"› (.int i)=some (jm (P.getD i [])):=by refine jab (by omega) ?_;rw [Yp,List.getElem?_map,(h.row hi).1];rfl
theorem ja2 {n m:Nat} {P:List (List Int)} (h:Shape n m P) {i s:Nat} (hi:i<n) (hs:s<m):jM (jm (P.getD i [])) (.int s)=some (.int (Jj P i s)):=by unfold jm;exact Zj (by rw [(h.row hi).2];exact hs)
theorem jka {α:Type} (src:α->D) (d:α) (l:List α):jcw (l.map src)=(List.range l.length).map fun j:Nat=>.tup [.int (j:Int),src (l.getD j d)]:=by
 unfold jcw;apply Kw;intro i;rw [List.getElem?_map,List.getElem?_zipIdx,List.getElem?_map,List.getElem?_map];by_cases hi:i<l.length
 . rw [Ya hi,Y0 hi];simp [Ya hi,Ye]
 . rw [YF (by omega),YF (by simp;omega)];rfl
theorem jh2 {m:D->ee->Option ee} {B:FS} (g:Nat->D) (n:Nat) (P:Nat->ee->Prop) (R:D->Prop)
 (hs:∀(j:Nat) ρ,j<n->P j ρ->∃ρ1,m (g j) ρ=some ρ1/\((∃ρ2,B ρ1=.next ρ2/\P (j+1) ρ2)\/∃d,B ρ1=.ret d/\R d)):∀(k j:Nat) (ρ:ee),j+k=n->P j ρ->
 (∃ρ',Qn m B ((List.range' j k).map g) ρ=.next ρ'/\P n ρ')\/∃d,Qn m B ((List.range' j k).map g) ρ=.ret d/\R d
 | 0,j,ρ,hj,hP=>.inl ⟨ρ,rfl,(show j=n by omega) ▸ hP⟩
 | k+1,j,ρ,hj,hP=>by
   obtain ⟨ρ1,h1,h2⟩:=hs j ρ (by omega) hP;rw [List.range'_succ,List.map_cons];rcases h2 with ⟨ρ2,h2,h3⟩ | ⟨d,h2,h3⟩
   . rcases jh2 g n P R hs k (j+1) ρ2 (by omega) h3 with h | h
     . obtain ⟨ρ',e,p⟩:=h;exact .inl ⟨ρ',by simp only [Qn,h1,h2];exact e,p⟩
     . obtain ⟨d,e,p⟩:=h;exact .inr ⟨d,by simp only [Qn,h1,h2];exact e,p⟩
   . exact .inr ⟨d,by simp only [Qn,h1,h2],h3⟩
theorem jk0 {fi:ee->Option (List D)} {m:D->ee->Option ee} {B:FS} {ρ:ee} (g:Nat->D) (n:Nat) (P:Nat->ee->Prop) (R:D->Prop) (hi:fi ρ=some ((List.range n).map g)) (h0:P 0 ρ)
 (hs:∀(j:Nat) ρ,j<n->P j ρ->∃ρ1,m (g j) ρ=some ρ1/\((∃ρ2,B ρ1=.next ρ2/\P (j+1) ρ2)\/∃d,B ρ1=.ret d/\R d)) :
 (∃ρ',zP fi m B ρ=.next ρ'/\P n ρ')\/∃d,zP fi m B ρ=.ret d/\R d:=by
 unfold zP;rw [hi,List.range_eq_range'];exact jh2 g n P R hs n 0 ρ (by omega) h0
theorem jk2 {fi:ee->Option (List D)} {m:D->ee->Option ee} {B:FS} {ρ:ee} (g:Nat->D) (n:Nat) (P:Nat->ee->Prop) (hi:fi ρ=some ((List.range n).map g)) (h0:P 0 ρ)
 (hs:∀(j:Nat) ρ,j<n->P j ρ->∃ρ1 ρ2,m (g j) ρ=some ρ1/\B ρ1=.next ρ2/\P (j+1) ρ2):∃ρ',zP fi m B ρ=.next ρ'/\P n ρ':=by
 rcases jk0 g n P (fun _=>False) hi h0 (fun j ρ hj hP=>let ⟨ρ1,ρ2,h1,h2,h3⟩:=hs j ρ hj hP;⟨ρ1,h1,.inl ⟨ρ2,h2,h3⟩⟩) with h | ⟨d,_,h⟩
 . exact h
 . exact h.elim
theorem jqx {c:ee->Option Bool} {B:FS} (P:Nat->ee->Prop) (R:Res->Prop)
 (hs:∀(k:Nat) ρ,P k ρ->(c ρ=some false/\R (.next ρ))\/‹"aR"›):∀(k:Nat) (ρ:ee),P k ρ->∃n r,wh c B n ρ=some r/\R r:=by
 intro k;induction k using Nat.strongRecOn with
 | _ k ih=>
   intro ρ hP;rcases hs k ρ hP with ⟨h1,h2⟩ | ⟨h1,h2⟩
   . exact ⟨1,_,by unfold wh;rw [h1],h2⟩
   . rcases h2 with ⟨ρ2,k2,e,l,p⟩ | ⟨d,e,r⟩
     . obtain ⟨n,r,e2,hr⟩:=ih k2 l ρ2 p;refine ⟨n+1,r,?_,hr⟩;unfold wh;rw [h1];dsimp only;rw [e];exact e2
     . refine ⟨1,.ret d,?_,r⟩;unfold wh;rw [h1];dsimp only;rw [e]
theorem jfG {c:ee->Option Bool} {B:FS} {ρ:ee} (P:Nat->ee->Prop) (R:Res->Prop) {k:Nat} (h0:P k ρ)
 (hs:∀(k:Nat) ρ,P k ρ->(c ρ=some false/\R (.next ρ))\/‹"aR"›):∃r,QF c B ρ=r/\R r:=by
 obtain ⟨n,r,e,hr⟩:=jqx P R hs k ρ h0;exact ⟨r,jd3 e,hr⟩
theorem jjI {C:Res->Prop} {fi:ee->Option (List D)} {m:D->ee->Option ee} {B F':FS} {ρ:ee} (g:Nat->D) (n:Nat) (P:Nat->ee->Prop) (R:D->Prop) (hi:fi ρ=some ((List.range n).map g)) (h0:P 0 ρ)
 (hs:∀(j:Nat) ρ,j<n->P j ρ->∃ρ1,m (g j) ρ=some ρ1/\((∃ρ2,B ρ1=.next ρ2/\P (j+1) ρ2)\/∃d,B ρ1=.ret d/\R d)) (k1:∀ρ',P n ρ'->C (F' ρ')) (k2:∀d,R d->C (.ret d)):C (jt (zP fi m B) F' ρ):=by
 rcases jk0 g n P R hi h0 hs with ⟨ρ',e,h⟩ | ⟨d,e,h⟩
 . exact jF ρ' e (k1 ρ' h)
 . exact jmK e (k2 d h)
theorem jg3 {C:Res->Prop} {fi:ee->Option (List D)} {m:D->ee->Option ee} {B F':FS} {ρ:ee} (g:Nat->D) (n:Nat) (P:Nat->ee->Prop) (hi:fi ρ=some ((List.range n).map g)) (h0:P 0 ρ)
 (hs:∀(j:Nat) ρ,j<n->P j ρ->∃ρ1 ρ2,m (g j) ρ=some ρ1/\B ρ1=.next ρ2/\P (j+1) ρ2) (k:∀ρ',P n ρ'->C (F' ρ')):C (jt (zP fi m B) F' ρ):=
 let ⟨ρ',e,h⟩:=jk2 g n P hi h0 hs;jF ρ' e (k ρ' h)
theorem jhF {C:Res->Prop} {c:ee->Option Bool} {B F':FS} {ρ:ee} (P:Nat->ee->Prop) (N:ee->Prop) {k:Nat} (h0:P k ρ)
 (hs:∀(k:Nat) ρ,P k ρ->(c ρ=some false/\N ρ)\/(c ρ=some true/\∃ρ2 k2,B ρ=.next ρ2/\k2<k/\P k2 ρ2)) (kf:∀ρ',N ρ'->C (F' ρ')):C (jt (QF c B) F' ρ):=by
 obtain ⟨r,e,hr⟩:=jfG (c:=c) (B:=B) P (fun r=>∃ρ',r=.next ρ'/\N ρ') h0 fun k ρ hP=>by
  rcases hs k ρ hP with ⟨a,b⟩ | ⟨a,ρ2,k2,h1,h2,h3⟩
  . exact .inl ⟨a,ρ,rfl,b⟩
  . exact .inr ⟨a,.inl ⟨ρ2,k2,h1,h2,h3⟩⟩
 obtain ⟨ρ',e',hN⟩:=hr;subst e';exact jF ρ' e (kf ρ' hN)
theorem jjy {B:FS} {ρ:ee} {k:Nat} {P:Nat->ee->Prop} (h:∀C:Res->Prop,(∀ρ2 k2,k2<k->P k2 ρ2->C (.next ρ2))->C (B ρ)):∃ρ2 k2,B ρ=.next ρ2/\k2<k/\P k2 ρ2:=h (fun r=>∃ρ2 k2,r=.next ρ2/\k2<k/\P k2 ρ2) fun ρ2 k2 hk hP=>⟨ρ2,k2,rfl,hk,hP⟩
section
variable {ρ:ee}
end
def Mv (tm tq:List (List Int)) (off on i:Nat):Prop:=0<Jj tq i off/\Jj tq i on<Jj tm i on
theorem jho {n m:Nat} {tm tq:List (List Int)} (hr:Shape n m tm) (hp:Shape n m tq) {off on:Nat} (ho:off<m) (hn:on<m) :
 ∃d,((d=.non/\∀i,i<n->¬Mv tm tq off on i)\/∃i:Nat,i<n/\d=.int i/\Mv tm tq off on i)/\QQ [.lst (tm.map jm),.lst (tq.map jm),.int off,.int on]=some d:=by
 unfold QQ;refine jar (ρ:=[.sh ‹"X"›,.sh ‹"C"›,.sh (.int off),.sh (.int on),.un,.un]) _ rfl rfl fun C fin=>?_;unfold jeq;refine jjI (fun j:Nat=>.tup [.int (j:Int),jm (tq.getD j [])]) n
  (fun j ρ=>(∃x y,ρ=[.sh ‹"X"›,.sh ‹"C"›,.sh (.int off),.sh (.int on),x,y])/\∀i,i<j->¬Mv tm tq off on i)
  (fun d=>∃i:Nat,i<n/\d=.int i/\Mv tm tq off on i) ?_ ⟨⟨_,_,rfl⟩,fun i hi=>absurd hi (by omega)⟩ ?_ ?_ ?_
 . show some (jcw (tq.map jm))=_;rw [jka jm [],hp.1]
 . rintro j ρ hj ⟨⟨x,y,rfl⟩,hP⟩;refine ⟨[.sh ‹"X"›,.sh ‹"C"›,.sh (.int off),.sh (.int on),.sh (.int j),.sh (jm (tq.getD j []))],rfl,?_⟩;rw [jm4 (jh3 (jL (jn (jn rfl rfl (ja2 hp hj ho)) rfl jaX)) (jL (jn (jn rfl rfl (ja2 hp hj hn)) (jn (jn rfl rfl (jcv hr hj)) rfl (ja2 hr hj hn)) jaa)))];by_cases c:0<Jj tq j off/\Jj tq j on<Jj tm j on
   . rw [if_pos (by simp [c.1,c.2])];exact .inr ⟨_,rfl,j,hj,rfl,c⟩
   . rw [if_neg (by simpa using c)];refine .inl ⟨_,rfl,⟨_,_,rfl⟩,fun i hi=>?_⟩;by_cases z:i=j
     . subst z;exact c
     . exact hP i (by omega)
 . rintro ρ' ⟨⟨x,y,rfl⟩,hP⟩;exact fin _ (.inl ⟨rfl,hP⟩)
 . exact fun d h=>fin _ (.inr h)
def kI (ks:List Nat):List Int:=ks.map fun k:Nat=>(k:Int)
theorem jjD (ks:List Nat):(kI ks).length=ks.length:=Yc _
theorem jeX:∀{ks:List Nat} {ds:List D} {j s:Nat} {d:D},ks.Nodup->ks[j]?=some s->ds[j]?=some d->zo (kI ks) ds (s:Int)=some d
 | [],_,_,_,_,_,h,_=>by simp at h
 | _::_,[],_,_,_,_,_,h=>by simp at h
 | k::ks,e::ds,0,s,d,_,h1,h2=>by simp at h1 h2;subst h1 h2;show (if (k:Int)=(k:Int) then some e else _)=_;rw [if_pos rfl]
 | k::ks,e::ds,j+1,s,d,nd,h1,h2=>by
   simp at h1 h2;have hn:¬(k:Int)=(s:Int):=fun z=>(ye.mp nd).1 (by
     have:k=s:=by omega
     rw [this];exact YE h1)
   show (if (k:Int)=(s:Int) then some e else zo (kI ks) ds (s:Int))=_;rw [if_neg hn];exact jeX (ye.mp nd).2 h1 h2
theorem jhD:∀{ks:List Nat} {ds:List D} {s:Nat},s∉ks->zo (kI ks) ds (s:Int)=none
 | [],_,_,_=>rfl
 | _::_,[],_,_=>rfl
 | k::ks,e::ds,s,h=>by
   have hn:¬(k:Int)=(s:Int):=fun z=>h (by
     have:k=s:=by omega
     rw [this];exact Yf)
   show (if (k:Int)=(s:Int) then some e else zo (kI ks) ds (s:Int))=_;rw [if_neg hn];exact jhD fun z=>h (Yj _ z)
theorem jog {ks:List Nat} {ds:List D} (nd:ks.Nodup) (hl:ks.length=ds.length) (s:Nat) (neg:Bool):jeC neg (.int s) ‹"bc"›=some (.bl (neg != decide (s∈ks))):=by
 show some (D.bl (neg != (zo (kI ks) ds (s:Int)).isSome))=_;by_cases h:s∈ks
 . obtain ⟨j,hj,e⟩:=yf h;rw [jeX nd (j:=j) (by rw [Ya hj,e]) (Ya (by omega))];simp [h]
 . rw [jhD h];simp [h]
theorem mem_kI {ks:List Nat} {s:Nat}:(s:Int)∈kI ks ↔ s∈ks:=by unfold kI;rw [Y3];exact ⟨fun ⟨k,hk,e⟩=>(show k=s by omega) ▸ hk,fun h=>⟨s,h,rfl⟩⟩
theorem jlm {ks:List Nat} {s:Nat} (h:s∉ks):jdY (kI ks) (s:Int)=kI (ks++[s]):=by unfold jdY;rw [if_neg fun z=>h (mem_kI.mp z)];unfold kI;rw [YO];rfl
theorem jkp {ks:List Nat} {ds:List D} {s:Nat} {d:D} (h:s∉ks):jhY (kI ks) ds (s:Int) d=ds++[d]:=by unfold jhY;rw [if_neg fun z=>h (mem_kI.mp z)]
theorem Jv:∀(m:Nat) (ks:List Nat),ks.Nodup->(∀s∈ks,s<m)->ks.length<=m
 | 0,ks,_,h=>by
   cases ks with
   | nil=>exact Ys _
   | cons k ks=>exact absurd (h k Yf) (by omega)
 | m+1,ks,nd,h=>by
   by_cases hm:m∈ks
   . have h1:=Jv m (ks.erase m) (nd.erase m) fun s hs=>by have h2:=(List.Nodup.mem_erase_iff nd).mp hs;have h3:=h s h2.2;have:=h2.1;omega
     rw [List.length_erase_of_mem hm] at h1;omega
   . have:=Jv m ks nd fun s hs=>by have h3:=h s hs;have:s≠m:=fun z=>hm (z ▸ hs);omega
     omega
structure Rch (tm tq:List (List Int)) (n m:Nat) (B:Nat->D->Prop) (ks:List Nat) (ds:List D):Prop where
 len:ks.length=ds.length
 nd:ks.Nodup
 lt:∀s∈ks,s<m
 val:∀(j s:Nat) (d:D),ks[j]?=some s->ds[j]?=some d->B s d\/∃i o j':Nat,j'<j/\ks[j']?=some o/\i<n/\d=.tup [.int i,.int o,.int s]/\Mv tm tq o s i
theorem Rch.snoc {tm tq:List (List Int)} {n m:Nat} {B:Nat->D->Prop} {ks:List Nat} {ds:List D} (h:Rch tm tq n m B ks ds) {s:Nat} {d:D} (hs:s∉ks) (hm:s<m) (hd:B s d\/∃i o:Nat,o∈ks/\i<n/\d=.tup [.int i,.int o,.int s]/\Mv tm tq o s i) :
 Rch tm tq n m B (ks++[s]) (ds++[d]):=by
 refine ⟨by simp [h.len],?_,fun t ht=>?_,fun j t e h1 h2=>?_⟩
 . rw [List.nodup_append];refine ⟨h.nd,by simp,fun a ha b hb z=>?_⟩;rw [YN.mp hb] at z;exact hs (z ▸ ha)
 . rcases Y7.mp ht with q | q
   . exact h.lt t q
   . rw [YN.mp q];exact hm
 . rcases Nat.lt_trichotomy j ks.length with q | q | q
   . rw [YB q] at h1;rw [YB (by rw [<-h.len];exact q)] at h2;rcases h.val j t e h1 h2 with r | ⟨i,o,j',r1,r2,r3⟩
     . exact .inl r
     . exact .inr ⟨i,o,j',r1,by rw [YB (by omega)];exact r2,r3⟩
   . subst q;rw [YC (Ys _)] at h1;rw [YC (by rw [h.len];exact Ys _)] at h2;simp at h1;simp [h.len] at h2;subst h1 h2;rcases hd with r | ⟨i,o,r1,r2⟩
     . exact .inl r
     . obtain ⟨j',hj',ej⟩:=yf r1;exact .inr ⟨i,o,j',hj',by rw [YB hj',Ya hj',ej],r2⟩
   . rw [YF (by simp;omega)] at h1;cases h1
def Clo (tm tq:List (List Int)) (n m:Nat) (ks:List Nat) (o:Nat):Prop:=∀on,on<m->on∈ks\/∀i,i<n->¬Mv tm tq o on i
def nI (ks:List Nat):List D:=ks.map fun k:Nat=>D.int (k:Int)
theorem jqQ (ks:List Nat):(kI ks).map D.int=nI ks:=by unfold kI nI;rw [YL];rfl
theorem jpT {ks:List Nat} {j s:Nat} (h:ks[j]?=some s):jM (.lst (nI ks)) (.int j)=some (.int s):=by refine jab (by omega) ?_;rw [Yp];unfold nI;rw [List.getElem?_map,h];rfl
theorem jgH {n m:Nat} {tm tq:List (List Int)} (hr:Shape n m tm) (hp:Shape n m tq) {B:Nat->D->Prop} {ks:List Nat} {ds:List D} (R:Rch tm tq n m B ks ds) (hm:m<1000) {off on:Nat} (ho:off∈ks) (hn:on<m) (a:Slot) (t:Slot) (x8:Slot) :
 ∃ρ2,(jt (jE 8 (eIf (qw ‹"aN"›) (eC .non) ‹"V"›))
   (zQ (qw (jaA (ja 8)))
   (jt (jfs 3 (jq 7) (QP (jc (jq 8) (jc (jq 6) (jc (jq 7) jj)))))
   (zG 4 (jq 7))) jQ)) [.sh (.lst (tm.map jm)),.sh (.lst (tq.map jm)),a,.od (kI ks) ds,.ow (nI ks),t,.sh (.int off),.sh (.int on),x8]=.next ρ2 /\
   ∃ks' ds' y,ρ2=[.sh ‹"X"›,.sh ‹"C"›,a,.od (kI ks') ds',.ow (nI ks'),t,.sh (.int off),.sh (.int on),y]/\Rch tm tq n m B ks' ds'/\(∃e,ks'=ks++e)/\(on∈ks'\/∀i,i<n->¬Mv tm tq off on i):=by
 have tK:ks.length<1000:=Kl (Jv m ks R.nd R.lt) hm;have hc:qw ‹"aN"› ‹"a2"›=some (false != decide (on∈ks)):=jL (jn rfl rfl (jog R.nd R.len on false));by_cases hin:on∈ks
 . have e1:eIf (qw ‹"aN"›) (eC .non) ‹"V"› ‹"a2"›=some .non:=by unfold eIf;rw [hc];simp [hin,eC]
   refine ⟨_,(qf (qx e1)).trans (qH (jL rfl)),ks,ds,_,rfl,R,⟨[],by simp⟩,.inl hin⟩
 . obtain ⟨d,hd,ed⟩:=jho hr hp (R.lt off ho) hn;have e1:eIf (qw ‹"aN"›) (eC .non) ‹"V"› ‹"a2"›=some d:=by unfold eIf;rw [hc];simp only [hin,Kn];exact jx rfl ed
   rcases hd with ⟨rfl,hno⟩ | ⟨i,hi,rfl,hmv⟩
   . exact ⟨_,(qf (qx e1)).trans (qH (jL rfl)),ks,ds,_,rfl,R,⟨[],by simp⟩,.inr hno⟩
   . refine ⟨_,(qf (qx e1)).trans ((ZS (jL rfl)).trans ((qf (ρ':=[.sh ‹"X"›,.sh ‹"C"›,a,.od (kI (ks++[on])) (ds++[.tup [.int i,.int off,.int on]]),.ow (nI ks),t,.sh (.int off),.sh (.int on),.sh (.int i)]) ?_).trans ?_)),
       ks++[on],ds++[.tup [.int i,.int off,.int on]],.sh (.int i),rfl,R.snoc hin hn (.inr ⟨i,off,ho,hi,rfl,hmv⟩),⟨[on],rfl⟩,.inl (by simp)⟩
     . show (if Jm (kI ks).length=true then Res.next _ else Res.fail)=_;rw [if_pos (j2 (by rw [jjD];omega)),jlm hin,jkp hin];rfl
     . show (if Jm (nI ks).length=true then Res.next _ else Res.fail)=_;rw [if_pos (j2 (by unfold nI;rw [Yc];omega))];have:nI ks++[D.int (on:Int)]=nI (ks++[on]):=by unfold nI;rw [YO];rfl
       rw [this];rfl
theorem jgV {n m:Nat} {tm tq:List (List Int)} (hr:Shape n m tm) (hp:Shape n m tq) (hm:m<1000) {B:Nat->D->Prop} {ks0:List Nat} {ds0:List D} (R0:Rch tm tq n m B ks0 ds0) (hn:ks0≠[]->0<n) :
 ∃d,(∃ks ds,d=.dic (kI ks) ds/\Rch tm tq n m B ks ds/\(∃e,ks=ks0++e)/\∀o∈ks,Clo tm tq n m ks o)/\jaF [.lst (tm.map jm),.lst (tq.map jm),.dic (kI ks0) ds0]=some d:=by
 have hl0:ks0.length<1000:=Kl (Jv m ks0 R0.nd R0.lt) hm;unfold jaF;refine jar (ρ:=[.sh ‹"X"›,.sh ‹"C"›,.sh ‹"aD"›,.un,.un,.un,.un,.un,.un]) _ rfl rfl fun C fin=>?_;unfold jeJ;refine jF [.sh ‹"X"›,.sh ‹"C"›,.sh ‹"aD"›,.od (kI ks0) ds0,.un,.un,.un,.un,.un] rfl ?_;refine jF [.sh ‹"X"›,.sh ‹"C"›,.sh ‹"aD"›,.od (kI ks0) ds0,.ow (nI ks0),.un,.un,.un,.un] ?_ ?_
 . have e:jh jci (jc (ja 2) jj) [.sh ‹"X"›,.sh ‹"C"›,.sh ‹"aD"›,.od (kI ks0) ds0,.un,.un,.un,.un,.un]=some (nI ks0):=jx rfl (by show (if Jm (kI ks0).length=true then some ((kI ks0).map D.int) else none)=_;rw [if_pos (j2 (by rw [jjD];omega)),jqQ])
   unfold zc;rw [e];rfl
 refine jF [.sh ‹"X"›,.sh ‹"C"›,.sh ‹"aD"›,.od (kI ks0) ds0,.ow (nI ks0),.sh (.int ((0:Nat):Int)),.un,.un,.un] rfl ?_;refine jhF (fun k ρ=>∃(ks:List Nat) (ds:List D) (t:Nat) (x6 x7 x8:Slot),ρ=‹"ba"›/\k=m-t/\t<=ks.length/\Rch tm tq n m B ks ds/\(∃e,ks=ks0++e)/\(ks≠[]->0<n) /\
  ∀(j o:Nat),j<t->ks[j]?=some o->Clo tm tq n m ks o) (fun ρ=>∃(ks:List Nat) (ds:List D) (x4 x5 x6 x7 x8:Slot),ρ=[.sh (.lst (tm.map jm)),.sh (.lst (tq.map jm)),.sh (.dic (kI ks0) ds0),.od (kI ks) ds,x4,x5,x6,x7,x8]/\Rch tm tq n m B ks ds/\(∃e,ks=ks0++e)/\∀o∈ks,Clo tm tq n m ks o)
  (k:=m) ⟨ks0,ds0,0,_,_,_,rfl,rfl,yH _,R0,⟨[],by simp⟩,hn,fun j o h=>absurd h (by omega)⟩ ?_ ?_
 . rintro k ρ ⟨ks,ds,t,x6,x7,x8,rfl,rfl,ht,R,⟨e,he⟩,hn',hcl⟩;have tK:ks.length<=m:=Jv m ks R.nd R.lt;have hc:qw (jl dLt (ja 5) (jh qj (jc (ja 4) jj))) ‹"ba"›=some (decide ((t:Int)<((nI ks).length:Int))):=jL (jn rfl (jx rfl rfl) jaa);have hnl:(nI ks).length=ks.length:=Yc _;by_cases htl:t<ks.length
   . refine .inr ⟨by rw [hc,hnl];simp [htl],?_⟩;have n0:0<n:=hn' fun z=>by subst z;simp at htl
     have hoff:ks[t]?=some ks[t]:=Ya htl;have hmem:ks[t]∈ks:=KC htl;refine jjy fun C2 fin2=>?_;refine jF [.sh ‹"X"›,.sh ‹"C"›,.sh ‹"aD"›,.od (kI ks) ds,.ow (nI ks),.sh (.int (t:Int)),.sh (.int (ks[t]:Nat)),x7,x8] (qx (jn rfl rfl (jpT hoff))) ?_;refine jg3 (fun j:Nat=>D.int (j:Int)) m (fun j ρ=>∃(ks2:List Nat) (ds2:List D) (y7 y8:Slot),ρ=[.sh ‹"X"›,.sh ‹"C"›,.sh ‹"aD"›,.od (kI ks2) ds2,.ow (nI ks2),.sh (.int (t:Int)),.sh (.int (ks[t]:Nat)),y7,y8]/\Rch tm tq n m B ks2 ds2/\(∃e,ks2=ks++e) /\
       ∀on,on<j->on∈ks2\/∀i,i<n->¬Mv tm tq ks[t] on i) ?_ ⟨ks,ds,_,_,rfl,R,⟨[],by simp⟩,fun on h=>absurd h (by omega)⟩ ?_ ?_
     . rw [Jk (j:=(m:Int)) (jy (jx (jy (jn rfl rfl (jcv hr n0)) rfl) ?_) rfl) (by omega) (by omega),Yp,jbb];show some (D.int ((List.map D.int (tm.getD 0 [])).length:Int))=_;rw [Yc,(hr.row n0).2]
     . rintro j ρ hj ⟨ks2,ds2,y7,y8,rfl,R2,⟨e2,he2⟩,hon⟩;obtain ⟨ρ2,h1,ks3,ds3,y,rfl,R3,⟨e3,he3⟩,h4⟩:=jgH hr hp R2 hm (off:=ks[t]) (on:=j) (by rw [he2];exact Y9 _ hmem) hj (.sh ‹"aD"›) (.sh (.int (t:Int))) y8;refine ⟨_,_,rfl,h1,ks3,ds3,_,_,rfl,R3,⟨e2++e3,by rw [he3,he2,Ke]⟩,fun on h=>?_⟩;by_cases z:on=j
       . subst z;exact h4
       . rcases hon on (by omega) with q | q
         . exact .inl (by rw [he3];exact Y9 _ q)
         . exact .inr q
     . rintro ρ ⟨ks2,ds2,y7,y8,rfl,R2,⟨e2,he2⟩,hon⟩;refine fin2 _ (m-(t+1)) (by omega) ⟨ks2,ds2,t+1,_,_,_,rfl,rfl,by rw [he2,YU];omega,R2,⟨e++e2,by rw [he2,he,Ke]⟩,fun _=>n0,fun j o hj ho=>?_⟩;have up:∀x,x∈ks->x∈ks2:=fun x hx=>by rw [he2];exact Y9 _ hx
       have ho':ks[j]?=some o:=by rw [he2,YB (by omega)] at ho;exact ho
       by_cases z:j=t
       . subst z;rw [hoff] at ho';cases ho';exact hon
       . intro on h;rcases hcl j o (by omega) ho' on h with q | q
         . exact .inl (up _ q)
         . exact .inr q
   . refine .inl ⟨by rw [hc,hnl];simp [htl],ks,ds,_,_,_,_,_,rfl,R,⟨e,he⟩,fun o ho=>?_⟩;obtain ⟨j,hj,ej⟩:=yf ho;exact hcl j o (by omega) (by rw [Ya hj,ej])
 . rintro ρ ⟨ks,ds,x4,x5,x6,x7,x8,rfl,R,he,hcl⟩;exact fin _ ⟨ks,ds,rfl,R,he,hcl⟩
def joI (P:List (List Int)) (i:Nat):Int:=(P.getD i []).sum
theorem jeY {n m:Nat} {P:List (List Int)} (h:Shape n m P) {i:Nat} (hi:i<n):joI P i=j8 (fun s=>Jj P i s) m:=by unfold joI;rw [jdk,(h.row hi).2];rfl
theorem jil {n m:Nat} {P:List (List Int)} (h:Shape n m P) (s:Nat):qt P s=j8 (fun i=>Jj P i s) n:=by unfold qt;rw [jid (fun r:List Int=>r.getD s 0) [],h.1];rfl
def jrA:Option Nat->D
 | some o=>.int (o:Int)
 | none=>.non
def jP (q:Nat×Option Nat×Nat):D:=.tup [.int q.1,jrA q.2.1,.int q.2.2]
inductive Path (ks:List Nat) (ds:List D):Nat->List (Nat×Option Nat×Nat)->Prop
 | p {j s i:Nat}:ks[j]?=some s->ds[j]?=some (.tup [.int i,.non,.int s])->Path ks ds j [(i,none,s)]
 | c {j:Nat}:ds[j]?=some .non->Path ks ds j []
 | s {j j' s i o:Nat} {p:List (Nat×Option Nat×Nat)}:Path ks ds j' p->j'<j->ks[j']?=some o->ks[j]?=some s->ds[j]?=some (.tup [.int i,.int o,.int s])->Path ks ds j (p++[(i,some o,s)])
theorem jmu {a n:Nat} {m:FS} {ds:List D} {ρ:ee} (Pr:List D->Prop) (h1:ds.length=a) (h2:qK n ds=ρ) (h:∀C:Res->Prop,(∀d,Pr d->C (.retO d))->C (m ρ)):∃d,Pr d/\J9 a n m ds=some d:=by unfold J9;rw [if_pos h1,h2];exact h (fun r=>∃d,Pr d/\jbQ r=some d) fun d hd=>⟨d,hd,rfl⟩
theorem jgo {n m:Nat} {tm tq:List (List Int)} {B:Nat->D->Prop} {ks:List Nat} {ds:List D} (R:Rch tm tq n m B ks ds) (hm:m<1000) (hB:∀s d,B s d->d=.non\/∃i:Nat,d=.tup [.int i,.non,.int s]) {j0 s0:Nat} (h0:ks[j0]?=some s0) :
 ∃l,(∃p,Path ks ds j0 p/\l=p.map jP)/\Zk [.dic (kI ks) ds,.int s0]=some l:=by
 have tK:ks.length<1000:=Kl (Jv m ks R.nd R.lt) hm;have at_:∀{j s:Nat},ks[j]?=some s->∃d,ds[j]?=some d/\zo (kI ks) ds (s:Int)=some d:=fun {j s} h=>by
  have hj:j<ds.length:=by rw [<-R.len];exact (Yh.mp h).1
  exact ⟨_,Ya hj,jeX R.nd h (Ya hj)⟩
 obtain ⟨d0,hd0,hl0⟩:=at_ h0;unfold Zk;refine jmu (ρ:=[.sh ‹"bc"›,.sh (.int s0),.un,.un]) _ rfl rfl fun C fin=>?_;unfold jcW;refine jF [.sh ‹"bc"›,.sh (.int s0),.ow [],.un] rfl ?_;refine jF [.sh ‹"bc"›,.sh (.int s0),.ow [],.sh d0] (qx (jn rfl rfl hl0)) ?_;refine jhF (fun k ρ=>∃(suf:List ‹"k"›) (d:D),ρ=‹"af"› /\
  ((∃j s,k=j+1/\ks[j]?=some s/\ds[j]?=some d/\suf.length+j<1000/\∀p,Path ks ds j p->Path ks ds j0 (p++suf))\/(k=0/\d=.non/\Path ks ds j0 suf)))
  (fun ρ=>∃(suf:List ‹"k"›) (d:D),ρ=‹"af"›/\Path ks ds j0 suf) (k:=j0+1)
  ⟨[],d0,rfl,.inl ⟨j0,s0,rfl,h0,hd0,by simp;have:=(Yh.mp h0).1;omega,fun p hp=>by simpa using hp⟩⟩ ?_ ?_
 . rintro k ρ ⟨suf,d,rfl,h⟩;have app:∀(q:Nat×Option Nat×Nat) (x:D),suf.length<1000->∀y,jl jaT (ja 0) (jl jM (ja 3) (eC (.int 1))) [.sh ‹"bc"›,.sh (.int s0),.ow ((q::suf).reverse.map jP),.sh (jP q)]=some y->
       jt (zG 2 (jq 3)) (jE 3 (jl jaT (ja 0) (jl jM (ja 3) (eC (.int 1))))) [.sh ‹"bc"›,.sh (.int s0),.ow (suf.reverse.map jP),.sh (jP q)]=.next [.sh ‹"bc"›,.sh (.int s0),.ow ((q::suf).reverse.map jP),.sh y]:=fun q x hl y hy=>by
    refine (qf (ρ':=[.sh ‹"bc"›,.sh (.int s0),.ow ((q::suf).reverse.map jP),.sh (jP q)]) ?_).trans (qx hy);show (if Jm (suf.reverse.map jP).length=true then Res.next _ else Res.fail)=_;rw [if_pos (j2 (by simp;omega)),List.reverse_cons,YO];rfl
   rcases h with ⟨j,s,rfl,hj,hd,hl,hp⟩ | ⟨rfl,rfl,hp⟩
   . have hcases:d=.non\/(∃i:Nat,d=.tup [.int i,.non,.int s])\/∃i o j':Nat,j'<j/\ks[j']?=some o/\d=.tup [.int i,.int o,.int s]:=by
       rcases R.val j s d hj hd with b | ⟨i,o,j',r1,r2,_,r3,_⟩
       . rcases hB s d b with z | z
         . exact .inl z
         . exact .inr (.inl z)
       . exact .inr (.inr ⟨i,o,j',r1,r2,r3⟩)
     rcases hcases with rfl | ⟨i,rfl⟩ | ⟨i,o,j',r1,r2,rfl⟩
     . exact .inl ⟨jL rfl,suf,_,rfl,by simpa using hp [] (.c hd)⟩
     . refine .inr ⟨jL rfl,_,0,app (i,none,s) .non (by omega) .non (jn rfl (jn rfl rfl zR) rfl),by omega,_,_,rfl,.inr ⟨rfl,rfl,hp _ (.p hj hd)⟩⟩
     . obtain ⟨d',hd',hl'⟩:=at_ r2;refine .inr ⟨jL rfl,_,j' + 1,app (i,some o,s) .non (by omega) d' (jn rfl (jn rfl rfl zR) ?_),by omega,_,_,rfl,.inl ⟨j',o,rfl,r2,hd',by simp;omega,fun p h=>?_⟩⟩
       . show some ((zo (kI ks) ds (o:Int)).getD .non)=_;rw [hl'];rfl
       . have:=hp _ (.s h r1 r2 hj hd);simpa using this
   . exact .inl ⟨jL rfl,suf,_,rfl,hp⟩
 . rintro ρ ⟨suf,d,rfl,hp⟩;have e:jh jgb (jc (ja 2) jj) ‹"af"›=some (suf.map jP):=jx rfl (by show some (suf.reverse.map jP).reverse=_;rw [<-List.map_reverse,List.reverse_reverse])
   rw [jct e];exact fin _ ⟨suf,hp,rfl⟩
def mD (P:List (List Int)):List (List D):=P.map fun r=>r.map D.int
def jg9 (P:List (List Int)) (i s:Nat) (v:Int):List (List Int):=P.set i ((P.getD i []).set s v)
theorem Shape.put {n m:Nat} {P:List (List Int)} (h:Shape n m P) {i:Nat} (hi:i<n) (s:Nat) (v:Int):Shape n m (jg9 P i s v):=by
 refine ⟨by unfold jg9;rw [yS];exact h.1,fun r hr=>?_⟩;rcases List.mem_or_eq_of_mem_set hr with q | q
 . exact h.2 r q
 . rw [q,yS];exact (h.row hi).2
theorem jee {n m:Nat} {P:List (List Int)} (h:Shape n m P) {i s:Nat} (hi:i<n) (hs:s<m) (v:Int) (i' s':Nat):Jj (jg9 P i s v) i' s'=if i'=i/\s'=s then v else Jj P i' s':=by
 have hi':i<P.length:=by rw [h.1];exact hi
 have hs':s<(P.getD i []).length:=by rw [(h.row hi).2];exact hs
 unfold Jj jg9;by_cases z:i'=i
 . subst z;rw [Ye (l:=P.set _ _),Y1 hi',Option.getD_some];by_cases y:s'=s
   . subst y;rw [Ye,Y1 hs',Option.getD_some,if_pos ⟨rfl,rfl⟩]
   . rw [Ye,YQ (Ne.symm y),<- Ye,if_neg fun q=>y q.2]
 . rw [Ye (l:=P.set _ _),YQ (Ne.symm z),<- Ye,if_neg fun q=>z q.1]
def ind (p:Prop) [Decidable p]:Int:=if p then 1 else 0
theorem JB {p:Prop} [Decidable p] (h:p):ind p=1:=if_pos h
theorem zi {p:Prop} [Decidable p] (h:¬p):ind p=0:=if_neg h
def inc (p:List ‹"k"›) (i s:Nat):Int:=(p.map fun q=>ind (q.1=i/\q.2.2=s)).sum
def dec (p:List ‹"k"›) (i s:Nat):Int:=(p.map fun q=>ind (q.1=i/\q.2.1=some s)).sum
theorem Zs (p:List ‹"k"›) (q:Nat×Option Nat×Nat) (i s:Nat):inc (p++[q]) i s=inc p i s+ind (q.1=i/\q.2.2=s):=by unfold inc;rw [YO,List.sum_append];simp
theorem Zn (p:List ‹"k"›) (q:Nat×Option Nat×Nat) (i s:Nat):dec (p++[q]) i s=dec p i s+ind (q.1=i/\q.2.1=some s):=by unfold dec;rw [YO,List.sum_append];simp
theorem jeO {n m:Nat} {Q:List (List Int)} (h:Shape n m Q) {i s:Nat} (hi:i<n) (hs:s<m) {v:Int} {g:Int->Int->Int} {fk fl fv:ee->Option D} {a b c x y z:Slot} (hk:fk [a,b,c,.oo (mD Q),x,y,z]=some (.int i)) (hl:fl [a,b,c,.oo (mD Q),x,y,z]=some (.int s)) (hv:fv [a,b,c,.oo (mD Q),x,y,z]=some (.int v)) :
 jdh 3 fk fl fv g [a,b,c,.oo (mD Q),x,y,z]=.next [a,b,c,.oo (mD (jg9 Q i s (g (Jj Q i s) v))),x,y,z]:=by
 have e1:(mD Q)[i]?=some ((Q.getD i []).map D.int):=by unfold mD;rw [List.getElem?_map,(h.row hi).1];rfl
 have hs':s<(Q.getD i []).length:=by rw [(h.row hi).2];exact hs
 have e2:((Q.getD i []).map D.int)[s]?=some (.int (Jj Q i s)):=by rw [List.getElem?_map];unfold Jj;rw [Ye (l:=Q.getD i []),Ya hs'];rfl
 have e0:jgl 3 fk fl fv g [a,b,c,.oo (mD Q),x,y,z]=some [a,b,c,.oo ((mD Q).set i ‹"au"›),x,y,z]:=by unfold jgl;rw [hk,hl,hv];show (if 0<=(i:Int)/\0<=(s:Int) then (mD Q)[(i:Int).toNat]?.bind fun ds=>(ds[(s:Int).toNat]?.bind asI).map fun y1=>[a,b,c,.oo ((mD Q).set (i:Int).toNat (ds.set (s:Int).toNat (.int (g y1 v)))),x,y,z] else none)=_;rw [if_pos ⟨by omega,by omega⟩,Yp,Yp,e1];show ((((Q.getD i []).map D.int)[s]?).bind asI).map _=_;rw [e2];rfl
 unfold jdh;rw [e0];show Res.next [a,b,c,.oo ((mD Q).set i ‹"au"›),x,y,z]=_;have e3:(mD Q).set i ‹"au"›=mD (jg9 Q i s (g (Jj Q i s) v)):=by unfold mD jg9;rw [KJ,KJ]
 rw [e3]
theorem jfw {ρ:ee} {m:D->ee->Option ee} {fe:ee->Option (List D)}:∀(P:List (List Int)),(∀r,r∈P->∃ρ1,m (jm r) ρ=some ρ1/\fe ρ1=some (r.map D.int))->jbI m ‹"l"› fe ρ (P.map jm)=some (mD P)
 | [],_=>rfl
 | r::P,h=>by obtain ⟨ρ1,h1,h2⟩:=h r Yf;rw [List.map_cons];simp only [jbI,h1,Yd,yo,h2,jfw P fun x hx=>h x (Yj _ hx),Yi];rfl
theorem jga {n m:Nat} {tq:List (List Int)} (hp:Shape n m tq) (hn:n<1000) {p:List ‹"k"›} (hw:∀q∈p,q.1<n/\q.2.2<m/\∀o,q.2.1=some o->o<m) (v:Int) :
 ∃d,(∃Q,d=.lst (Q.map jm)/\Shape n m Q/\∀i s,Jj Q i s=Jj tq i s+v*(inc p i s-dec p i s))/\jay [.lst (tq.map jm),.lst (p.map jP),.int v]=some d:=by
 unfold jay;refine jar (ρ:=[.sh ‹"C"›,.sh ‹"O"›,.sh (.int v),.un,.un,.un,.un]) _ rfl rfl fun C fin=>?_;unfold jcS;refine jF [.sh ‹"C"›,.sh ‹"O"›,.sh (.int v),.oo (mD tq),.un,.un,.un] ?_ ?_
 . have e:jky (qg (ja 0)) (jz 0) ‹"l"› (jh J4 (jc (ja 0) jj)) 1 [] [.sh ‹"C"›,.sh ‹"O"›,.sh (.int v),.un,.un,.un,.un]=some (mD tq):=by unfold jky;rw [qF rfl,Yd,if_pos (j2 (by rw [Yc,hp.1];omega))];exact jfw tq fun r hr=>⟨_,rfl,rfl⟩
   unfold jcd;rw [e];rfl
 refine jjn jP p (fun pre ρ=>∃(Q:List (List Int)) (x y z:Slot),ρ=[.sh ‹"C"›,.sh ‹"O"›,.sh (.int v),.oo (mD Q),x,y,z]/\Shape n m Q/\∀i s,Jj Q i s=Jj tq i s+v*(inc pre i s-dec pre i s)) (qF rfl) ⟨tq,_,_,_,rfl,hp,fun i s=>by show _=_+v*(0-0);omega⟩ ?_ ?_
 . rintro pre q jda ρ hl ⟨Q,x,y,z,rfl,hQ,hat⟩;obtain ⟨q1,q2,q3⟩:=hw q (by rw [hl];simp);obtain ⟨i,off,s⟩:=q;dsimp only at q1 q2 q3;cases off with
   | none=>
     refine ⟨[.sh ‹"C"›,.sh ‹"O"›,.sh (.int v),.oo (mD Q),.sh (.int i),.sh .non,.sh (.int s)],_,rfl,(qf (qH (jL rfl))).trans (jeO hQ q1 q2 rfl rfl rfl),_,_,_,_,rfl,hQ.put q1 _ _,fun i' s'=>?_⟩;rw [jee hQ q1 q2,Zs,Zn,hat i' s',hat i s];by_cases c:i'=i/\s'=s
     . obtain ⟨rfl,rfl⟩:=c;rw [if_pos ⟨rfl,rfl⟩];simp only [ind,and_self,yo,reduceCtorEq,and_false,yy];rw [show inc pre i' s' + 1-(dec pre i' s' + 0)=inc pre i' s' - dec pre i' s' + 1 by omega,Int.mul_add];omega
     . rw [if_neg c];have c1:¬(i=i'/\s=s'):=fun z=>c ⟨z.1.symm,z.2.symm⟩;simp only [ind,c1,reduceCtorEq,and_false,yy];rw [show inc pre i' s' + 0-(dec pre i' s' + 0)=inc pre i' s' - dec pre i' s' by omega]
   | some o=>
     have ho:=q3 o rfl;refine ⟨[.sh ‹"C"›,.sh ‹"O"›,.sh (.int v),.oo (mD Q),.sh (.int i),.sh (.int o),.sh (.int s)],_,rfl,(qf ((ZS (jL rfl)).trans (jeO hQ q1 ho rfl rfl rfl))).trans (jeO (hQ.put q1 _ _) q1 q2 rfl rfl rfl),_,_,_,_,rfl,(hQ.put q1 _ _).put q1 _ _,fun i' s'=>?_⟩;rw [jee (hQ.put q1 _ _) q1 q2,jee hQ q1 ho,jee hQ q1 ho,Zs,Zn,hat i' s',hat i o,hat i s];generalize hA:inc pre i' s'=A;generalize hB:dec pre i' s'=B;by_cases c:i'=i/\s'=s
     . obtain ⟨rfl,rfl⟩:=c;rw [if_pos ⟨rfl,rfl⟩];by_cases c2:s'=o
       . subst c2;rw [if_pos ⟨rfl,rfl⟩,hA,hB];simp only [ind,and_self,yo];rw [show A+1-(B+1)=A-B by omega];omega
       . have c3:¬(i'=i'/\s'=o):=fun z=>c2 z.2;have c4:¬(i'=i'/\some o=some s'):=fun z=>c2 (Option.some.inj z.2).symm;rw [if_neg c3,hA,hB];rw [JB ⟨rfl,rfl⟩,zi c4];rw [show A+1-(B+0)=A-B+1 by omega,Int.mul_add];omega
     . rw [if_neg c];have c1:¬(i=i'/\s=s'):=fun z=>c ⟨z.1.symm,z.2.symm⟩;by_cases c2:i'=i/\s'=o
       . obtain ⟨rfl,rfl⟩:=c2;rw [if_pos ⟨rfl,rfl⟩,hA,hB];rw [zi c1,JB ⟨rfl,rfl⟩];rw [show A+0-(B+1)=A-B-1 by omega,Int.mul_sub v (A-B) 1];omega
       . have c4:¬(i=i'/\some o=some s'):=fun z=>c2 ⟨z.1.symm,(Option.some.inj z.2).symm⟩;rw [if_neg c2];simp only [ind,c1,c4,yy];rw [show A+0-(B+0)=A-B by omega]
 . rintro ρ ⟨Q,x,y,z,rfl,hQ,hat⟩;have e:jad 3 (j6 (jq 3)) [.sh ‹"C"›,.sh ‹"O"›,.sh (.int v),.oo (mD Q),x,y,z]=.ret (.lst (Q.map jm)):=by show Res.ret (.lst ((mD Q).map D.lst))=_;unfold mD;rw [YL];rfl
   rw [e];exact fin _ ⟨Q,rfl,hQ,hat⟩
theorem zu {n a:Nat} (c:Int):j8 (fun j=>if a=j then c else 0) n=if a<n then c else 0:=by
 induction n with
 | zero=>simp [j8]
 | succ n ih=>
   show j8 _ n+(if a=n then c else 0)=_;rw [ih];by_cases h:a<n
   . rw [if_pos h,if_neg (by omega),if_pos (by omega)];omega
   . by_cases h2:a=n
     . rw [if_neg h,if_pos h2,if_pos (by omega)];omega
     . rw [if_neg h,if_neg h2,if_neg (by omega)];omega
theorem jfz {n a:Nat} (h:a<n) (P:Prop) [Decidable P]:j8 (fun i=>ind (a=i/\P)) n=ind P:=by
 rw [qq (g:=fun i=>if a=i then ind P else 0),zu,if_pos h];intro i _;by_cases z:a=i
 . rw [if_pos z];by_cases q:P
   . rw [JB q,JB ⟨z,q⟩]
   . rw [zi q,zi fun w=>q w.2]
 . rw [if_neg z,zi fun w=>z w.1]
theorem jfR {m b:Nat} (h:b<m) (P:Prop) [Decidable P]:j8 (fun s=>ind (P/\b=s)) m=ind P:=by
 rw [qq (g:=fun s=>if b=s then ind P else 0),zu,if_pos h];intro s _;by_cases z:b=s
 . rw [if_pos z];by_cases q:P
   . rw [JB q,JB ⟨q,z⟩]
   . rw [zi q,zi fun w=>q w.1]
 . rw [if_neg z,zi fun w=>z w.2]
theorem jfh {p:List ‹"k"›} {i s:Nat} (h:∀q∈p,¬(q.1=i/\q.2.2=s)):inc p i s=0:=by
 induction p with
 | nil=>rfl
 | cons q p ih=>
   have e:inc (q::p) i s=ind (q.1=i/\q.2.2=s)+inc p i s:=by unfold inc;rw [List.map_cons,List.sum_cons]
   rw [e,zi (h q Yf),ih fun x hx=>h x (Yj _ hx)];rfl
theorem jfr {p:List ‹"k"›} {i s:Nat} (h:∀q∈p,¬(q.1=i/\q.2.1=some s)):dec p i s=0:=by
 induction p with
 | nil=>rfl
 | cons q p ih=>
   have e:dec (q::p) i s=ind (q.1=i/\q.2.1=some s)+dec p i s:=by unfold dec;rw [List.map_cons,List.sum_cons]
   rw [e,zi (h q Yf),ih fun x hx=>h x (Yj _ hx)];rfl
theorem jj0 (P:Prop) [Decidable P]:0<=ind P/\ind P<=1:=by unfold ind;split <;> omega
theorem Qq {ks:List Nat} (nd:ks.Nodup) {a b s:Nat} (h1:ks[a]?=some s) (h2:ks[b]?=some s):a=b:=by
 obtain ⟨ha,ea⟩:=Yh.mp h1;obtain ⟨hb,eb⟩:=Yh.mp h2;have key:=KA.mp nd;rcases Nat.lt_trichotomy a b with q | q | q
 . exact absurd (ea.trans eb.symm) (key a b ha hb q)
 . exact q
 . exact absurd (eb.trans ea.symm) (key b a hb ha q)
structure PathOk (tm tq:List (List Int)) (n m:Nat) (ks:List Nat) (j s:Nat) (p:List (Nat×Option Nat×Nat)) (row:Nat->Int) (col:Nat->Int):Prop where
 ok:∀q∈p,q.1<n/\q.2.2<m/\(∀o,q.2.1=some o->o<m)/\Jj tq q.1 q.2.2<Jj tm q.1 q.2.2/\∀o,q.2.1=some o->0<Jj tq q.1 o
 on:∀q∈p,∃a,a<=j/\ks[a]?=some q.2.2
 off:∀q∈p,∀o,q.2.1=some o->∃a,a<j/\ks[a]?=some o
 len:p.length<=j+1
 inc1:∀i t,0<=inc p i t/\inc p i t<=1
 dec1:∀i t,0<=dec p i t/\dec p i t<=1
 cols:∀t,t<m->j8 (fun i=>inc p i t-dec p i t) n=ind (s=t)-col t
 rows:∀i,i<n->j8 (fun t=>inc p i t-dec p i t) m=row i
theorem PathOk.step {tm tq:List (List Int)} {n m:Nat} {ks:List Nat} (nd:ks.Nodup) {j j' s i o:Nat} {p:List ‹"k"›} {row col:Nat->Int} (h:PathOk tm tq n m ks j' o p row col) (hj:j'<j) (ho:ks[j']?=some o) (hs:ks[j]?=some s) (hom:o<m) (hsm:s<m) (hi:i<n) (hmv:Mv tm tq o s i) :
 PathOk tm tq n m ks j s (p++[(i,some o,s)]) row col:=by
 refine ⟨fun q hq=>?_,fun q hq=>?_,fun q hq x hx=>?_,?_,fun i' t=>?_,fun i' t=>?_,fun t ht=>?_,fun i' hi'=>?_⟩
 . rcases Y7.mp hq with hq | hq
   . exact h.ok q hq
   . rw [YN.mp hq];exact ⟨hi,hsm,fun x hx=>by cases hx;exact hom,hmv.2,fun x hx=>by cases hx;exact hmv.1⟩
 . rcases Y7.mp hq with hq | hq
   . obtain ⟨a,h1,h2⟩:=h.on q hq;exact ⟨a,by omega,h2⟩
   . rw [YN.mp hq];exact ⟨j,Ys _,hs⟩
 . rcases Y7.mp hq with hq | hq
   . obtain ⟨a,h1,h2⟩:=h.off q hq x hx;exact ⟨a,by omega,h2⟩
   . rw [YN.mp hq] at hx;cases hx;exact ⟨j',hj,ho⟩
 . have:=h.len;simp;omega
 . rw [Zs];have h1:=h.inc1 i' t;by_cases c:i=i'/\s=t
   . have z:inc p i' t=0:=jfh fun q hq w=>by obtain ⟨a,a1,a2⟩:=h.on q hq;rw [w.2,<- c.2] at a2;have:=Qq nd a2 hs;omega
     rw [z,JB (show (i,some o,s).1=i'/\(i,some o,s).2.2=t from c)];omega
   . rw [zi (show ¬((i,some o,s).1=i'/\(i,some o,s).2.2=t) from c)];omega
 . rw [Zn];have h1:=h.dec1 i' t;by_cases c:i=i'/\some o=some t
   . have z:dec p i' t=0:=jfr fun q hq w=>by obtain ⟨a,a1,a2⟩:=h.off q hq t w.2;rw [<-Option.some.inj c.2] at a2;have:=Qq nd a2 ho;omega
     rw [z,JB (show (i,some o,s).1=i'/\(i,some o,s).2.1=some t from c)];omega
   . rw [zi (show ¬((i,some o,s).1=i'/\(i,some o,s).2.1=some t) from c)];omega
 . rw [qq (g:=fun i'=>(inc p i' t-dec p i' t)+(ind (i=i'/\s=t)-ind (i=i'/\o=t))),Jz,Za (f:=fun i'=>ind (i=i'/\s=t)) (g:=fun i'=>ind (i=i'/\o=t)),jfz hi,jfz hi,h.cols t ht]
   . omega
   . intro i' _;rw [Zs,Zn];have e1:ind ((i,some o,s).1=i'/\(i,some o,s).2.2=t)=ind (i=i'/\s=t):=rfl;have e2:ind ((i,some o,s).1=i'/\(i,some o,s).2.1=some t)=ind (i=i'/\o=t):=by
       by_cases c:i=i'/\o=t
       . rw [JB c,JB (show (i,some o,s).1=i'/\(i,some o,s).2.1=some t from ⟨c.1,congrArg some c.2⟩)]
       . rw [zi c,zi fun w=>c ⟨w.1,Option.some.inj w.2⟩]
     rw [e1,e2];omega
 . rw [qq (g:=fun t=>(inc p i' t-dec p i' t)+(ind (i=i'/\s=t)-ind (i=i'/\o=t))),Jz,Za (f:=fun t=>ind (i=i'/\s=t)) (g:=fun t=>ind (i=i'/\o=t)),jfR hsm,jfR hom,h.rows i' hi']
   . omega
   . intro t _;rw [Zs,Zn];have e1:ind ((i,some o,s).1=i'/\(i,some o,s).2.2=t)=ind (i=i'/\s=t):=rfl;have e2:ind ((i,some o,s).1=i'/\(i,some o,s).2.1=some t)=ind (i=i'/\o=t):=by
       by_cases c:i=i'/\o=t
       . rw [JB c,JB (show (i,some o,s).1=i'/\(i,some o,s).2.1=some t from ⟨c.1,congrArg some c.2⟩)]
       . rw [zi c,zi fun w=>c ⟨w.1,Option.some.inj w.2⟩]
     rw [e1,e2];omega
theorem jpY {v a b:Int} (ha:0<=a/\a<=1) (hb:0<=b/\b<=1):(v*(a-b)=0)\/(v*(a-b)=v/\a=1)\/(v*(a-b) = -v/\b=1):=by
 have h1:a=0\/a=1:=by omega
 have h2:b=0\/b=1:=by omega
 rcases h1 with rfl | rfl <;> rcases h2 with rfl | rfl
 . left;simp
 . right;right;simp
 . right;left;simp
 . left;simp
theorem jmt {p:List ‹"k"›} {i s:Nat} (h:inc p i s=1):∃q,q∈p/\q.1=i/\q.2.2=s:=Classical.byContradiction fun c=>by rw [jfh fun q hq w=>c ⟨q,hq,w⟩] at h;omega
theorem jlG {p:List ‹"k"›} {i s:Nat} (h:dec p i s=1):∃q,q∈p/\q.1=i/\q.2.1=some s:=Classical.byContradiction fun c=>by rw [jfr fun q hq w=>c ⟨q,hq,w⟩] at h;omega
theorem jkL {n m:Nat} {P:List (List Int)} (h:Shape n m P) {j:Nat} (hj:j<m):∀r∈P,j<r.length:=fun r hr=>by rw [h.2 r hr];exact hj
theorem jn7 {s:Nat} {r:List Nat}:jM (.lst (nI (s::r))) (.int 0)=some (.int s):=je4
theorem jd9 {s:Ship} (hs:Sm s) (p:Int×Int):jbh [ji s,ju p]=some (.int (qR s p)):=by
 have h1:=hs.1;have h2:=hs.2;have el:=jbl p;unfold jbh jgv qR;unfold ju at el ⊢;unfold ji;simp (disch:=omega) only [zb,Yy,YZ,Kp,Nat.reduceAdd,jdm,jt,zQ,jat,qw,jl,ja,qK,List.map_cons,yD,KI,yR,yU,Kq,Yg,eC,Yd,JI,Yn,jaS,zR,j6,ja4,jh,jc,jq,jj,Yi,jQ,yo];by_cases c1:s.b<=p.1
 . by_cases c2:p.2<=s.e
   . simp only [c1,c2,KY,and_self,yo,el];simp (disch:=omega) only [Yd,QO]
   . simp only [c1,c2,KY,Kn,and_false,yy]
 . simp only [c1,Kn,false_and,yy]
def Z9 (fl:List Ship) (s:Ship):D:=jm ((jg fl).map (qR s))
theorem jdD {fl:List Ship} (hs:∀s∈fl,Sm s) (hl:fl.length<20):Z4 [.lst (fl.map ji)]=some (fl.map (Z9 fl)):=by
 have est:=J1 fl hl;have hsl:=zC hl
 suffices main:∀C:Res->Prop,C (.retO (fl.map (Z9 fl)))->C (QU [.sh ‹"d"›,.un]) by exact main (fun r=>jbQ r=some (fl.map (Z9 fl))) rfl
 intro C fin;unfold QU;refine jF [.sh ‹"d"›,.sh ‹"i"›] (by simp (disch:=omega) only [jE,jN,jh,jc,jq,Yg,jj,Yi,Yd,Yv,Yz];simp only [est];simp (disch:=omega) only [Yi]) ?_;have last:∀r,r=Res.retO (fl.map (Z9 fl))->C r:=fun r h=>by rw [h];exact fin
 refine last _ ?_;unfold Jc;rw [qV (qF rfl) (by rw [Yc];omega) (Jo ji (Z9 fl) fl fun s h=>?_)];refine ⟨[.sh (ji s),.sh ‹"i"›],rfl,rfl,?_⟩;unfold jN;rw [qV (qF rfl) (by rw [Yc];omega) (Jo ju (fun p=>.int (qR s p)) (jg fl) fun p hp=>?_)]
 . unfold Z9 jm;rw [YL];rfl
 . refine ⟨[.sh (ju p),.sh (ji s)],rfl,rfl,?_⟩;have e:=jd9 (hs s h) p;simp (disch:=omega) only [jh,jc,jq,Yn,Yg,jj,Yi,Yd];exact e
theorem je6 {fl:List Ship} (hl:fl.length<20):Jh [.lst (fl.map ji)]=some (((jg fl).map fun p=>p.2-p.1).map D.int):=by
 have est:=J1 fl hl;have hsl:=zC hl;have e:Jh [.lst (fl.map ji)]=jbQ (JQ [.sh ‹"d"›]):=rfl;rw [e];unfold JQ Jc;rw [qV (qF (l:=(jg fl).map ju) (by simp (disch:=omega) only [jN,jh,jc,jq,Yg,jj,Yi,Yd];simp only [est];simp (disch:=omega) only [Yi])) (by rw [Yc];omega) (Jo ju (fun p=>.int (p.2-p.1)) (jg fl) fun p hp=>?_)]
 . rw [YL];rfl
 . refine ⟨[.sh (ju p)],rfl,rfl,?_⟩;have el:=jbl p;simp (disch:=omega) only [jh,jc,jq,Yg,jj,Yi,Yd];exact el
theorem qP {fl:List Ship} (hfl:∀s∈fl,s.Ok) {j:Nat} (h:j<(jg fl).length):0<zp fl j/\zp fl j<2000000000000000:=by
 obtain ⟨h1,h2,h3⟩:=jaH (jhs h);have bd:∀k∈J8 fl,-500000000000000<=k/\k<=1000000000000000:=fun k hk=>by
  rcases Y7.mp (mem_bnds.mp hk) with z | z
  . obtain ⟨s,hs,rfl⟩:=Y3.mp z;have:=(hfl s hs).lo;have:=(hfl s hs).hi;omega
  . obtain ⟨s,hs,rfl⟩:=Y3.mp z;have:=(hfl s hs).lo;have:=(hfl s hs).hi;have:=(hfl s hs).lt;have:=(hfl s hs).long;omega
 have:=bd _ h2;have:=bd _ h3;unfold zp;omega
def j1 (fl:List Ship):List (List Int):=fl.map fun s=>(jg fl).map (qR s)
def jfp (fl:List Ship):List Int:=fl.map (·.n)
theorem Zu (fl:List Ship):Shape fl.length (jg fl).length (j1 fl):=⟨Yc _,fun r hr=>by unfold j1 at hr;obtain ⟨s,_,rfl⟩:=Y3.mp hr;rw [Yc]⟩
def shp (fl:List Ship) (i:Nat):Ship:=fl.getD i ⟨0,0,0,0⟩
theorem Zt {fl:List Ship} {i:Nat} (h:i<fl.length):fl[i]?=some (shp fl i):=by unfold shp;rw [Ye,Ya h];rfl
theorem QK {fl:List Ship} {i:Nat} (h:i<fl.length):shp fl i∈fl:=YE (Zt h)
theorem jb7 {fl:List Ship} {i j:Nat} (hi:i<fl.length) (hj:j<(jg fl).length):Jj (j1 fl) i j=qR (shp fl i) (spn fl j):=by
 unfold Jj j1;have e:(fl.map fun s=>(jg fl).map (qR s)).getD i []=(jg fl).map (qR (shp fl i)):=by rw [Ye,List.getElem?_map,Zt hi];rfl
 rw [e,Ye,List.getElem?_map,QR hj];rfl
theorem jal {fl:List Ship} {i:Nat} (hi:i<fl.length):(jfp fl).getD i 0=(shp fl i).n:=by unfold jfp;rw [Ye,List.getElem?_map,Zt hi];rfl
theorem jlH (fl:List Ship):fl.map (Z9 fl)=(j1 fl).map jm:=by unfold j1;rw [YL];rfl
def idx (mk:Nat->Bool) (m:Nat):List Nat:=(List.range m).filter fun j=>mk j
def keep (mk:Nat->Bool) (x:List Int):List Int:=(idx mk x.length).map fun j=>x.getD j 0
def nt (mk:Nat->Bool):Nat->Bool:=fun s=>!mk s
def pl (mk:Nat->Bool) (m t:Nat):Nat:=(idx mk m).getD t 0
theorem jaw:∀M:List Bool,jfx (M.map D.bl)=some M
 | []=>rfl
 | b::M=>by show (jfx (M.map D.bl)).map (b::·)=_;rw [jaw M];rfl
structure Prob (n m:Nat) (rR:List Int) (tm:List (List Int)) (tW:List Int):Prop where
 nl:rR.length=n
 sh:Shape n m tm
 hl:tW.length=m
 n0:∀i,i<n->0<=rR.getD i 0
 n1:∀i,i<n->rR.getD i 0<=j8 (Jj tm i) m
 r0:∀i s,i<n->s<m->0<=Jj tm i s
 h0:∀s,s<m->0<tW.getD s 0
 h1:j8 (fun s=>tW.getD s 0) m<=1000000000000000000
theorem joa {ρ:ee} {x y:Int} {fb fc:ee->Option D} (h1:fb ρ=some (.int x)) (h2:fc ρ=some (.int y)) (h3:0<=x) (h4:x<=y):JY dLe dLe (eC (.int 0)) fb fc ρ=some (.bl true):=by unfold JY eC;simp only [h1,h2,Yd,jaS,Y8 h3,Y8 h4]
theorem jf4 {s:Ship} (hs:s.Ok):Qw [ji s]=some (.bl true):=by
 have h1:=hs.lt;have h2:=hs.n0;have h3:=hs.m0;have h4:=hs.n1;have h5:=hs.m1;unfold Qw;refine Jd (ρ:=[.sh (ji s),.un]) rfl rfl fun C fin=>?_;unfold jbf;refine jF [.sh (ji s),.un] (qH (Zc (QW (b:=true) (jL rfl)) (jL (jn (jx rfl rfl) rfl (ji6 rfl))))) ?_;have lc:JV (Q9 (jq 0)) (jz 0) ‹"l"› (jh Jq (jc (jq 0) jj)) 1 [] [.sh (ji s),.un]=some ([true,true,true,true].map D.bl):=by refine qV (jkt rfl) (by show 4<16777216;decide) ?_;exact Jo D.int (fun _=>D.bl true) [s.b,s.e,s.n,s.m] fun i _=>⟨[.sh (.int i)],rfl,rfl,rfl⟩
 refine jF [.sh (ji s),.un] (qH (QW (b:=true) (jL (jx (jy (Je lc) rfl) (jer _))))) ?_;refine jF [.sh (ji s),.sh (.int (s.e-s.b))] (qx (jn (jn rfl rfl zR) (jn rfl rfl JI) rfl)) ?_;refine Qp (JX (jg2 ((jn rfl rfl jaX).trans (by rw [Y8 (by omega)])) (jg2 ((jn (jn rfl rfl ja4) rfl jc0).trans (by rw [Y8 (by omega)])) (d:=.bl true) ?_))) fin;exact joa (jn rfl rfl ja6) (jn (jn rfl rfl ja4) rfl (QO (by omega) (by omega))) (by omega) (by omega)
theorem jel {fl:List Ship} (hfl:∀s∈fl,s.Ok) (hl:fl.length<1000):QC [.lst (fl.map ji)]=some (.bl true):=by
 unfold QC;refine Jd (ρ:=[.sh ‹"d"›]) rfl rfl fun C fin=>?_;unfold Z5;have lc:JV (qg (ja 0)) (jz 0) ‹"l"› (jh Qw (jc (jq 0) jj)) 1 [] [.sh ‹"d"›]=some ((fl.map fun _=>true).map D.bl):=by refine qV (qF rfl) (by rw [Yc];omega) ?_;rw [YL];exact Jo ji (D.bl∘fun _=>true) fl fun s hs=>⟨[.sh (ji s)],rfl,rfl,jx rfl (jf4 (hfl s hs))⟩
 refine Qp (JX (jg2 rfl (jx (jy (Je lc) rfl) (jer _)))) ?_;have:(fl.map fun _=>true).all id=true:=by simp
 rw [this];exact fin
theorem jc9 {fl:List Ship} (hfl:∀s∈fl,s.Ok) (hl:fl.length<1000):zO [.lst (fl.map ji)]=some .non:=by unfold zO zb;rw [if_pos (show ([.lst (fl.map ji)]:List D).length=1 from rfl)];unfold JE;show jdm (zQ _ _ jQ [.sh ‹"d"›])=_;rw [qH (QW (b:=true) (jL (jx rfl (jel hfl hl))))];rfl
def qJ (fl:List Ship):List Int:=(jg fl).map fun p=>p.2-p.1
theorem jax {fl:List Ship} {j:Nat} (hj:j<(jg fl).length):(qJ fl).getD j 0=zp fl j:=by unfold qJ;rw [Ye,List.getElem?_map,QR hj];rfl
theorem jdW (c:Int):∀n:Nat,j8 (fun _=>c) n=n*c
 | 0=>by simp [j8]
 | n+1=>by show j8 (fun _=>c) n+c=_;rw [jdW c n,show ((n+1:Nat):Int)=(n:Int)+1 from by omega,KG,KF]
theorem jq9 {fl:List Ship} (hfl:∀s∈fl,s.Ok) (tK:fl.length<=8):Prob fl.length (jg fl).length (jfp fl) (j1 fl) (qJ fl):=by
 have hsl:(jg fl).length<40:=zC (by omega);refine ⟨Yc _,Zu fl,Yc _,fun i hi=>by rw [jal hi];exact (hfl _ (QK hi)).n0,fun i hi=>?_,fun i s hi hs=>by rw [jb7 hi hs];exact jfK (hfl _ (QK hi)) (jaH (jhs hs)).1,fun s hs=>by rw [jax hs];exact (qP hfl hs).1,?_⟩
 . have e:j8 (Jj (j1 fl) i) (jg fl).length=((jg fl).map (qR (shp fl i))).sum:=by rw [<-jeY (Zu fl) hi];unfold joI j1;rw [Ye,List.getElem?_map,Zt hi];rfl
   rw [e,jal hi,jd8 (QK hi) (hfl _ (QK hi))];exact (hfl _ (QK hi)).n1
 . refine Int.le_trans (jeH (g:=fun _=>2000000000000000) fun s hs=>?_) ?_
   . rw [jax hs];exact Y4 (qP hfl hs).2
   . rw [jdW];omega
def qL (P:List (List Int)) (n:Nat):List Int:=(List.range n).map (qt P)
theorem jiz {S:List (Int×Int)} (hS:S.length<1000) {P:List (List Int)} (hr:∀r∈P,r.length=S.length) (hPl:P.length<=8):JV (Jt ‹"aO"›) (jz 0) ‹"l"› ‹"a3"› 1 [1] [.sh ‹"bb"›,.sh ‹"j"›]=some ((qL P S.length).map D.int):=by
 have hz:Jt ‹"aO"› [.sh ‹"bb"›,.sh ‹"j"›]=some ((List.range S.length).map fun j:Nat=>D.int (j:Int)):=by rw [Jk (j:=(S.length:Int)) (by simp (disch:=omega) only [jc,jh,ja,Yg,jj,Yi,Yd,Zf];simp only [Yc]) (by omega) (by omega),Yp,jbb]
 have hc:∀j,j<S.length->‹"a3"› [.sh (.int (j:Int)),.sh ‹"j"›]=some (.int (qt P j)):=fun j hj'=>by
  have lc:=qV (fi:=qg (ja 1)) (ρ:=[.sh (.int j),.sh ‹"j"›]) (m:=jz 0) (ft:=fun _=>some true) (fe:=jl jM (ja 0) (ja 1)) (n:=1) (ix:=[0]) (qF rfl) (by rw [Yc];omega)
   (Jo jm (fun r=>.int (r.getD j 0)) P fun r h=>⟨[.sh (jm r),.sh (.int j)],rfl,rfl,by have:=Zj (l:=r) (i:=j) (by rw [hr r h];exact hj');unfold jm;simp (disch:=omega) only [jl,ja,Yg,Yn,Yd];exact this⟩)
  have s1:=jb2 (P.map fun r=>r.getD j 0);rw [YL] at s1;clear hz hr;simp (disch:=omega) only [jh,jc,jN,jj,Yi];simp only [lc];simp (disch:=omega) only [Yi,Yd];exact s1
 unfold qL;rw [YL];exact qV hz (by rw [Yc,YS];omega) (Jo (fun j:Nat=>D.int (j:Int)) (fun j=>.int (qt P j)) _ fun j hj=>⟨[.sh (.int j),.sh ‹"j"›],rfl,rfl,hc j (yM.mp hj)⟩)
theorem jbo {S:List (Int×Int)} (hS:S.length<1000) {P:List (List Int)} (hr:∀r∈P,r.length=S.length) (hPl:P.length<=8):Jw [.lst (S.map ju),.lst (P.map jm)]=some ((qL P S.length).map D.int):=jhP (m:=Qk) (ρ:=[.sh ‹"bb"›,.sh ‹"j"›]) rfl rfl (jct (jiz hS hr hPl))
theorem jhA {P:List (List Int)} {n j:Nat} (h:j<n):jM (.lst ((qL P n).map D.int)) (.int j)=some (.int (qt P j)):=by refine jab (by omega) ?_;unfold qL;rw [Yp,List.getElem?_map,List.getElem?_map,Y0 h];rfl
def J0 (fl:List Ship) (P:List (List Int)) (k:Int):Int:=j8 (fun j=>jcX (qt P j-k*zp fl j)) (jg fl).length
theorem jgc {z1:Slot} {parts tots:D} {k f j T:Int} {p:Int×Int} (dp:jM parts (.int j)=some (ju p)) (dt:jM tots (.int j)=some (.int T)) (h1:0<p.2-p.1) (h2:p.2-p.1<2000000000000000) :
 (jE 3 (jl qp (ja 3) (jh jbB (jc (eC (.int 0)) (jc (jl qI (jl jM (ja 4) (ja 5)) (jl za (ja 2) (jl qI (jl jM (jl jM (ja 0) (ja 5)) (eC (.int 1))) (jl jM (jl jM (ja 0) (ja 5)) (eC (.int 0)))))) jj)))))
  [.sh parts,z1,.sh (.int k),.sh (.int f),.sh tots,.sh (.int j)]=.next [.sh parts,z1,.sh (.int k),.sh (.int (f+jcX (T-k*(p.2-p.1)))),.sh tots,.sh (.int j)]:=by
 simp (disch:=omega) only [jE,jl,ja,Yn,Yg,jh,jc,eC,Yd,jj,Yi,Yv,Yz];simp only [dp,dt];unfold ju;simp (disch:=omega) only [Yd,zR,JI,jV,Jl,Yi,jbB,jI];rfl
theorem jbM {fl:List Ship} (hfl:∀s∈fl,s.Ok) (tK:fl.length<=8) {P:List (List Int)} (hr:∀r∈P,r.length=(jg fl).length) (hPl:P.length<=8) (k:Int):qQ [.lst ‹"a5"›,.lst (P.map jm),.int k]=some (.int (J0 fl P k)):=by
 have hSl:=zC (fl:=fl) (by omega);have et:=jbo (S:=jg fl) (by omega) hr hPl;refine Jd (m:=JS) (ρ:=[.sh ‹"i"›,.sh ‹"j"›,.sh (.int k),.un,.un,.un]) rfl rfl ?_;intro C fin;unfold JS;refine jF [.sh ‹"i"›,.sh ‹"j"›,.sh (.int k),.sh (.int 0),.un,.un] (by simp (disch:=omega) only [jE,eC,Yv,Yz]) ?_;refine jF [.sh ‹"i"›,.sh ‹"j"›,.sh (.int k),.sh (.int 0),.sh ‹"e"›,.un] (ze (jx rfl et)) ?_;refine jqm (jg fl).length (fun j ρ=>∃y,ρ=[.sh ‹"i"›,.sh ‹"j"›,.sh (.int k),.sh (.int (j8 (fun j=>jcX (qt P j-k*zp fl j)) j)),.sh ‹"e"›,y])
  (by rw [Jk (j:=((jg fl).length:Int)) (by simp (disch:=omega) only [jc,jh,ja,Yg,jj,Yi,Yd,Zf];simp only [Yc]) (by omega) (by omega),Yp]) ⟨_,rfl⟩ ?_ ?_
 . rintro j ρ hj ⟨y,rfl⟩;have hL:=qP hfl hj;unfold zp at hL;exact ⟨_,_,rfl,jgc (jcY hj) (jhA hj) hL.1 hL.2,_,rfl⟩
 . rintro ρ ⟨y,rfl⟩;exact fin
theorem jao {fl:List Ship} {P:List (List Int)} (h:PlanOk fl P):Shape fl.length (jg fl).length P/\(∀i,i<fl.length->j8 (Jj P i) (jg fl).length=(jfp fl).getD i 0)/\∀i s,i<fl.length->s<(jg fl).length->0<=Jj P i s/\Jj P i s<=Jj (j1 fl) i s:=by
 have sh:Shape fl.length (jg fl).length P:=⟨h.len,h.rows⟩;refine ⟨sh,fun i hi=>?_,fun i s hi hs=>?_⟩
 . rw [<-jeY sh hi,jal hi];exact (h.row i _ _ (sh.row hi).1 (Zt hi)).sum
 . rw [jb7 hi hs];refine (h.row i _ _ (sh.row hi).1 (Zt hi)).bd s _ _ ?_ (QR hs);unfold Jj;rw [Ye (l:=P.getD i []),Ya (by rw [(sh.row hi).2];exact hs)];rfl
theorem jd1 {P:List (List Int)} (h:P.length<1000) {ρ:ee} {i:Nat} (hi:ja i ρ=some ‹"j"›):JV (qg (ja i)) (jz 0) ‹"l"› (jN (jh J4 (jc (ja 0) jj))) 1 [] ρ=some (P.map jm):=qV (qF hi) (by rw [Yc];omega) (Jo jm jm P fun r _=>⟨[.sh (jm r)],rfl,rfl,rfl⟩)
theorem jib {fl:List Ship} {E:List (List Int)} (sE:Shape fl.length (jg fl).length E) (row:∀i,i<fl.length->j8 (Jj E i) (jg fl).length=(jfp fl).getD i 0) (cell:∀i s,i<fl.length->s<(jg fl).length->0<=Jj E i s/\Jj E i s<=Jj (j1 fl) i s):PlanOk fl E:=by
 refine ⟨sE.1,fun i r s hr hs=>?_⟩;have hi:i<fl.length:=by
  rcases YT i fl.length with z | z
  . exact z
  . rw [YF z] at hs;cases hs
 have er:E.getD i []=r:=by rw [Ye,hr];rfl
 have es:shp fl i=s:=by have:=Zt hi;rw [hs] at this;exact (Option.some.inj this).symm
 refine ⟨sE.2 r (YE hr),fun j x p hx hp=>?_,?_⟩
 . have hj:j<(jg fl).length:=by
    rcases YT j (jg fl).length with z | z
    . exact z
    . rw [YF z] at hp;cases hp
   have c:=cell i j hi hj;have ex:Jj E i j=x:=by unfold Jj;rw [er,Ye,hx];rfl
   have ep:spn fl j=p:=by have:=QR hj;rw [hp] at this;exact (Option.some.inj this).symm
   rw [jb7 hi hj,es,ex,ep] at c;exact c
 . have q:=row i hi;rw [jal hi,es] at q;rw [<-q,<- er];exact jeY sE hi
theorem jdC (i:Int):Jq [.int i]=some (.bl true):=rfl
theorem jdb {α:Type} (l:List α):jdz [.lst (l.map fun _=>D.bl true)]=some (.bl true):=by have:=jer (l.map fun _=>true);rw [YL] at this;refine this.trans ?_;rw [show (l.map fun _=>true).all id=true by simp]
theorem jfo {ρ:ee} {x y:Int} {fb fc:ee->Option D} (h1:fb ρ=some (.int x)) (h2:fc ρ=some (.int y)) (h3:0<=x) (h4:x<=y):JY dLe dLe (eC (.int 0)) fb fc ρ=some (.bl true):=by unfold JY eC;simp only [h1,h2,Yd,jaS,Y8 h3,Y8 h4]
theorem jhj {S:List (Int×Int)} {s:Ship} (hs:Sm s) {r:List Int} (h:RowOk S s r) (hS:S.length<1000):QD [ji s,.lst (S.map ju),jm r]=some (.bl true):=by
 have hrl:=h.len;refine Jd (m:=QE) (ρ:=‹"u"›) rfl rfl ?_;intro C fin;unfold QE;refine jF ‹"u"› (qH (Zc (by walk_at "ev") (jL (jn (jx rfl rfl) (jx rfl rfl) (ji6 (by simp only [Yc,hrl])))))) ?_;have lc1:=qV (fi:=qg (ja 2)) (ρ:=‹"u"›) (m:=jz 0) (ft:=fun _=>some true) (fe:=jh Jq (jc (jq 0) jj)) (n:=1) (ix:=[]) (qF rfl) (by rw [Yc];omega)
  (Jo D.int (fun _=>.bl true) r fun x _=>⟨[.sh (.int x)],rfl,rfl,jx rfl (jdC x)⟩)
 refine jF ‹"u"› (qH (QW (jL (jx (jy (Je lc1) rfl) (jdb r))))) ?_;have hz:QX (jc (ja 1) (jc (ja 2) jj)) ‹"u"›=some ((S.zip r).map fun q=>.tup [ju q.1,.int q.2]):=by have e:=jeu ju D.int S r;rw [<-e];rfl
 have lc2:=qV (m:=Qa 2 ‹"aK"›) (ft:=fun _=>some true) (fe:=JY dLe dLe (eC (.int 0)) (ja 1) (jh jbh (jc (jq 2) (jc (jq 0) jj)))) (n:=2) (ix:=[0]) hz (by simp;omega)
  (Jo (fun q:(Int×Int)×Int=>.tup [ju q.1,.int q.2]) (fun _=>.bl true) (S.zip r) fun q hq=>⟨[.sh (ju q.1),.sh (.int q.2),.sh (ji s)],rfl,rfl,by obtain ⟨j,hj⟩:=List.mem_iff_getElem?.mp hq;rw [yv] at hj;have b:=h.bd j q.2 q.1 hj.2 hj.1;exact jfo rfl (jx rfl (jd9 hs q.1)) b.1 b.2⟩)
 refine jF ‹"u"› (qH (QW (jL (jx (jy (Je lc2) rfl) (jdb (S.zip r)))))) ?_;exact Qp (JX (jn (jx rfl (jb2 r)) (jn rfl rfl ja6) (jf0 h.sum))) fin
theorem jfl {fl:List Ship} (hs:∀s∈fl,Sm s) (hl:fl.length<20) {P:List (List Int)} (hP:PlanOk fl P):ja3 [.lst (fl.map ji),.lst (P.map jm)]=some (.bl true):=by
 have est:=J1 fl hl;have hSl:=zC hl;have hPl:=hP.len;refine Jd (m:=Zx) (ρ:=[.sh ‹"d"›,.sh ‹"j"›,.un]) rfl rfl ?_;intro C fin;unfold Zx;refine jF [.sh ‹"d"›,.sh ‹"j"›,.un] (qH (Zc (by walk_at "ev") (jL (jn (jx rfl rfl) (jx rfl rfl) (ji6 (by simp only [Yc,hPl])))))) ?_;refine jF [.sh ‹"d"›,.sh ‹"j"›,.sh ‹"i"›] (ze (jx rfl est)) ?_;have hz:QX (jc (ja 0) (jc (ja 1) jj)) [.sh ‹"d"›,.sh ‹"j"›,.sh ‹"i"›]=some ((fl.zip P).map fun q=>.tup [ji q.1,jm q.2]):=by have e:=jeu ji jm fl P;rw [<-e];rfl
 have lc:=qV (m:=Qa 2 ‹"aK"›) (ft:=fun _=>some true) (fe:=jh QD (jc (jq 0) (jc (jq 2) (jc (jq 1) jj)))) (n:=2) (ix:=[2]) hz (by simp;omega)
  (Jo (fun q:Ship×List Int=>.tup [ji q.1,jm q.2]) (fun _=>.bl true) (fl.zip P) fun q hq=>⟨[.sh (ji q.1),.sh (jm q.2),.sh ‹"i"›],rfl,rfl,by obtain ⟨j,hj⟩:=List.mem_iff_getElem?.mp hq;rw [yv] at hj;exact jx rfl (jhj (hs q.1 (YE hj.1)) (hP.row j q.2 q.1 hj.2 hj.1) (by omega))⟩)
 exact Qp (JX (jx (jy (Je lc) rfl) (jdb (fl.zip P)))) fin
theorem ZT {fl:List Ship} (hfl:∀s∈fl,s.Ok) (hl:fl.length<=8) {P:List (List Int)} (hP:PlanOk fl P):zq [.lst (fl.map ji),.lst (P.map jm)]=some .non:=by have em:=jc9 hfl (by omega);have ep:=jfl (fun s hs=>jnd (hfl s hs)) (by omega) hP;unfold zq zb;rw [if_pos (show ([.lst (fl.map ji),.lst (P.map jm)]:List D).length=2 from rfl)];unfold J2;show jdm (jt _ _ [.sh ‹"d"›,.sh ‹"j"›])=_;rw [qf (ρ':=[.sh ‹"d"›,.sh ‹"j"›]) (by unfold Ze;rw [jx rfl em]),qH (QW (b:=true) (jL (jx rfl ep)))];rfl
theorem jln {fl:List Ship} {P:List (List Int)} (hP:PlanOk fl P) {j:Nat} (hj:j<(jg fl).length):0<=qt P j:=by
 unfold qt;have:∀r∈P,0<=r.getD j 0:=fun r hr=>by
  obtain ⟨i,hi,rfl⟩:=yf hr;have hrl:=hP.rows _ (KC hi);have hif:i<fl.length:=by rw [<-hP.len];exact hi
  have ro:=hP.row i _ _ (Ya hi) (Ya hif);have:=ro.bd j (P[i].getD j 0) (spn fl j) (by rw [Ye,Ya (by rw [hrl];exact hj)];rfl) (QR hj);exact this.1
 generalize P=Q at this;induction Q with
 | nil=>exact ke _
 | cons r Q ih=>have:=ih fun x hx=>this x (Yj _ hx);have:=‹∀x∈r::Q,0<=x.getD j 0› r Yf;rw [List.map_cons,List.sum_cons];omega
theorem jph {T l:Int} (hl:0<l) (h0:0<=T) (h:T<=8000000000000000*l):0<=T/l/\T/l<=8000000000000000:=by
 refine ⟨Int.ediv_nonneg h0 (Y4 hl),?_⟩;have:=Int.ediv_le_ediv hl h
 rwa [Int.mul_ediv_cancel _ (by omega)] at this
theorem jcD {n m:Nat} {tm tq:List (List Int)} {off:Nat} {ks:List Nat} {ds:List D} (R:Rch tm tq n m (fun s d=>s=off/\d=.non) ks ds) {j:Nat} {p:List ‹"k"›} (h:Path ks ds j p) :
 ∀s,ks[j]?=some s->PathOk tm tq n m ks j s p (fun _=>0) (fun t=>ind (off=t)):=by
 induction h with
 | @p j s i h1 h2=>
   intro s' hs';rcases R.val j s _ h1 h2 with ⟨_,e⟩ | ⟨i',o,j',_,_,_,e,_⟩
   . cases e
   . injection e with e;injection e with _ e;injection e with e;cases e
 | @c j h1=>
   intro s hs;rcases R.val j s _ hs h1 with ⟨rfl,_⟩ | ⟨i',o,j',_,_,_,e,_⟩
   . have i0:∀i t,inc ([]:List ‹"k"›) i t=0:=fun _ _=>rfl;have d0:∀i t,dec ([]:List ‹"k"›) i t=0:=fun _ _=>rfl;exact ⟨fun q hq=>absurd hq YJ,fun q hq=>absurd hq YJ,fun q hq=>absurd hq YJ,yH _,fun i t=>by rw [i0];omega,fun i t=>by rw [d0];omega,fun t _=>by rw [jd4 fun i _=>by rw [i0,d0];rfl];omega,fun i _=>jd4 fun t _=>by rw [i0,d0];rfl⟩
   . cases e
 | @s j j' s i o p h0 hj ho h1 h2 ih=>
   intro s' hs';rw [h1] at hs';cases hs';have ok:=ih o ho;rcases R.val j s _ h1 h2 with ⟨_,e⟩ | ⟨i',o',j'',_,_,hi',e,hmv⟩
   . cases e
   . have e1:i=i'/\o=o':=by injection e with e;injection e with a e;injection e with b e;injection a with a;injection b with b;exact ⟨by omega,by omega⟩
     obtain ⟨rfl,rfl⟩:=e1;exact ok.step R.nd hj ho h1 (R.lt o (YE ho)) (R.lt s (YE h1)) hi' hmv
theorem jgO {fl:List Ship} {P Q:List (List Int)} (hP:PlanOk fl P) (hQ:Shape fl.length (jg fl).length Q) {ks:List Nat} {j s off:Nat} {p:List ‹"k"›} (ok:PathOk (j1 fl) P fl.length (jg fl).length ks j s p (fun _=>0) (fun t=>ind (off=t))) (hat:∀i t,Jj Q i t=Jj P i t+1*(inc p i t-dec p i t)) :
 PlanOk fl Q/\∀t,t<(jg fl).length->qt Q t=qt P t+ind (s=t)-ind (off=t):=by
 obtain ⟨sP,row,cell⟩:=jao hP;refine ⟨jib hQ (fun i hi=>?_) (fun i t hi ht=>?_),fun t ht=>?_⟩
 . have e:=ok.rows i hi;have q:j8 (Jj Q i) (jg fl).length=j8 (Jj P i) (jg fl).length+j8 (fun t=>inc p i t-dec p i t) (jg fl).length:=by rw [<-Jz];exact qq fun t _=>by rw [hat,KF]
   rw [q,e,row i hi,kn]
 . have h1:=cell i t hi ht;rw [hat,KF];rcases jpY (v:=1) (ok.inc1 i t) (ok.dec1 i t) with e | ⟨e,e1⟩ | ⟨e,e1⟩
   . rw [KF] at e;omega
   . rw [KF] at e;obtain ⟨q,hq,rfl,rfl⟩:=jmt e1;have:=(ok.ok q hq).2.2.2.1;omega
   . rw [KF] at e;obtain ⟨q,hq,rfl,ho⟩:=jlG e1;have:=(ok.ok q hq).2.2.2.2 t ho;omega
 . have e:=ok.cols t ht;have q:j8 (fun i=>Jj Q i t) fl.length=j8 (fun i=>Jj P i t) fl.length+j8 (fun i=>inc p i t-dec p i t) fl.length:=by rw [<-Jz];exact qq fun i _=>by rw [hat,KF]
   rw [jil hQ,jil sP,q,e];omega
def jY (fl:List Ship) (P:List (List Int)) (j:Nat):Int:=qt P j/zp fl j
def qi (fl:List Ship) (P:List (List Int)) (j:Nat):Int:=(qt P j+zp fl j-1)/zp fl j
theorem jb9 {T l:Int} (hl:0<l):T/l*l<=T/\T<(T/l+1)*l:=by have a:=Int.mul_ediv_add_emod T l;have b:=yF T (show l≠0 by omega);have c:=yq T hl;rw [KG,KF,Int.mul_comm];omega
theorem jlh {T l:Int} (hl:0<l):(T+l-1)/l=(T-1)/l+1:=by rw [show T+l-1=T-1+1*l by omega,Int.add_mul_ediv_right _ _ (by omega)]
theorem ZD {T l:Int} (hl:0<l):T<=(T+l-1)/l*l/\((T+l-1)/l-1)*l<T:=by have a:=jb9 (T:=T-1) hl;rw [jlh hl,Int.add_sub_cancel];omega
theorem jdH {a b l:Int} (hl:0<l) (h:a*l<b*l):a<b:=Int.lt_of_mul_lt_mul_right h (Y4 hl)
theorem jfT {fl:List Ship} (hfl:∀s∈fl,s.Ok) {P Q:List (List Int)} {s off:Nat} (hs:s<(jg fl).length) (ho:off<(jg fl).length) (col:∀t,t<(jg fl).length->qt Q t=qt P t+ind (s=t)-ind (off=t)) (g:2<=qi fl P off-jY fl P s) (ne:s≠off) (k:Int):J0 fl Q k<=J0 fl P k:=by
 unfold J0;have pt:∀t,t<(jg fl).length->jcX (qt Q t-k*zp fl t)<=jcX (qt P t-k*zp fl t)+‹"ah"›:=fun t ht=>by
  rw [col t ht];by_cases c:s=t
  . subst c;rw [JB rfl,zi (show ¬off=s by omega),if_pos rfl,if_neg (show ¬off=s by omega)];generalize k*zp fl s=x;unfold jcX;split <;> split <;> split <;> omega
  . by_cases d:off=t
    . subst d;rw [JB rfl,zi c,if_neg c,if_pos rfl];generalize k*zp fl off=x;unfold jcX;split <;> split <;> split <;> omega
    . rw [zi c,zi d,if_neg c,if_neg d,show qt P t+0-0=qt P t by omega];omega
 refine Int.le_trans (jeH pt) ?_;rw [Jz,Za,zu,zu,if_pos hs,if_pos ho];have ls:=(qP hfl hs).1;have lo:=(qP hfl ho).1;have:k*zp fl s<=qt P s->k*zp fl off<qt P off:=fun h=>by have a:=(jb9 (T:=qt P s) ls).2;have b:k<qt P s/zp fl s+1:=jdH ls (by omega);have c:=(ZD (T:=qt P off) lo).2;unfold qi jY at g;generalize (qt P off+zp fl off-1)/zp fl off=G at g c;have d:=YM (show k<=G-1 by omega) (Y4 lo);omega
 by_cases c:k*zp fl s<=qt P s
 . rw [if_pos c,if_pos (this c)];omega
 . rw [if_neg c];split <;> omega
def jdv:Nat->List ‹"k"›->Nat
 | o,[]=>o
 | _,q::p=>jdv q.2.2 p
theorem ja1 (q:Nat×Option Nat×Nat):∀(o:Nat) (p:List ‹"k"›),jdv o (p++[q])=q.2.2
 | _,[]=>rfl
 | _,r::p=>ja1 q r.2.2 p
def jgT (off:Nat) (p:List ‹"k"›):Prop:=∀pre q post,p=pre++q::post->q.2.1=some (jdv off pre)/\q.2.2∉off::pre.map fun q=>q.2.2
theorem jdT {n m:Nat} {tm tq:List (List Int)} {off:Nat} {ks:List Nat} {ds:List D} (R:Rch tm tq n m (fun s d=>s=off/\d=.non) ks ds) {j:Nat} {p:List ‹"k"›} (h:Path ks ds j p) :
 ∀s,ks[j]?=some s->(jgT off p/\jdv off p=s)/\∀x∈off::p.map (fun q=>q.2.2),∃a,a<=j/\ks[a]?=some x:=by
 induction h with
 | @p j s i h1 h2=>
   intro s' hs';rcases R.val j s _ h1 h2 with ⟨_,e⟩ | ⟨i',o,j',_,_,_,e,_⟩
   . cases e
   . injection e with e;injection e with _ e;injection e with e;cases e
 | @c j h1=>
   intro s hs;rcases R.val j s _ hs h1 with ⟨rfl,_⟩ | ⟨i',o,j',_,_,_,e,_⟩
   . refine ⟨⟨fun pre q post e=>?_,rfl⟩,fun x hx=>?_⟩
     . cases pre <;> cases e
     . rcases Yq.mp hx with rfl | hx
       . exact ⟨j,Ys _,hs⟩
       . exact absurd hx YJ
   . cases e
 | @s j j' s i o p h0 hj ho h1 h2 ih=>
   intro s' hs';rw [h1] at hs';cases hs';obtain ⟨⟨lk,ed⟩,at_⟩:=ih o ho;refine ⟨⟨fun pre q post e=>?_,ja1 _ _ _⟩,fun x hx=>?_⟩
   . rcases List.eq_nil_or_concat post with rfl | ⟨post',z,rfl⟩
     . have e':=List.append_inj' e rfl;obtain ⟨rfl,e2⟩:=e';have e3:q=(i,some o,s):=by have:=List.cons.inj e2;exact this.1.symm
       subst e3;refine ⟨by rw [ed],fun hm=>?_⟩;obtain ⟨a,ha,ea⟩:=at_ _ hm;have:=Qq R.nd ea h1;omega
     . have e':p++[(i,some o,s)]=(pre++q::post')++[z]:=by rw [e,List.concat_eq_append,Ke,yU]
       exact lk pre q post' (List.append_inj' e' rfl).1
   . rcases Yq.mp hx with rfl | hx
     . obtain ⟨a,ha,ea⟩:=at_ _ Yf;exact ⟨a,by omega,ea⟩
     . rw [YO] at hx;rcases Y7.mp hx with hx | hx
       . obtain ⟨a,ha,ea⟩:=at_ x (Yj _ hx);exact ⟨a,by omega,ea⟩
       . rw [YN.mp hx];exact ⟨j,Ys _,h1⟩
theorem jfY {A B:List Int} (f:Int×Int->Int) {j:Nat} (ha:j<A.length) (hb:j<B.length):((A.zip B).map f).getD j 0=f (A.getD j 0,B.getD j 0):=by rw [Ye,List.getElem?_map,Ya (by rw [kc];omega),List.getElem_zip,Ye,Ye,Ya ha,Ya hb];rfl
theorem jjW {P:List (List Int)} {n j:Nat} (h:j<n):(qL P n).getD j 0=qt P j:=by unfold qL;rw [Ye,List.getElem?_map,Y0 h];rfl
theorem jjq {l:List D}:dNe (.lst l) (.lst [])=some (.bl !l.isEmpty):=by show (eqF 40 (.lst l) (.lst [])).map (fun b=>D.bl (!b))=_;cases l <;> rfl
def NoK (fl:List Ship) (P:List (List Int)) (off:Nat):Prop:=∃K:List Nat,off∈K/\(∀o∈K,o<(jg fl).length/\Clo (j1 fl) P fl.length (jg fl).length K o)/\∀on∈K,qi fl P off-jY fl P on<2
def jnB (fl:List Ship) (P:List (List Int)) (d:D):Prop:=∃(p:List ‹"k"›) (ks:List Nat) (j s off:Nat),d=.lst (p.map jP)/\off<(jg fl).length/\s<(jg fl).length/\2<=qi fl P off-jY fl P s/\PathOk (j1 fl) P fl.length (jg fl).length ks j s p (fun _=>0) (fun t=>ind (off=t))/\jgT off p/\jdv off p=s/\p.length<1001
theorem jg4 {fl:List Ship} (tK:fl.length<=8) (hm:(jg fl).length<40) {P:List (List Int)} (sP:Shape fl.length (jg fl).length P) {G L:List Int} (hG:G.length=(jg fl).length/\∀j,j<(jg fl).length->G.getD j 0=qi fl P j) (hL:L.length=(jg fl).length/\∀j,j<(jg fl).length->L.getD j 0=jY fl P j) {off:Nat} (ho:off<(jg fl).length) (a b c z8 z9:Slot) :
 ∃r,(jt (jE 8 (jh jaF (jc (jq 2) (jc (jq 1) (jc (jkx (jfX (jq 7) (eC .non))) jj)))))
   (jt (jE 9 (jN (JV (jcc (jq 8)) (jz 0) ‹"0"› (jq 0) 1 [6,7,5])))
   (zQ (qw (jl dNe (ja 9) (jN (zH jj))))
   (j6 (jN (jh Zk (jc (jq 8) (jc (jl jM (ja 9) (eC (.int 0))) jj))))) jQ)))
   [a,.sh ‹"j"›,.sh ‹"r"›,b,c,.sh ‹"ad"›,.sh (.lst (G.map D.int)),.sh (.int (off:Int)),z8,z9]=r /\
   ((∃y8 y9,r=.next [a,.sh ‹"j"›,.sh ‹"r"›,b,c,.sh ‹"ad"›,.sh (.lst (G.map D.int)),.sh (.int (off:Int)),y8,y9]/\NoK fl P off)\/∃d,r=.ret d/\jnB fl P d):=by
 have n0:0<fl.length:=by
  cases fl with
  | nil=>exact absurd ho (K9 _)
  | cons s fl=>exact Nat.succ_pos _
 have R0:Rch (j1 fl) P fl.length (jg fl).length (fun s d=>s=off/\d=.non) [off] [.non]:=by
  refine ⟨rfl,by simp,fun s hs=>by rw [YN.mp hs];exact ho,fun j s d h1 h2=>?_⟩;cases j with
  | zero=>cases h1;cases h2;exact .inl ⟨rfl,rfl⟩
  | succ j=>cases h1
 obtain ⟨d,⟨ks,ds,rfl,R,⟨e,he⟩,clo⟩,er⟩:=jgV (Zu fl) sP (by omega) R0 fun _=>n0;have hkl:ks.length<1000:=Kl (Jv _ ks R.nd R.lt) (by omega);have lc:JV (jcc (jq 8)) (jz 0) ‹"0"› (jq 0) 1 [6,7,5] [a,.sh ‹"j"›,.sh ‹"r"›,b,c,.sh ‹"ad"›,.sh (.lst (G.map D.int)),.sh (.int (off:Int)),.sh ‹"bc"›,z9]=some (nI (ks.filter fun s=>decide (2<=qi fl P off-jY fl P s))):=by
  have ed:jcc (jq 8) [a,.sh ‹"j"›,.sh ‹"r"›,b,c,.sh ‹"ad"›,.sh (.lst (G.map D.int)),.sh (.int (off:Int)),.sh ‹"bc"›,z9]=some (nI ks):=by show some ((kI ks).map D.int)=_;rw [jqQ]
  refine qV ed (by unfold nI;rw [Yc];omega) ?_;unfold nI;refine jl0 (fun k:Nat=>D.int (k:Int)) (fun k:Nat=>D.int (k:Int)) (fun s=>decide (2<=qi fl P off-jY fl P s)) ks fun s hs=>?_;have hsm:=R.lt s hs;have g1:=Zj (l:=G) (i:=off) (by omega);have g2:=Zj (l:=L) (i:=s) (by omega);rw [hG.2 off ho] at g1;rw [hL.2 s hsm] at g2;exact ⟨[.sh (.int (s:Int)),.sh (.lst (G.map D.int)),.sh (.int (off:Int)),.sh ‹"ad"›],rfl,jL (jn (jn (jn rfl rfl g1) (jn rfl rfl g2) jV) rfl jc0),rfl⟩
 refine ⟨_,(qf (ρ':=[a,.sh ‹"j"›,.sh ‹"r"›,b,c,.sh ‹"ad"›,.sh (.lst (G.map D.int)),.sh (.int (off:Int)),.sh ‹"bc"›,z9]) (qx (jx rfl er))).trans (qf (ρ':=[a,.sh ‹"j"›,.sh ‹"r"›,b,c,.sh ‹"ad"›,.sh (.lst (G.map D.int)),.sh (.int (off:Int)),.sh ‹"bc"›,.sh (.lst (nI (ks.filter fun s=>decide (2<=qi fl P off-jY fl P s))))]) (ze lc)),?_⟩;cases hf:ks.filter fun s=>decide (2<=qi fl P off-jY fl P s) with
 | nil=>refine .inl ⟨.sh (.dic (kI ks) ds),.sh (.lst (nI [])),qH (jL (jn rfl rfl jjq)),ks,by rw [he];exact Y9 _ Yf,fun o ho=>⟨R.lt o ho,clo o ho⟩,fun on hon=>?_⟩;have:=List.filter_eq_nil_iff.mp hf on hon;rw [decide_eq_true_iff] at this;omega
 | cons s r=>
   have hs:s∈ks/\2<=qi fl P off-jY fl P s:=by
    have:s∈ks.filter fun s=>decide (2<=qi fl P off-jY fl P s):=by rw [hf];exact Yf
    have:=List.mem_filter.mp this;exact ⟨this.1,Ka this.2⟩
   obtain ⟨j,hj,ej⟩:=yf hs.1;have h0:ks[j]?=some s:=by rw [Ya hj,ej]
   obtain ⟨l,⟨p,hp,rfl⟩,ew⟩:=jgo R (by omega) (fun s d h=>.inl h.2) h0;exact .inr ⟨_,(ZS (jL (jn rfl rfl jjq))).trans (JX (Je (jx (jy rfl (jy (jn rfl rfl jn7) rfl)) ew))),p,ks,j,s,off,rfl,ho,R.lt s hs.1,hs.2,jcD R hp s h0,(jdT R hp s h0).1.1,(jdT R hp s h0).1.2,by have:=(jcD R hp s h0).len;omega⟩
theorem jgD {fl:List Ship} (hfl:∀s∈fl,s.Ok) (tK:fl.length<=8) {P:List (List Int)} (hP:PlanOk fl P) :
 ∃d,((d=.non/\∀off,off<(jg fl).length->NoK fl P off)\/jnB fl P d)/\jb1 [.lst (fl.map ji),.lst (P.map jm)]=some d:=by
 have hsl:(jg fl).length<40:=zC (by omega);have em:=ZT hfl tK hP;have e1:=jdD (fl:=fl) (fun s hs=>jnd (hfl s hs)) (by omega);have e2:Jh [.lst (fl.map ji)]=some ((qJ fl).map D.int):=je6 (fl:=fl) (by omega);rw [jlH] at e1;obtain ⟨sP,row,cell⟩:=jao hP;have ll:(qJ fl).length=(jg fl).length:=Yc _;have tl:(qL P (jg fl).length).length=(jg fl).length:=by unfold qL;rw [Yc,YS]
 have lb:∀x∈qJ fl,0<x/\x<2000000000000000:=fun x hx=>by
  obtain ⟨j,hj,ej⟩:=yf hx;have hj':j<(jg fl).length:=by rw [<-ll];exact hj
  have:=qP hfl hj';rw [<-jax hj',Ye,Ya hj,ej] at this;exact this
 unfold jb1;refine jar (ρ:=[.sh ‹"d"›,.sh ‹"j"›,.un,.un,.un,.un,.un,.un,.un,.un]) _ rfl rfl fun C fin=>?_;unfold jex;refine jF [.sh ‹"d"›,.sh ‹"j"›,.un,.un,.un,.un,.un,.un,.un,.un] (by unfold Ze;rw [jx rfl em]) ?_;refine jF [.sh ‹"d"›,.sh ‹"j"›,.sh ‹"r"›,.un,.un,.un,.un,.un,.un,.un] (ze (jx rfl e1)) ?_;refine jF [.sh ‹"d"›,.sh ‹"j"›,.sh ‹"r"›,.sh ‹"3"›,.un,.un,.un,.un,.un,.un] (ze (jx rfl e2)) ?_;have el:qj [.lst ((qJ fl).map D.int)]=some (.int ((jg fl).length:Int)):=by show some (D.int (((qJ fl).map D.int).length:Int))=_;rw [Yc,ll]
 have er:∀{ρ:ee},ja 3 ρ=some ‹"3"›->Jt (jc (jh qj (jc (ja 3) jj)) jj) ρ=some ((List.range (jg fl).length).map fun j:Nat=>D.int (j:Int)):=fun h=>by rw [Jk (j:=((jg fl).length:Int)) (jy (jx (jy h rfl) el) rfl) (by omega) (by omega),Yp,jbb]
 refine jF [.sh ‹"d"›,.sh ‹"j"›,.sh ‹"r"›,.sh ‹"3"›,.sh ‹"e"›,.un,.un,.un,.un,.un] (ze (qV (er rfl) (by rw [Yc,YS];omega) ?_)) ?_
 . unfold qL;rw [YL];exact Jo (fun j:Nat=>D.int (j:Int)) _ (List.range (jg fl).length) fun j hj=>⟨[.sh (.int (j:Int)),.sh ‹"j"›],rfl,rfl,jx rfl (jgt (jkL sP (yM.mp hj)) (by rw [sP.1];omega))⟩
 have hz:∀{ρ:ee},ja 4 ρ=some ‹"e"›->ja 3 ρ=some ‹"3"›->QX (jc (ja 4) (jc (ja 3) jj)) ρ=some (‹"o"›.map fun q=>.tup [.int q.1,.int q.2]):=fun h4 h3=>by unfold QX;rw [jy h4 (jy h3 rfl)];exact congrArg some (jeu D.int D.int _ _)
 have zl:(‹"o"›.map fun q:Int×Int=>D.tup [.int q.1,.int q.2]).length<16777216:=by rw [Yc,kc,tl,ll];omega
 have lcX:∀(f:Int×Int->Int) (fe:ee->Option D) (ρ:ee),ja 4 ρ=some ‹"e"›->ja 3 ρ=some ‹"3"›->(∀q∈(qL P (jg fl).length).zip (qJ fl),fe [.sh (.int q.1),.sh (.int q.2)]=some (.int (f q)))->JV (QX (jc (ja 4) (jc (ja 3) jj))) (Qa 2 ‹"aK"›) ‹"l"› fe 2 [] ρ=some ((‹"o"›.map f).map D.int):=fun f fe ρ h4 h3 h=>qV (hz h4 h3) zl (by rw [YL];exact Jo (fun q:Int×Int=>.tup [.int q.1,.int q.2]) _ ‹"o"› fun q hq=>⟨[.sh (.int q.1),.sh (.int q.2)],rfl,rfl,h q hq⟩)
 refine jF [.sh ‹"d"›,.sh ‹"j"›,.sh ‹"r"›,.sh ‹"3"›,.sh ‹"e"›,.sh (.lst (‹"bf"›.map D.int)),.un,.un,.un,.un] (ze (lcX (fun q=>q.1/q.2) _ _ rfl rfl fun q hq=>?_)) ?_
 . have:=lb q.2 (KO hq).2;exact jn rfl rfl (j9 this.1 (by omega))
 refine jF [.sh ‹"d"›,.sh ‹"j"›,.sh ‹"r"›,.sh ‹"3"›,.sh ‹"e"›,.sh (.lst (‹"bf"›.map D.int)),.sh (.lst (‹"bd"›.map D.int)),.un,.un,.un] (ze (lcX (fun q=>(q.1+q.2-1)/q.2) _ _ rfl rfl fun q hq=>?_)) ?_
 . have:=lb q.2 (KO hq).2;exact jn (jn (jn rfl rfl jI) rfl jV) rfl (j9 this.1 (by omega))
 have hL:(‹"bf"›.length=(jg fl).length)/\∀j,j<(jg fl).length->‹"bf"›.getD j 0=jY fl P j:=by refine ⟨by rw [Yc,kc,tl,ll];omega,fun j hj=>?_⟩;rw [jfY (fun q=>q.1/q.2) (by omega) (by omega),jjW hj,jax hj];rfl
 have hG:(‹"bd"›.length=(jg fl).length)/\∀j,j<(jg fl).length->‹"bd"›.getD j 0=qi fl P j:=by refine ⟨by rw [Yc,kc,tl,ll];omega,fun j hj=>?_⟩;rw [jfY (fun q=>(q.1+q.2-1)/q.2) (by omega) (by omega),jjW hj,jax hj];rfl
 generalize ‹"bf"›=L at hL;generalize ‹"bd"›=G at hG;refine jjI (fun j:Nat=>D.int (j:Int)) (jg fl).length (fun j ρ=>∃z7 z8 z9:Slot,ρ=[.sh ‹"d"›,.sh ‹"j"›,.sh ‹"r"›,.sh ‹"3"›,.sh ‹"e"›,.sh ‹"ad"›,.sh (.lst (G.map D.int)),z7,z8,z9]/\∀off,off<j->NoK fl P off) (jnB fl P) (er rfl) ⟨_,_,_,rfl,fun off h=>absurd h (K9 _)⟩ ?_ ?_ fun d h=>fin d (.inr h)
 . rintro j ρ hj ⟨z7,z8,z9,rfl,no⟩;obtain ⟨r,eB,h⟩:=jg4 tK hsl sP hG hL hj (.sh ‹"d"›) (.sh ‹"3"›) (.sh ‹"e"›) z8 z9;refine ⟨_,rfl,?_⟩;rcases h with ⟨y8,y9,rfl,nk⟩ | ⟨d,rfl,yk⟩
   . refine .inl ⟨_,eB,_,_,_,rfl,fun off ho=>?_⟩;rcases YT off j with z | z
     . exact no off z
     . rw [show off=j by omega];exact nk
   . exact .inr ⟨d,eB,yk⟩
 . rintro ρ ⟨z7,z8,z9,rfl,no⟩;exact Qp (JX rfl) (fin _ (.inl ⟨rfl,no⟩))
theorem jjX {fl:List Ship} (hfl:∀s∈fl,s.Ok) {P:List (List Int)} {s off:Nat} (hs:s<(jg fl).length) (g:2<=qi fl P off-jY fl P s):s≠off:=fun z=>by subst z;have hl:=(qP hfl hs).1;have a:=jb9 (T:=qt P s) hl;have b:=ZD (T:=qt P s) hl;unfold qi jY at g;generalize qt P s/zp fl s=q at a g;generalize (qt P s+zp fl s-1)/zp fl s=G at b g;have:=jdH hl (show (G-1)*zp fl s<(q+1)*zp fl s by omega);omega
theorem jg8 {fl:List Ship} (hfl:∀s∈fl,s.Ok) (tK:fl.length<=8) {P:List (List Int)} (hP:PlanOk fl P) {p:List ‹"k"›} {ks:List Nat} {j s off:Nat} (ok:PathOk (j1 fl) P fl.length (jg fl).length ks j s p (fun _=>0) (fun t=>ind (off=t))) :
 ∃Q:List (List Int),jbZ [.lst (fl.map ji),.lst (P.map jm),.lst (p.map jP)]=some (.lst (Q.map jm))/\PlanOk fl Q/\∀t,t<(jg fl).length->qt Q t=qt P t+ind (s=t)-ind (off=t):=by
 have em:=ZT hfl tK hP;obtain ⟨sP,row,cell⟩:=jao hP;obtain ⟨d,⟨Q,rfl,sQ,hat⟩,eb⟩:=jga sP (by omega) (p:=p) (fun q hq=>⟨(ok.ok q hq).1,(ok.ok q hq).2.1,(ok.ok q hq).2.2.1⟩) 1;obtain ⟨pQ,col⟩:=jgO hP sQ ok hat;refine ⟨Q,?_,pQ,col⟩;unfold jbZ;refine Jd (ρ:=[.sh ‹"d"›,.sh ‹"j"›,.sh ‹"O"›]) rfl rfl fun C fin=>?_;unfold jeA;refine jF [.sh ‹"d"›,.sh ‹"j"›,.sh ‹"O"›] (by unfold Ze;rw [jx rfl em]) ?_;exact Qp (JX (jx rfl eb)) fin
theorem jlx {α:Type} (f:Nat->α) (m:Nat):((List.range (m+1)).map f).zip ((List.range (m+1)).map f).tail=(List.range m).map fun j=>(f j,f (j+1)):=by
 apply List.ext_getElem
 . simp
 . intro j h1 h2;simp
theorem jkv {fl:List Ship} {x:Int}:x∈J8 fl ↔ ∃i,i<fl.length/\(x=(shp fl i).b\/x=(shp fl i).e):=by
 rw [mem_bnds];unfold hrs;rw [Y7,Y3,Y3];have at_:∀s∈fl,∃i,i<fl.length/\shp fl i=s:=fun s hs=>by obtain ⟨i,hi,e⟩:=yf hs;refine ⟨i,hi,?_⟩;have:=Zt hi;rw [Ya hi,e] at this;exact (Option.some.inj this).symm
 constructor
 . rintro (⟨s,hs,rfl⟩ | ⟨s,hs,rfl⟩)
   . obtain ⟨i,hi,rfl⟩:=at_ s hs;exact ⟨i,hi,.inl rfl⟩
   . obtain ⟨i,hi,rfl⟩:=at_ s hs;exact ⟨i,hi,.inr rfl⟩
 . rintro ⟨i,hi,rfl | rfl⟩
   . exact .inl ⟨_,QK hi,rfl⟩
   . exact .inr ⟨_,QK hi,rfl⟩
theorem jbm {n:Nat} (hn:2<=n) {a w M:Int} (hw:0<w) (hM:0<=M) {fl:List Ship} {P:List (List Int)} (hP:Shape n (n+1) P) (hl:fl.length=n) (pl:Nat->Nat) (hpl:∀i,i<n->pl i<n) (cov:∀q,q<n->∃i,i<n/\pl i=q)
 (sb:∀i,i<n->(shp fl i).b=a+(pl i:Int)*w) (se:∀i,i<n->(shp fl i).e=a+(pl i:Int)*w+2*w) (sm:∀i,i<n->(shp fl i).m=M) (row:∀i,i<n->j8 (Jj P i) (n+1)=(shp fl i).n)
 (cell:∀i j,i<n->j<n+1->0<=Jj P i j/\(Jj P i j<=0\/((j=pl i\/j=pl i+1)/\Jj P i j<=M*w))):PlanOk fl P:=by
 have st:∀q:Nat,a+((q+1:Nat):Int)*w=a+(q:Int)*w+w:=fun q=>by rw [Int.natCast_add,KG];omega
 have st2:∀q:Nat,a+((q+2:Nat):Int)*w=a+(q:Int)*w+2*w:=fun q=>by rw [Int.natCast_add,KG];omega
 have hb:J8 fl=(List.range (n+2)).map fun j:Nat=>a+(j:Int)*w:=by
  refine QH (jbj fl) ?_ fun x=>?_
  . rw [List.pairwise_map];refine List.pairwise_lt_range.imp fun {i j} h=>?_;have:=Int.mul_lt_mul_of_pos_right (show (i:Int)<j by omega) hw;omega
  . rw [jkv,Y3,hl];constructor
    . rintro ⟨i,hi,e⟩;have:=hpl i hi;rw [sb i hi,se i hi,<- st2] at e;rcases e with rfl | rfl
      . exact ⟨pl i,yM.mpr (by omega),rfl⟩
      . exact ⟨pl i+2,yM.mpr (by omega),rfl⟩
    . rintro ⟨q,hq,rfl⟩;have hq:=yM.mp hq;rcases YT q n with z | z
      . obtain ⟨i,hi,e⟩:=cov q z;exact ⟨i,hi,.inl (by rw [sb i hi,e])⟩
      . obtain ⟨i,hi,e⟩:=cov (q-2) (by omega);refine ⟨i,hi,.inr ?_⟩;rw [se i hi,e,<- st2,show q-2+2=q by omega]
 have hs:jg fl=(List.range (n+1)).map fun j:Nat=>(a+(j:Int)*w,a+((j+1:Nat):Int)*w):=by unfold jg;rw [hb];exact jlx _ (n+1)
 have hsl:(jg fl).length=n+1:=by rw [hs,Yc,YS]
 have sp:∀j,j<n+1->spn fl j=(a+(j:Int)*w,a+((j+1:Nat):Int)*w):=fun j hj=>by have:=QR (fl:=fl) (j:=j) (by omega);rw [hs,List.getElem?_map,Y0 hj] at this;exact (Option.some.inj this).symm
 refine jib (by rw [hl,hsl];exact hP) (fun i hi=>?_) fun i j hi hj=>?_
 . rw [hsl,jal hi];exact row i (by omega)
 . rw [jb7 hi hj];have c:=cell i j (by omega) (by omega);have nn:0<=qR (shp fl i) (spn fl j):=by
    have:=(jaH (YE (QR hj))).1;unfold qR;rw [sm i (by omega)];split
    . exact yz hM (by omega)
    . omega
   refine ⟨c.1,?_⟩;rcases c.2 with z | ⟨z,le⟩
   . omega
   . refine Int.le_trans le ?_;unfold qR;have e0:=sb i (by omega);have e1:=se i (by omega);rw [sp j (by omega),if_pos,sm i (by omega)]
     . show M*w<=M*(a+((j+1:Nat):Int)*w-(a+(j:Int)*w));rw [st,show a+(j:Int)*w+w-(a+(j:Int)*w)=w by omega];exact ke _
     . show (shp fl i).b<=a+(j:Int)*w/\a+((j+1:Nat):Int)*w<=(shp fl i).e;rw [st];rcases z with rfl | rfl
       . omega
       . rw [st];omega
def stC (n:Nat) (L w:Int) (k j:Nat):Int:=(if k=j then (L+ind (k=0))*w else 0)+if n=j then (if k+1=n then (L-1)*w else 0) else 0
def stR (n:Nat) (L w:Int) (k:Nat):List Int:=(List.range (n+1)).map (stC n L w k)
def stS (n:Nat) (L w M:Int) (k:Nat):Ship:=⟨k*w,(k+2)*w,(stR n L w k).sum,M⟩
theorem jeW (f:Nat->Int) (m:Nat):((List.range m).map f).sum=j8 f m:=by rw [jdk,Yc,YS];exact qq fun j hj=>by rw [Ye,List.getElem?_map,Y0 hj];rfl
theorem jhK {n:Nat} {L w:Int} {k:Nat} (hk:k<n):(stR n L w k).sum=(L+ind (k=0))*w+if k+1=n then (L-1)*w else 0:=by unfold stR;rw [jeW];unfold stC;rw [Jz,zu,zu,if_pos (show k<n+1 by omega),if_pos (show n<n+1 by omega)]
theorem jkJ {n:Nat} {L w:Int} {k j:Nat} (hj:j<n+1):(stR n L w k).getD j 0=stC n L w k j:=by unfold stR;rw [Ye,List.getElem?_map,Y0 hj];rfl
theorem jkN {n:Nat} {L w M:Int} (hL:1<=L) (hM:L+1<=M) (hw:0<w) {k j:Nat} (hk:k<n):0<=stC n L w k j/\(stC n L w k j<=0\/((j=k\/j=k+1)/\stC n L w k j<=M*w)):=by
 have i01:=jj0 (k=0);have a:=yz (show 0<=L+ind (k=0) by omega) (Y4 hw);have b:=YM (show L+ind (k=0)<=M by omega) (Y4 hw);have c:=yz (show 0<=L-1 by omega) (Y4 hw);have d:=YM (show L-1<=M by omega) (Y4 hw);unfold stC;by_cases c1:k=j
 . rw [if_pos c1,if_neg (show ¬n=j by omega),kn];exact ⟨a,.inr ⟨.inl c1.symm,b⟩⟩
 . rw [if_neg c1];by_cases c2:n=j
   . rw [if_pos c2];by_cases c3:k+1=n
     . rw [if_pos c3];exact ⟨by omega,.inr ⟨.inr (by omega),by omega⟩⟩
     . rw [if_neg c3];omega
   . rw [if_neg c2];omega
theorem joS {n:Nat} {L w M:Int} (hL:1<=L) (hM:L+1<=M) (hM8:M<=8) (hw:0<w) (hw1:w<=10000000000000) {k:Nat} (hk:k<n) (hn:n<=8):(stS n L w M k).Ok:=by
 have e:((k:Int)+2)*w=k*w+2*w:=KG _ _ _;have k0:=yz (show 0<=(k:Int) by omega) (Y4 hw);have k1:=YM (show (k:Int)<=8 by omega) (Y4 hw);have i01:=jj0 (k=0);have a:=yz (show 0<=L+ind (k=0) by omega) (Y4 hw);have b:=YM (show L+ind (k=0)<=M by omega) (Y4 hw);have c:=yz (show 0<=L-1 by omega) (Y4 hw);have d:=YM (show L-1<=M by omega) (Y4 hw);have f:M*(2*w)=2*(M*w):=by rw [<-Int.mul_assoc,Int.mul_comm M 2,Int.mul_assoc]
 refine ⟨?_,?_,?_,?_,?_,?_,?_,?_⟩
 . show (k:Int)*w<(k+2)*w;omega
 . show ((k:Int)+2)*w-k*w<=_;omega
 . show _<=(k:Int)*w;omega
 . show (k:Int)*w<=_;omega
 . show 0<=M;omega
 . show M<=_;omega
 . show 0<=(stR n L w k).sum;rw [jhK hk];split <;> omega
 . show (stR n L w k).sum<=M*((k+2)*w-k*w);rw [jhK hk,e,show (k:Int)*w+2*w-k*w=2*w by omega,f];split <;> omega
def trn (s:Ship):Ship:=⟨0-s.e,0-s.b,s.n,s.m⟩
theorem jnE {s:Ship} (h:s.Ok) (hi:s.e<=500000000000000):(trn s).Ok:=by
 obtain ⟨h1,h2,h3,h4,h5,h6,h7,h8⟩:=h;refine ⟨?_,?_,?_,?_,h5,h6,h7,?_⟩
 . show 0-s.e<0-s.b;omega
 . show 0-s.b-(0-s.e)<=_;omega
 . show _<=0-s.e;omega
 . show 0-s.e<=_;omega
 . show s.n<=s.m*(0-s.b-(0-s.e));rw [show 0-s.b-(0-s.e)=s.e-s.b by omega];exact h8
def Zg (n:Nat) (L w M:Int) (j:Nat):List Ship:=(List.range j).map (stS n L w M)
def QZ (n:Nat) (L w:Int) (j:Nat):List (List Int):=(List.range j).map (stR n L w)
theorem je5 {n:Nat} {L w M:Int} {i j:Nat} (h:i<j):shp (Zg n L w M j) i=stS n L w M i:=by unfold shp Zg;rw [Ye,List.getElem?_map,Y0 h];rfl
theorem jb0 {n:Nat} {L w M:Int} {i j:Nat} (h:i<j):shp ((Zg n L w M j).map trn) i=trn (stS n L w M i):=by unfold shp Zg;rw [Ye,List.getElem?_map,List.getElem?_map,Y0 h];rfl
theorem jke {n:Nat} {L w:Int} {i j k:Nat} (h:i<j) (hk:k<n+1):Jj (QZ n L w j) i k=stC n L w i k:=by
 have e:(QZ n L w j).getD i []=stR n L w i:=by unfold QZ;rw [Ye,List.getElem?_map,Y0 h];rfl
 unfold Jj;rw [e];exact jkJ hk
theorem jia {n:Nat} {L w:Int} {i j k:Nat} (h:i<j) (hk:k<n+1):Jj ((QZ n L w j).map List.reverse) i k=stC n L w i (n-k):=by
 have e:((QZ n L w j).map List.reverse).getD i []=(stR n L w i).reverse:=by unfold QZ;rw [Ye,List.getElem?_map,List.getElem?_map,Y0 h];rfl
 unfold Jj;rw [e];have hl:(stR n L w i).length=n+1:=by unfold stR;rw [Yc,YS]
 rw [Ye,List.getElem?_reverse (by omega),hl,show n+1-1-k=n-k by omega,<- Ye];exact jkJ (by omega)
theorem jfV (f:Nat->Int):∀n,j8 (fun k=>f (n-k)) (n+1)=j8 f (n+1)
 | 0=>rfl
 | n+1=>by
   have key:∀m,j8 (fun k=>f k) (m+1)=f 0+j8 (fun k=>f (k+1)) m:=fun m=>by
     induction m with
     | zero=>show (0:Int)+f 0=f 0+0;omega
     | succ m ih=>show j8 (fun k=>f k) (m+1)+f (m+1)=f 0+(j8 (fun k=>f (k+1)) m+f (m+1));rw [ih];omega
   have a:=key (n+1);have b:j8 (fun k=>f (n+1-k)) (n+1+1)=j8 (fun k=>f (n-k+1)) (n+1)+f 0:=by show j8 (fun k=>f (n+1-k)) (n+1)+f (n+1-(n+1))=_;rw [KI];congr 1;exact qq fun k hk=>by rw [show n+1-k=n-k+1 by omega]
   rw [b,jfV (fun k=>f (k+1)) n];have a':j8 f (n+1+1)=f 0+j8 (fun k=>f (k+1)) (n+1):=a;rw [a'];omega
theorem jij (n:Nat) (L w:Int):Shape n (n+1) (QZ n L w n):=by refine ⟨by unfold QZ;rw [Yc,YS],fun r hr=>?_⟩;unfold QZ at hr;obtain ⟨i,_,rfl⟩:=Y3.mp hr;unfold stR;rw [Yc,YS]
theorem jlu {n:Nat} (hn:2<=n) {L w M:Int} (hL:1<=L) (hM:L+1<=M) (hw:0<w):PlanOk (Zg n L w M n) (QZ n L w n)/\PlanOk ((Zg n L w M n).map trn) ‹"ai"›:=by
 have hl:(Zg n L w M n).length=n:=by unfold Zg;rw [Yc,YS]
 have e2:∀k:Nat,((k:Int)+2)*w=k*w+2*w:=fun k=>KG _ _ _;constructor
 . refine jbm hn (a:=0) (M:=M) hw (by omega) (jij n L w) hl (fun i=>i) (fun i h=>h) (fun q h=>⟨q,h,rfl⟩) (fun i hi=>?_) (fun i hi=>?_) (fun i hi=>?_) (fun i hi=>?_) fun i j hi hj=>?_
   . rw [je5 hi,Int.zero_add];rfl
   . rw [je5 hi,Int.zero_add];exact e2 i
   . rw [je5 hi];rfl
   . rw [je5 hi];show _=(stR n L w i).sum;unfold stR;rw [jeW];exact qq fun j hj=>jke hi hj
   . rw [jke hi hj];exact jkN hL hM hw hi
 . have sh:Shape n (n+1) ‹"ai"›:=by refine ⟨by rw [Yc,(jij n L w).1],fun r hr=>?_⟩;obtain ⟨q,hq,rfl⟩:=Y3.mp hr;rw [kd,(jij n L w).2 q hq]
   have e3:∀i:Nat,i<n->0-((i:Int)+2)*w=0-((n:Int)+1)*w+((n-1-i:Nat):Int)*w:=fun i hi=>by
    have:((n-1-i:Nat):Int)=n-1-i:=by omega
    rw [this,KG,KG,Int.sub_mul,Int.sub_mul];omega
   refine jbm hn (a:=0-((n:Int)+1)*w) (M:=M) hw (by omega) sh (by rw [Yc,hl]) (fun i=>n-1-i) (fun i h=>by omega) (fun q h=>⟨n-1-q,by omega,by omega⟩) (fun i hi=>?_) (fun i hi=>?_) (fun i hi=>?_) (fun i hi=>?_) fun i j hi hj=>?_
   . rw [jb0 hi];exact e3 i hi
   . rw [jb0 hi,<- e3 i hi];show 0-(i:Int)*w=_;rw [e2];omega
   . rw [jb0 hi];rfl
   . rw [jb0 hi];show _=(stR n L w i).sum;unfold stR;rw [jeW];exact (qq fun j hj=>jia hi hj).trans (jfV (stC n L w i) n)
   . rw [jia hi hj];have:=jkN hL hM hw (k:=i) (j:=n-j) hi;refine ⟨this.1,?_⟩;rcases this.2 with z | ⟨z,le⟩
     . exact .inl z
     . exact .inr ⟨by omega,le⟩
theorem jnK:QM (.int 10) (.int 13)=some (.int 10000000000000):=by rw [Zw (by unfold jc7;omega)];rfl
theorem jmX {ρ:ee} {i j:Nat} {fk fa:ee->Option D} {ds:List D} {d:D} (h:ρ[i]?=some (.ow ds)) (hf:fa ρ=some d) (hk:fk ρ=some (.int (j:Int))) (hj:j<ds.length):Q8 i fk fa ρ=.next (ρ.set i (.ow (ds.set j d))):=by
 have e:ixN ds.length (j:Int)=some j:=by unfold ixN;rw [if_pos (by omega),if_pos (by omega),Yp]
 unfold Q8;rw [h,hf,hk];dsimp only;rw [e]
theorem jhm {ρ:ee} {i:Nat} {fo:ee->Option (List D)} {l:List D} (h:fo ρ=some l):zc i fo ρ=.next (ρ.set i (.ow l)):=by unfold zc;rw [h]
theorem joc {n:Nat} {L w:Int} {k:Nat} (hk:k<n):(if k+1=n then ((‹"B"›.set k ((L+ind (k=0))*w)).set n ((L-1)*w)) else (‹"B"›.set k ((L+ind (k=0))*w)))=stR n L w k:=by
 have key:∀l:List Int,l.length=n+1->(∀j,j<n+1->l[j]?=some (stC n L w k j))->l=stR n L w k:=fun l hl h=>by
  apply Kw;intro j;rcases YT j (n+1) with z | z
  . rw [h j z];unfold stR;rw [List.getElem?_map,Y0 z];rfl
  . rw [YF (by omega),YF (by unfold stR;rw [Yc,YS];omega)]
 have z0:∀j,j<n+1->‹"B"›[j]?=some 0:=fun j hj=>by rw [List.getElem?_map,Y0 hj];rfl
 have zl:‹"B"›.length=n+1:=by rw [Yc,YS]
 generalize ‹"B"›=Z at z0 zl;by_cases c:k+1=n
 . rw [if_pos c];refine key _ (by rw [yS,yS,zl]) fun j hj=>?_;unfold stC;rw [KZ];by_cases c1:n=j
   . rw [if_pos c1,if_pos (by rw [yS];omega),if_neg (show ¬k=j by omega),if_pos c1,if_pos c,Int.zero_add]
   . rw [if_neg c1,if_neg c1,kn,KZ];by_cases c2:k=j
     . rw [if_pos c2,if_pos (by omega),if_pos c2]
     . rw [if_neg c2,if_neg c2,z0 j hj]
 . rw [if_neg c];refine key _ (by rw [yS,zl]) fun j hj=>?_;unfold stC;rw [KZ,if_neg c];have e:(if n=j then (0:Int) else 0)=0:=by split <;> rfl
   rw [e,kn];by_cases c2:k=j
   . rw [if_pos c2,if_pos (by omega),if_pos c2]
   . rw [if_neg c2,if_neg c2,z0 j hj]
theorem jme {c L w M:Int} {n j:Nat} (hj:j<n) (hn:n<=8) (hL:1<=L/\L<=5) (hw:0<w) (hw1:w<=10000000000000) (z8:Slot) :
 (jt ‹"bh"›
  (jt ‹"aT"›
  (jt (zQ (qw (jl dEq (ja 7) (jl qI (ja 1) (eC (.int 1)))))
  (Q8 8 (jq 1) (jl za (jl qI (ja 2) (eC (.int 1))) (ja 3))) jQ)
  (jt ‹"v"›
  (jad 8 (zG 6 (jq 8)))))))
  ‹"2"› =
 .next ‹"Q"›:=by
 have lf:(Zg n L w M j).length=j:=by unfold Zg;rw [Yc,YS]
 have lp:(QZ n L w j).length=j:=by unfold QZ;rw [Yc,YS]
 have ef:Zg n L w M (j+1)=Zg n L w M j++[stS n L w M j]:=by unfold Zg;rw [List.range_succ,YO];rfl
 have ep:QZ n L w (j+1)=QZ n L w j++[stR n L w j]:=by unfold QZ;rw [List.range_succ,YO];rfl
 have zl:(‹"B"›.map D.int).length=n+1:=by rw [Yc,Yc,YS]
 have hlc:JV (Jt (jc (jl qp (ja 1) (eC (.int 1))) jj)) (jz 0) ‹"l"› (eC (.int 0)) 1 [] ‹"2"›=some (‹"B"›.map D.int):=by
  refine qV (ds:=(List.range (n+1)).map fun j:Nat=>D.int (j:Int)) ?_ (by rw [Yc,YS];omega) ?_
  . rw [Jk (j:=(n:Int)+1) (jy (jn rfl rfl jI) rfl) (by omega) (by omega),show ((n:Int)+1).toNat=n+1 by omega,jbb]
  . rw [YL];exact Jo (fun j:Nat=>D.int (j:Int)) _ (List.range (n+1)) fun i _=>⟨[.sh (.int (i:Int))],rfl,rfl,rfl⟩
 have eint:jh jiM (jc (jl dEq (ja 7) (eC (.int 0))) jj) [.sh (.int c),.sh (.int (n:Int)),.sh (.int L),.sh (.int w),.sh (.int M),.ow ((Zg n L w M j).map ji),.ow ((QZ n L w j).map jm),.sh (.int (j:Int)),.ow (‹"B"›.map D.int)]=some (.int (ind (j=0))):=by
  by_cases z:j=0
  . rw [JB z];exact jx (jy (jn rfl rfl (jf0 (show (j:Int)=0 by omega))) rfl) rfl
  . rw [zi z];exact jx (jy (jn rfl rfl (jbr (show ¬(j:Int)=0 by omega))) rfl) rfl
 refine (qf (jhm hlc)).trans ?_;refine (qf (jmX (j:=j) rfl (jn (jn rfl eint jI) rfl (Jl (by omega) (by omega))) rfl (by rw [zl];omega))).trans ?_;have s1:=joc (n:=n) (L:=L) (w:=w) (k:=j) hj;have fin:∀ρ,ρ=[.sh (.int c),.sh (.int (n:Int)),.sh (.int L),.sh (.int w),.sh (.int M),.ow ((Zg n L w M j).map ji),.ow ((QZ n L w j).map jm),.sh (.int (j:Int)),.ow ((stR n L w j).map D.int)]->(jt ‹"v"› (jad 8 (zG 6 (jq 8)))) ρ=.next ‹"Q"›:=fun ρ e=>by subst e;refine (qf (jfU (ds:=(Zg n L w M j).map ji) (d:=ji (stS n L w M j)) rfl (jf8 (jy (jn rfl rfl (Jl (by omega) (by omega))) (jy (jn (jn rfl rfl jI) rfl (Jl (by omega) (by omega))) (jy (jx rfl (jb2 _)) (jy rfl rfl)))) (show 4<16777216 by decide)) (by rw [Yc];omega))).trans ?_;rw [ef,ep,YO,YO];unfold jad;exact jfU (ρ:=[.sh (.int c),.sh (.int (n:Int)),.sh (.int L),.sh (.int w),.sh (.int M),.ow ((Zg n L w M j).map ji++[ji (stS n L w M j)]),.ow ((QZ n L w j).map jm),.sh (.int (j:Int)),.sh (jm (stR n L w j))]) (ds:=(QZ n L w j).map jm) (d:=jm (stR n L w j)) rfl rfl (by rw [Yc];omega)
 by_cases z:j+1=n
 . rw [if_pos z] at s1;refine (qf ((ZS (jL (jn rfl (jn rfl rfl jV) (jf0 (show (j:Int)=n-1 by omega))))).trans (jmX (j:=n) rfl (jn (jn rfl rfl jV) rfl (Jl (by omega) (by omega))) rfl (by rw [yS,zl];omega)))).trans (fin _ ?_);rw [<-s1,KJ,KJ];rfl
 . rw [if_neg z] at s1;refine (qf (qH (jL (jn rfl (jn rfl rfl jV) (jbr (show ¬(j:Int)=n-1 by omega)))))).trans (fin _ ?_);rw [<-s1,KJ];rfl
theorem jfu (c:Int):∃d,(∃(fl:List Ship) (P:List (List Int)),d=.tup [.lst (fl.map ji),.lst (P.map jm)]/\fl.length<=8/\(∀s∈fl,s.Ok)/\PlanOk fl P)/\zI [.int c]=some d:=by
 obtain ⟨n,hn⟩:∃n:Nat,2+c%7=n:=⟨(2+c%7).toNat,by omega⟩;obtain ⟨L,hL⟩:∃L,1+c/7%5=L:=⟨_,rfl⟩;obtain ⟨w,hw⟩:∃w,1+c/35%10000000000000=w:=⟨_,rfl⟩;obtain ⟨M,hM⟩:∃M,L+1+c/70%3=M:=⟨_,rfl⟩;have n2:2<=n/\n<=8:=by omega
 have L1:1<=L/\L<=5:=by omega
 have w1:0<w/\w<=10000000000000:=by omega
 have M1:L+1<=M/\M<=8:=by omega
 have lf:(Zg n L w M n).length=n:=by unfold Zg;rw [Yc,YS]
 have lp:(QZ n L w n).length=n:=(jij n L w).1;have okF:∀s∈Zg n L w M n,s.Ok/\s.e<=500000000000000:=fun s hs=>by unfold Zg at hs;obtain ⟨k,hk,rfl⟩:=Y3.mp hs;have hk:=yM.mp hk;refine ⟨joS L1.1 M1.1 M1.2 w1.1 w1.2 hk n2.2,?_⟩;show ((k:Int)+2)*w<=_;have:=YM (show (k:Int)+2<=10 by omega) (Y4 w1.1);omega
 have pl:=jlu (n:=n) n2.1 (L:=L) (w:=w) (M:=M) L1.1 M1.1 w1.1;unfold zI;refine jar (ρ:=[.sh (.int c),.un,.un,.un,.un,.un,.un,.un,.un]) _ rfl rfl fun C fin=>?_;unfold Qm;refine jF [.sh (.int c),.sh (.int (n:Int)),.un,.un,.un,.un,.un,.un,.un] (qx (by rw [jn rfl ‹"R"› jI,hn])) ?_;refine jF [.sh (.int c),.sh (.int (n:Int)),.sh (.int L),.un,.un,.un,.un,.un,.un] (qx (by rw [jn rfl ‹"c"› jI,hL])) ?_;refine jF [.sh (.int c),.sh (.int (n:Int)),.sh (.int L),.sh (.int w),.un,.un,.un,.un,.un] (qx (by rw [jn rfl (jn (jn rfl rfl (j9 (by decide) (by decide))) (jn rfl rfl jnK) (jK (by decide))) jI,hw])) ?_;refine jF [.sh (.int c),.sh (.int (n:Int)),.sh (.int L),.sh (.int w),.sh (.int M),.un,.un,.un,.un] (qx (by rw [jn (jn rfl rfl jI) ‹"c"› jI,hM])) ?_;refine jF [.sh (.int c),.sh (.int (n:Int)),.sh (.int L),.sh (.int w),.sh (.int M),.ow [],.un,.un,.un] rfl ?_;refine jF [.sh (.int c),.sh (.int (n:Int)),.sh (.int L),.sh (.int w),.sh (.int M),.ow [],.ow [],.un,.un] rfl ?_;refine jg3 (fun j:Nat=>D.int (j:Int)) n (fun j ρ=>∃z7 z8:Slot,ρ=[.sh (.int c),.sh (.int (n:Int)),.sh (.int L),.sh (.int w),.sh (.int M),.ow ((Zg n L w M j).map ji),.ow ((QZ n L w j).map jm),z7,z8])
  (by rw [Jk (j:=(n:Int)) (jy rfl rfl) (by omega) (by omega),Yp,jbb]) ⟨_,_,rfl⟩ ?_ ?_
 . rintro j ρ hj ⟨z7,z8,rfl⟩;exact ⟨_,_,rfl,jme hj n2.2 L1 w1.1 w1.2 z8,_,_,rfl⟩
 . rintro ρ ⟨z7,z8,rfl⟩;by_cases q:c/210%2=1
   . refine jF [.sh (.int c),.sh (.int (n:Int)),.sh (.int L),.sh (.int w),.sh (.int M),.ow (((Zg n L w M n).map trn).map ji),.ow (‹"ai"›.map jm),z7,z8] ((ZS (jL (jn ‹"c"› rfl (jf0 q)))).trans ?_) ?_
     . have l1:JV (qg (ja 5)) (Qa 4 (jZ (jz 0) (jZ (jz 1) (jZ (jz 2) (jZ (jz 3) Qi))))) ‹"l"› ‹"aC"› 4 [] ‹"9"›=some (((Zg n L w M n).map trn).map ji):=by refine qV (ds:=(Zg n L w M n).map ji) rfl (by rw [Yc];omega) ?_;rw [YL];exact Jo ji _ (Zg n L w M n) fun s _=>⟨[.sh (.int s.b),.sh (.int s.e),.sh (.int s.n),.sh (.int s.m)],rfl,rfl,jf8 (jy (jn rfl rfl jV) (jy (jn rfl rfl jV) (jy rfl (jy rfl rfl)))) (show 4<16777216 by decide)⟩
       have l2:JV (qg (ja 6)) (jz 0) ‹"l"› (jN (jh jgb (jc (ja 0) jj))) 1 [] [.sh (.int c),.sh (.int (n:Int)),.sh (.int L),.sh (.int w),.sh (.int M),.ow (((Zg n L w M n).map trn).map ji),.ow ((QZ n L w n).map jm),z7,z8]=some (‹"ai"›.map jm):=by refine qV (ds:=(QZ n L w n).map jm) rfl (by rw [Yc];omega) ?_;rw [show ‹"ai"›.map jm=(QZ n L w n).map (jm∘List.reverse) from YL];refine Jo jm _ (QZ n L w n) fun r _=>⟨[.sh (jm r)],rfl,rfl,?_⟩;exact Je (l:=r.reverse.map D.int) (jx (f:=jgb) (ds:=[jm r]) rfl (by show some (r.map D.int).reverse=some (r.reverse.map D.int);rw [List.map_reverse]))
       exact (qf (jhm l1)).trans (jhm l2)
     . exact Qp (ρ:=[.sh (.int c),.sh (.int (n:Int)),.sh (.int L),.sh (.int w),.sh (.int M),.sh (.lst (((Zg n L w M n).map trn).map ji)),.sh (.lst (‹"ai"›.map jm)),z7,z8]) (F:=j6 (QP (jc (jq 5) (jc (jq 6) jj)))) (JX (jf8 (jy rfl (jy rfl rfl)) (show 2<16777216 by decide))) (fin _ ⟨_,_,rfl,by rw [Yc,lf];exact n2.2,fun s hs=>by obtain ⟨t,ht,rfl⟩:=Y3.mp hs;exact jnE (okF t ht).1 (okF t ht).2,pl.2⟩)
   . refine jF ‹"9"› (qH (jL (jn ‹"c"› rfl (jbr q)))) ?_;exact Qp (ρ:=[.sh (.int c),.sh (.int (n:Int)),.sh (.int L),.sh (.int w),.sh (.int M),.sh (.lst ((Zg n L w M n).map ji)),.sh (.lst ((QZ n L w n).map jm)),z7,z8]) (F:=j6 (QP (jc (jq 5) (jc (jq 6) jj)))) (JX (jf8 (jy rfl (jy rfl rfl)) (show 2<16777216 by decide))) (fin _ ⟨_,_,rfl,by rw [lf];exact n2.2,fun s hs=>(okF s hs).1,pl.1⟩)
theorem jdu {fl:List Ship} (hfl:∀s∈fl,s.Ok) (hl:fl.length<20):JF [.lst (fl.map ji),.lst ‹"a5"›]=some ((j1 fl).map jm):=by have hsl:=zC hl;refine jhP (m:=JD) (ρ:=[.sh ‹"d"›,.sh ‹"i"›]) rfl rfl (jct ?_);refine qV (qF rfl) (by rw [Yc];omega) ?_;unfold j1;rw [YL];exact Jo ji _ fl fun s hs=>⟨[.sh (ji s),.sh ‹"i"›],rfl,rfl,Je (jx rfl (jcB (hfl s hs) (by omega)))⟩
theorem jfF {α:Type} {f:α->D} {l:List α} (hn:l≠[]):jM (.lst (l.map f)) (.int (-1))=some (f (l.getLast hn)):=by
 have hl:0<l.length:=List.length_pos_iff.mpr hn;show atI (l.map f) (-1)=_;unfold atI ixN;rw [if_neg (by decide),if_pos (by rw [Yc];omega),Yd,List.getElem?_map];have e:(-1+((l.map f).length:Int)).toNat=l.length-1:=by rw [Yc];omega
 rw [e,List.getLast_eq_getElem,Ya (by omega)];rfl
theorem jlg {x:Nat} {l:List Nat} (h:x∉l):dIn false (.int (x:Int)) (.lst (nI l))=some (.bl false):=by
 have hf:(nI l).all qG=true:=List.all_eq_true.mpr fun d hd=>by unfold nI at hd;obtain ⟨i,_,rfl⟩:=Y3.mp hd;rfl
 have he:inV (vOf (.int (x:Int))) ((nI l).map vOf)=false:=by unfold inV nI;rw [YL,List.any_map];refine List.any_eq_false.mpr fun y hy=>?_;show ¬(((y:Int) == (x:Int))=true);intro z;have:=eq_of_beq z;exact h (by rw [show x=y by omega];exact hy)
 show (if (qG (.int (x:Int)) && (nI l).all qG)=true then some (D.bl (inV (vOf (.int (x:Int))) ((nI l).map vOf))) else none)=_;rw [hf,he];rfl
theorem jkl (off:Nat) (p:List ‹"k"›) (h:(off::p.map fun q=>q.2.2)≠[]):(off::p.map fun q=>q.2.2).getLast h=jdv off p:=by
 induction p generalizing off with
 | nil=>rfl
 | cons q p ih=>show (off::q.2.2::p.map fun q=>q.2.2).getLast _=jdv q.2.2 p;rw [List.getLast_cons (by simp)];exact ih q.2.2 _
theorem ge0 {i j:Int} (h:i<j):dGe (.int i) (.int j)=some (.bl false):=by rw [jc0,Y6 (by omega)]
def Q7 (off:Nat) (p:List ‹"k"›):List D:=if p=[] then [] else nI (off::p.map fun q=>q.2.2)
theorem jeo {fl:List Ship} {P:List (List Int)} (hl:fl.length<=8) (hm:(jg fl).length<40) (sP:Shape fl.length (jg fl).length P) {off i o t:Nat} {pre:List ‹"k"›} (hi:i<fl.length) (ho:o<(jg fl).length) (ht:t<(jg fl).length) (g1:0<Jj P i o) (g2:Jj P i t<Jj (j1 fl) i t) (he:jdv off pre=o) (hn:t∉off::pre.map fun q=>q.2.2) (hpl:pre.length<2000) (mv z7 z8 z9 z10:Slot) :
 (jt (zQ (bOr (J7 (qw (QN "tuple" (ja 6)))) (qw (jl dNe (jh qj (jc (ja 6) jj)) (eC (.int 3)))))
  (j6 (eC (.bl false))) jQ)
  (jt (zP (Q9 (jq 6)) (jz 7)
  (zQ ‹"L"›
  (j6 (eC (.bl false))) jQ))
  (jt (jdB (Qa 3 (jZ (jz 8) (jZ (jz 9) (jZ (jz 10) Qi)))) (jq 6))
  (jt (zQ ‹"4"›
  (j6 (eC (.bl false))) jQ)
  (jt (zQ ‹"U"›
  (j6 (eC (.bl false))) jQ)
  (jt (zQ (qw (jl dEq (ja 5) (jN (zH jj))))
  (zG 5 (jq 9)) jQ)
  (jt (zQ ‹"K"›
  (j6 (eC (.bl false))) jQ)
  (zG 5 (jq 10)))))))))
  ‹"aZ"› =
 .next ‹"a1"›:=by
 have len0:qj [.lst (fl.map ji)]=some (.int (fl.length:Int)):=by show some (D.int ((fl.map ji).length:Int))=_;rw [Yc]
 have len1:qj [.lst ‹"a5"›]=some (.int ((jg fl).length:Int)):=by show some (D.int (‹"a5"›.length:Int))=_;rw [Yc]
 refine (qf (qH (Zc (QW (b:=true) (jL rfl)) (jL (jn (jx rfl rfl) rfl (ji6 rfl)))))).trans ?_;obtain ⟨ρ',e,⟨z7',hz,rfl⟩⟩:=jk2 (fi:=Q9 (jq 6)) (m:=jz 7) (B:=zQ ‹"L"› (j6 (eC (.bl false))) jQ) (ρ:=‹"aZ"›) (fun k=>D.int ((([i,o,t].getD k 0:Nat)):Int)) 3
  (fun k ρ=>∃z7:Slot,(k=3->z7=.sh (.int (t:Int)))/\ρ=‹"aZ"›) rfl ⟨z7,fun h=>by omega,rfl⟩ (fun k ρ hk ⟨z7,_,h⟩=>by subst h;refine ⟨_,_,rfl,qH (Zc (QW (b:=true) (jL rfl)) (Zc (jL rfl) (jL (jn rfl rfl (jkm (by omega)))))),_,fun h=>?_,rfl⟩;rw [show k=2 by omega];rfl)
 rw [hz rfl] at e;refine (qf e).trans ?_;refine (qf (ρ':=[.sh ‹"d"›,.sh ‹"i"›,.sh ‹"j"›,mv,.sh ‹"r"›,.ow (Q7 off pre),.sh (jP (i,some o,t)),.sh (.int (t:Int)),.sh (.int (i:Int)),.sh (.int (o:Int)),.sh (.int (t:Int))]) rfl).trans ?_;refine (qf (qH (Zc (jL (jn rfl (jx rfl len0) (ge0 (by omega)))) (Zc (jL (jn rfl (jx rfl len1) (ge0 (by omega)))) (jL (jn rfl (jx rfl len1) (ge0 (by omega)))))))).trans ?_;refine (qf (qH (Zc (jL (jn (jn (jn rfl rfl (jcv sP hi)) rfl (ja2 sP hi ho)) rfl (jkm (by omega)))) (jL (jn (jn (jn rfl rfl (jcv sP hi)) rfl (ja2 sP hi ht)) (jn (jn rfl rfl (jcv (Zu fl) hi)) rfl (ja2 (Zu fl) hi ht)) (ge0 g2)))))).trans ?_;have go:∀l:List D,l=nI (off::pre.map fun q=>q.2.2)->(jt (zQ ‹"K"›
  (j6 (eC (.bl false))) jQ)
  (zG 5 (jq 10))) [.sh (.lst (fl.map ji)),.sh (.lst ((jg fl).map ju)),.sh (.lst (P.map jm)),mv,.sh (.lst ((j1 fl).map jm)),.ow l,.sh (jP (i,some o,t)),.sh (.int (t:Int)),.sh (.int (i:Int)),.sh (.int (o:Int)),.sh (.int (t:Int))] =
  .next ‹"a1"›:=fun l hl=>by
  subst hl;have la:jM (.lst (nI (off::pre.map fun q=>q.2.2))) (.int (-1))=some (.int (o:Int)):=by unfold nI;rw [jfF (l:=off::pre.map fun q=>q.2.2) (by simp),jkl,he]
  refine (qf (qH (Zc (jL (jn (jn rfl rfl la) rfl (ji6 rfl))) (jL (jn rfl rfl (jlg hn)))))).trans ?_;have ll:Q7 off (pre++[(i,some o,t)])=nI (off::pre.map fun q=>q.2.2)++[D.int (t:Int)]:=by unfold Q7 nI;rw [if_neg (by simp)];simp
  rw [ll];exact jfU (ρ:=[.sh ‹"d"›,.sh ‹"i"›,.sh ‹"j"›,mv,.sh ‹"r"›,.ow (nI (off::pre.map fun q=>q.2.2)),.sh (jP (i,some o,t)),.sh (.int (t:Int)),.sh (.int (i:Int)),.sh (.int (o:Int)),.sh (.int (t:Int))]) (i:=5) (fa:=jq 10) (ds:=nI (off::pre.map fun q=>q.2.2)) (d:=D.int (t:Int)) rfl rfl (by unfold nI;simp;omega)
 cases pre with
 | nil=>refine (qf ((ZS (jL (jn rfl rfl je0))).trans (jfU (ds:=Q7 off []) rfl rfl (by unfold Q7;rw [if_pos rfl];decide)))).trans (go [D.int (o:Int)] ?_);have:off=o:=he;rw [this];rfl
 | cons q pre=>exact (qf (qH (jL (jn rfl rfl je0)))).trans (go _ rfl)
theorem jeQ {fl:List Ship} (hfl:∀s∈fl,s.Ok) (tK:fl.length<=8) {P:List (List Int)} (hP:PlanOk fl P) {p:List ‹"k"›} {ks:List Nat} {j s off:Nat} {row col:Nat->Int} (ok:PathOk (j1 fl) P fl.length (jg fl).length ks j s p row col) (lk:jgT off p) (hn:p≠[]) (hp:p.length<2000) :
 JG [.lst (fl.map ji),.lst ‹"a5"›,.lst (P.map jm),.lst (p.map jP)]=some (.bl true):=by
 have hsl:(jg fl).length<40:=zC (by omega);obtain ⟨sP,_,_⟩:=jao hP;refine Jd (m:=zN) (ρ:=[.sh ‹"d"›,.sh ‹"i"›,.sh ‹"j"›,.sh ‹"O"›,.un,.un,.un,.un,.un,.un,.un]) rfl rfl fun C fin=>?_;unfold zN;have em:(p.map jP).isEmpty=false:=by cases p with | nil=>exact absurd rfl hn | cons _ _=>rfl
 refine jF _ (qH (Zc (QW (b:=true) (jL rfl)) (jL (jn rfl rfl (by rw [je0,em]))))) ?_;refine jF [.sh ‹"d"›,.sh ‹"i"›,.sh ‹"j"›,.sh ‹"O"›,.sh ‹"r"›,.un,.un,.un,.un,.un,.un] (ze (jx rfl (jdu hfl (by omega)))) ?_;refine jF [.sh ‹"d"›,.sh ‹"i"›,.sh ‹"j"›,.sh ‹"O"›,.sh ‹"r"›,.ow [],.un,.un,.un,.un,.un] rfl ?_;refine jjn jP p (fun pre ρ=>∃z6 z7 z8 z9 z10:Slot,ρ=[.sh ‹"d"›,.sh ‹"i"›,.sh ‹"j"›,.sh ‹"O"›,.sh ‹"r"›,.ow (Q7 off pre),z6,z7,z8,z9,z10]) (qF rfl) ⟨_,_,_,_,_,rfl⟩ ?_ ?_
 . rintro pre q post ρ e ⟨z6,z7,z8,z9,z10,rfl⟩;obtain ⟨i,oo,t⟩:=q;have l:=lk pre _ post e;have hq:(i,oo,t)∈p:=by rw [e];exact YI _ Yf
   have k:=ok.ok _ hq;have eo:oo=some (jdv off pre):=l.1;subst eo;have hpl:pre.length<2000:=by have:=congrArg List.length e;rw [YU] at this;omega
   exact ⟨_,_,rfl,jeo tK hsl sP k.1 (k.2.2.1 _ rfl) k.2.1 (k.2.2.2.2 _ rfl) k.2.2.2.1 rfl l.2 hpl _ _ _ _ _,_,_,_,_,_,rfl⟩
 . rintro ρ ⟨z6,z7,z8,z9,z10,rfl⟩;exact Qp (JX rfl) fin
theorem jfD {fl:List Ship} {P Q:List (List Int)} {s off:Nat} (hs:s<(jg fl).length) (ho:off<(jg fl).length) (col:∀t,t<(jg fl).length->qt Q t=qt P t+ind (s=t)-ind (off=t)) (ne:s≠off) (k:Int):J0 fl Q k=J0 fl P k+((if k*zp fl s<=qt P s then 1 else 0)-(if k*zp fl off<qt P off then 1 else 0)):=by
 unfold J0;have pt:∀t,t<(jg fl).length->jcX (qt Q t-k*zp fl t)=jcX (qt P t-k*zp fl t)+‹"ah"›:=fun t ht=>by
  rw [col t ht];by_cases c:s=t
  . subst c;rw [JB rfl,zi (show ¬off=s by omega),if_pos rfl,if_neg (show ¬off=s by omega)];generalize k*zp fl s=x;unfold jcX;split <;> split <;> split <;> omega
  . by_cases d:off=t
    . subst d;rw [JB rfl,zi c,if_neg c,if_pos rfl];generalize k*zp fl off=x;unfold jcX;split <;> split <;> split <;> omega
    . rw [zi c,zi d,if_neg c,if_neg d,show qt P t+0-0=qt P t by omega];omega
 rw [qq pt,Jz,Za,zu,zu,if_pos hs,if_pos ho]
theorem ji4 {fl:List Ship} (hfl:∀s∈fl,s.Ok) {P Q:List (List Int)} {s off:Nat} (hs:s<(jg fl).length) (ho:off<(jg fl).length) (col:∀t,t<(jg fl).length->qt Q t=qt P t+ind (s=t)-ind (off=t)) (ne:s≠off) {k:Int} (k1:jY fl P s+1<=k) (k2:k<=qi fl P off-1):J0 fl Q k=J0 fl P k-1:=by have ls:=(qP hfl hs).1;have lo:=(qP hfl ho).1;have a:=(jb9 (T:=qt P s) ls).2;have b:=(ZD (T:=qt P off) lo).2;have c:=YM k1 (Y4 ls);have d:=YM k2 (Y4 lo);unfold jY at c;unfold qi at d;rw [jfD hs ho col ne,if_neg (by omega),if_pos (by omega)];omega
theorem jhi {fl:List Ship} (hfl:∀s∈fl,s.Ok) {P Q:List (List Int)} (hP:PlanOk fl P) {s off:Nat} (hs:s<(jg fl).length) (ho:off<(jg fl).length) (col:∀t,t<(jg fl).length->qt Q t=qt P t+ind (s=t)-ind (off=t)) (ne:s≠off) (g:2<=qi fl P off-jY fl P s):J0 fl Q 0=J0 fl P 0:=by have ls:=(qP hfl hs).1;have lo:=(qP hfl ho).1;have b:=(ZD (T:=qt P off) lo).2;have p0:=jln hP hs;have l0:0<=jY fl P s:=Int.ediv_nonneg p0 (Y4 ls);have d:=yz (show 0<=qi fl P off-1 by omega) (Y4 lo);unfold qi at d;rw [jfD hs ho col ne,Int.zero_mul,Int.zero_mul,if_pos p0,if_pos (by omega)];omega
theorem jfL {fl:List Ship} (hfl:∀s∈fl,s.Ok) {P:List (List Int)} {j:Nat} (hj:j<(jg fl).length):Qj [.lst ‹"a5"›,.lst ((qL P (jg fl).length).map D.int),.int (j:Int)]=some (.int (jY fl P j)):=by have hl:=qP hfl hj;refine Jd (m:=Jx) (ρ:=[.sh ‹"i"›,.sh ‹"e"›,.sh (.int (j:Int))]) rfl rfl fun C fin=>?_;unfold Jx;exact Qp (JX (jn (jn rfl rfl (jhA hj)) ‹"5"› (j9 hl.1 (K2 hl.2 (by decide))))) fin
theorem ji2 {fl:List Ship} (hfl:∀s∈fl,s.Ok) {P:List (List Int)} {j:Nat} (hj:j<(jg fl).length):Zi [.lst ‹"a5"›,.lst ((qL P (jg fl).length).map D.int),.int (j:Int)]=some (.int (qi fl P j)):=by have hl:=qP hfl hj;refine Jd (m:=Qd) (ρ:=[.sh ‹"i"›,.sh ‹"e"›,.sh (.int (j:Int)),.un]) rfl rfl fun C fin=>?_;unfold Qd;refine jF [.sh ‹"i"›,.sh ‹"e"›,.sh (.int (j:Int)),.sh (.int (zp fl j))] (qx ‹"5"›) ?_;exact Qp (JX (jn (jn (jn (jn rfl rfl (jhA hj)) rfl jI) rfl jV) rfl (j9 hl.1 (K2 hl.2 (by decide))))) fin
theorem jjc {p:List ‹"k"›} (h:p≠[]) (off:Nat):jM ‹"O"› (.int (-1))=some (jP (p.getLast h))/\(p.getLast h).2.2=jdv off p:=by
 refine ⟨jfF h,?_⟩;have e:=List.dropLast_concat_getLast h
 conv=>rhs;rw [<-e]
 rw [ja1]
theorem jrr {L:List Int} {x y:Int} (h:L.length<1000):jbU ‹"ad"› (.lst [.int x,.int y])=some ((L++[x,y]).map D.int):=by show (if (L.map D.int).length+2<=sizeLine then some (L.map D.int++[.int x,.int y]) else none)=_;rw [if_pos (by rw [Yc,PySem.sizeLine_eq];omega),YO];rfl
theorem jjR (ns:List Int) (hns:ns.length<=63):jmL [.scr ns]=some (.bl true):=by
 have ec0:=jbe ns 0 (by omega);have ec1:=jbe ns 1 (by omega);have ec2:=jbe ns 2 (by omega);obtain ⟨cs,ecs,hcs⟩:=jkA ns (some 12) (some 63);have ecat:=jrB (cs:=cs) (by omega);obtain ⟨fl0,hfl0,hlen0,efl0⟩:=jmm ns 3 (by omega);obtain ⟨P0,hP0,epl0⟩:=jiL fl0 hfl0 (by omega) (cs++[0]) (by simp) (by rw [YU];simp;omega);refine Jd (m:=jht) (ρ:=[.sh (.scr ns),.un,.un,.un,.un,.un,.un,.un,.un,.un,.un,.un,.un]) rfl rfl fun C fin=>?_;unfold jht;refine jF [.sh (.scr ns),.sh (.lst (fl0.map ji)),.un,.un,.un,.un,.un,.un,.un,.un,.un,.un,.un] (ze (jx rfl efl0)) ?_;refine jF ‹"aw"› (ze (jx (jy rfl (jy (Je (jn (Je (show eSl (ja 0) (pSo (eC (.int 12))) (pSo (eC (.int 63))) _=some (cs.map D.int) by show some (L2.jew (ns.map D.int) (some 12) (some 63))=_;rw [ecs])) rfl ecat)) rfl)) epl0)) ?_;obtain ⟨fl,P,tK,hfl,hP,est⟩:∃(fl:List Ship) (P:List (List Int)),fl.length<=8/\(∀s∈fl,s.Ok)/\PlanOk fl P/\zQ ‹"aS"›
  (jdB (Qa 2 (jZ (jz 1) (jZ (jz 2) Qi))) (jh zI (jc (jl zy (jh jT (jc (jq 0) (jc (eC (.int 2)) jj))) (eC (.int 3))) jj))) jQ ‹"aw"›=.next [.sh (.scr ns),.sh ‹"d"›,.sh ‹"j"›,.un,.un,.un,.un,.un,.un,.un,.un,.un,.un]:=by
  by_cases q:cell ns 2%3=1
  . obtain ⟨d,⟨fl,P,rfl,h1,h2,h3⟩,es⟩:=jfu (cell ns 2/3);refine ⟨fl,P,h1,h2,h3,(ZS (jL (jn (jn (jx rfl ec2) rfl (jK (by decide))) rfl (jf0 q)))).trans ?_⟩;unfold jdB;rw [jx (jy (jn (jx rfl ec2) rfl (j9 (by decide) (by decide))) rfl) es];rfl
  . exact ⟨fl0,P0,by omega,hfl0,hP0,qH (jL (jn (jn (jx rfl ec2) rfl (jK (by decide))) rfl (jbr q)))⟩
 refine jF _ est ?_;have epa:=jcP fl (by omega);have hPl:=hP.len;have hsl:(jg fl).length<40:=zC (by omega);refine jF [.sh (.scr ns),.sh ‹"d"›,.sh ‹"j"›,.sh ‹"i"›,.un,.un,.un,.un,.un,.un,.un,.un,.un] (ze (jx rfl epa)) ?_;obtain ⟨d,hd,ed⟩:=jgD hfl (by omega) hP;refine jF [.sh (.scr ns),.sh ‹"d"›,.sh ‹"j"›,.sh ‹"i"›,.sh d,.un,.un,.un,.un,.un,.un,.un,.un] (qx (jx (jy (Je (jx rfl rfl)) (jy (Je (jd1 (by omega) rfl)) rfl)) ed)) ?_;rcases hd with ⟨rfl,no⟩ | ⟨p,ks,j,s,off,rfl,ho,hs,g,ok,lk,hend,plen⟩
 . exact jmK ((ZS (jL rfl)).trans (JX rfl)) fin
 have ne:=jjX hfl hs g;have pn:p≠[]:=fun z=>by subst z;exact ne hend.symm
 have eic:=jeQ hfl tK hP ok lk pn (by omega);obtain ⟨Q,em,hQ,col⟩:=jg8 hfl tK hP ok;have etot:=jbo (S:=jg fl) (by omega) hP.rows (by omega);have elow:=jfL hfl (P:=P) hs;have ehigh:=ji2 hfl (P:=P) ho;obtain ⟨l1,l2⟩:=jjc pn off;rw [hend] at l2;obtain ⟨q0,p',hp0⟩:∃q p',p=q::p':=by cases p with | nil=>exact absurd rfl pn | cons q p'=>exact ⟨q,p',rfl⟩
 have hq0:q0.2.1=some off:=(lk [] q0 p' hp0).1;refine jF _ (qH (jL rfl)) ?_;refine jF _ (qH (QW (b:=true) (jL (jx rfl eic)))) ?_;refine jF [.sh (.scr ns),.sh ‹"d"›,.sh ‹"j"›,.sh ‹"i"›,.sh ‹"O"›,.sh ‹"e"›,.un,.un,.un,.un,.un,.un,.un] (ze (jx rfl etot)) ?_;refine jF [.sh (.scr ns),.sh ‹"d"›,.sh ‹"j"›,.sh ‹"i"›,.sh ‹"O"›,.sh ‹"e"›,.sh (.int (jY fl P s)),.un,.un,.un,.un,.un,.un] (qx (jx (jy rfl (jy rfl (jy (jn (jn rfl rfl l1) rfl (by unfold jP;rw [l2];exact ja6)) rfl))) elow)) ?_;have f1:jM ‹"O"› (.int 0)=some (jP q0):=by rw [hp0];exact je4
 refine jF [.sh (.scr ns),.sh ‹"d"›,.sh ‹"j"›,.sh ‹"i"›,.sh ‹"O"›,.sh ‹"e"›,.sh (.int (jY fl P s)),.sh (.int (qi fl P off)),.un,.un,.un,.un,.un] (qx (jx (jy rfl (jy rfl (jy (jn (jn rfl rfl f1) rfl (by unfold jP;rw [hq0];exact zR)) rfl))) ehigh)) ?_;refine jF _ (qH (jL (jn rfl (jn rfl rfl jI) (jkm (by omega))))) ?_;refine jF [.sh (.scr ns),.sh ‹"d"›,.sh ‹"j"›,.sh ‹"i"›,.sh ‹"O"›,.sh ‹"e"›,.sh (.int (jY fl P s)),.sh (.int (qi fl P off)),.sh (.lst (Q.map jm)),.un,.un,.un,.un] (qx (jx (jy (Je (jx (f:=J4) rfl rfl)) (jy (Je (jd1 (by omega) rfl)) (jy (Je (jx (f:=J4) rfl rfl)) rfl))) em)) ?_;refine jF [.sh (.scr ns),.sh ‹"d"›,.sh ‹"j"›,.sh ‹"i"›,.sh ‹"O"›,.sh ‹"e"›,.sh (.int (jY fl P s)),.sh (.int (qi fl P off)),.sh (.lst (Q.map jm)),.sh (.lst ([0,cell ns 0%10000000000000000].map D.int)),.un,.un,.un] (ze (jfk (jy rfl (jy (jn (jx rfl ec0) (jn rfl rfl jgG) (jK (by decide))) rfl)) (show 2<16777216 by decide))) ?_;have el:qj [.lst ‹"a5"›]=some (.int ((jg fl).length:Int)):=by show some (D.int (‹"a5"›.length:Int))=_;rw [Yc]
 have hQl:=hQ.len;have eP:=fun k=>jbM hfl tK hP.rows (by omega) k;have eQ:=fun k=>jbM hfl tK hQ.rows (by omega) k;refine jg3 (fun j:Nat=>D.int (j:Int)) (jg fl).length (fun j ρ=>∃(L:List Int) (z10 z11:Slot),L.length<=2+2*j/\ρ=[.sh (.scr ns),.sh ‹"d"›,.sh ‹"j"›,.sh ‹"i"›,.sh ‹"O"›,.sh ‹"e"›,.sh (.int (jY fl P s)),.sh (.int (qi fl P off)),.sh (.lst (Q.map jm)),.sh ‹"ad"›,z10,z11,.un])
  (by rw [Jk (j:=((jg fl).length:Int)) (jy (jx rfl el) rfl) (by omega) (by omega),Yp,jbb]) ⟨_,_,_,by simp,rfl⟩ ?_ ?_
 . rintro j ρ hj ⟨L,z10,z11,hL,rfl⟩;have hl:=qP hfl hj;refine ⟨_,_,rfl,(qf (qx (jn (jn rfl rfl (jhA hj)) ‹"5"› (j9 hl.1 (K2 hl.2 (by decide)))))).trans (ze (jn rfl (Je (jfk (l:=[.int (jY fl P j),.int (jY fl P j+1)]) (jy rfl (jy (jn rfl rfl jI) rfl)) (show 2<16777216 by decide))) (jrr (by omega)))),L++[jY fl P j,jY fl P j+1],_,_,by simp;omega,rfl⟩
 . rintro ρ ⟨L,z10,z11,hL,rfl⟩;refine jjn D.int L (fun _ ρ=>∃z12:Slot,ρ=[.sh (.scr ns),.sh ‹"d"›,.sh ‹"j"›,.sh ‹"i"›,.sh ‹"O"›,.sh ‹"e"›,.sh (.int (jY fl P s)),.sh (.int (qi fl P off)),.sh (.lst (Q.map jm)),.sh ‹"ad"›,z10,z11,z12]) (qF rfl) ⟨_,rfl⟩ ?_ ?_
   . rintro pre k post ρ _ ⟨z12,rfl⟩;exact ⟨_,_,rfl,qH (jL (jn (jx rfl (eQ k)) (jx rfl (eP k)) (jqs (jfT hfl hs ho col g ne k)))),_,rfl⟩
   . rintro ρ ⟨z12,rfl⟩;refine jF _ (qH (jL (jn (jx rfl (eQ 0)) (jx rfl (eP 0)) (ji6 (jhi hfl hP hs ho col ne g))))) ?_;have m0:=yF (cell ns 1) (show qi fl P off-jY fl P s-1≠0 by omega);have m1:=yq (cell ns 1) (show 0<qi fl P off-jY fl P s-1 by omega);refine jF [.sh (.scr ns),.sh ‹"d"›,.sh ‹"j"›,.sh ‹"i"›,.sh ‹"O"›,.sh ‹"e"›,.sh (.int (jY fl P s)),.sh (.int (qi fl P off)),.sh (.lst (Q.map jm)),.sh ‹"ad"›,z10,z11,.sh (.int (jY fl P s+1+cell ns 1%(qi fl P off-jY fl P s-1)))] (qx (jn (jn rfl rfl jI) (jn (jx rfl ec1) (jn (jn rfl rfl jV) rfl jV) (jK (by omega))) jI)) ?_;exact Qp (JX (jn (jx rfl (eQ _)) (jn (jx rfl (eP _)) rfl jV) (jf0 (ji4 hfl hs ho col ne (by omega) (by omega))))) fin
end Q
section
namespace Q
open PySem PySem.Spec PyProof.Rows L2
def top (i:Nat):Stmt:=PySem.Challenge.pw_evenquay_k52_whole_a_chain_evens.main.body.getD i (.Pass ⟨0,0,0,0⟩)
abbrev qY:Stmt:=top 36
abbrev zY:Stmt:=top 37
abbrev zA:Stmt:=top 38
abbrev j3:Stmt:=top 39
abbrev zB:Stmt:=top 40
abbrev zU:Stmt:=top 41
abbrev Js:Stmt:=top 11
abbrev zZ:Stmt:=top 12
abbrev zr:Stmt:=top 13
abbrev qO:Stmt:=top 14
abbrev zK:Stmt:=top 15
abbrev zW:Stmt:=top 16
abbrev Qs:Stmt:=top 17
abbrev jaY:Stmt:=top 18
abbrev qU:Stmt:=top 23
abbrev Ja:Stmt:=top 22
abbrev qX:Stmt:=top 24
abbrev qT:Stmt:=top 19
abbrev qS:Stmt:=top 20
abbrev Qe:Stmt:=top 25
abbrev ZG:Stmt:=top 28
abbrev ZH:Stmt:=top 29
abbrev Qo:Stmt:=top 30
abbrev zm:Stmt:=top 33
abbrev qh:Stmt:=top 42
abbrev zj:Stmt:=top 46
abbrev zX:Stmt:=top 45
abbrev Jy:Stmt:=top 31
abbrev ZF:Stmt:=top 34
abbrev jW:Stmt:=top 48
abbrev qk:Stmt:=top 44
abbrev qN:Stmt:=top 47
abbrev zD:Stmt:=top 43
abbrev ZX:Stmt:=top 49
theorem ar1 {α:Type} {P:List α->Prop} (h:∀v0:α,P [v0]):∀us:List α,us.length=1->P us
 | [v0],_=>h v0
theorem ar2 {α:Type} {P:List α->Prop} (h:∀v0 v1:α,P [v0,v1]):∀us:List α,us.length=2->P us
 | [v0,v1],_=>h v0 v1
theorem ar3 {α:Type} {P:List α->Prop} (h:∀v0 v1 v2:α,P [v0,v1,v2]):∀us:List α,us.length=3->P us
 | [v0,v1,v2],_=>h v0 v1 v2
theorem ar4 {α:Type} {P:List α->Prop} (h:∀v0 v1 v2 v3:α,P [v0,v1,v2,v3]):∀us:List α,us.length=4->P us
 | [v0,v1,v2,v3],_=>h v0 v1 v2 v3
set_option genSizeOf false
set_option genInjectivity false
structure Adr where
 ue:Addr
 ud:FuncData
 uT:Addr
 uR:FuncData
 uF:Addr
 uC:FuncData
 uE:Addr
 uB:FuncData
 uD:Addr
 ux:FuncData
 uO:Addr
 uU:FuncData
 vb:Addr
 u9:FuncData
 vv:Addr
 vw:FuncData
 ve:Addr
 va:FuncData
 tZ:Addr
 t7:FuncData
 vW:Addr
 vJ:FuncData
 uM:Addr
 uK:FuncData
 vN:Addr
 vX:FuncData
 ra:Addr
 w6:FuncData
 vc:Addr
 vd:FuncData
 vt:Addr
 vp:FuncData
 uf:Addr
 uc:FuncData
 u7:Addr
 u6:FuncData
 uA:Addr
 uz:FuncData
 wj:Addr
 wA:FuncData
 wk:Addr
 wt:FuncData
 wg:Addr
 wu:FuncData
 vK:Addr
 vS:FuncData
 wo:Addr
 wy:FuncData
 uj:Addr
 uo:FuncData
 uk:Addr
 ui:FuncData
 uN:Addr
 uW:FuncData
 vU:Addr
 vP:FuncData
 wx:Addr
 we:FuncData
 um:Addr
 ur:FuncData
 ua:Addr
 t9:FuncData
 t8:Addr
 ub:FuncData
 uG:Addr
 uw:FuncData
 rj:Addr
 rl:FuncData
 t_NEED:Tok
 t_MOST:Tok
 t_END:Tok
 t_BEGIN:Tok
 t_TO:Tok
 t_FROM:Tok
 t_OFF:Tok
structure Txt (K:PySem.W.Frag) (mg:Str->Option Value) (A:Adr):Prop where
 tJ:Fun K "_law_cell_at" "_law_cell_at" qY A.ue A.ud
 tL:Binds K A.ud ["script","k"] []
 tM:mg "_law_cell_at"=some (.ref A.ue)
 vx:Fun K "_law_ship" "_law_ship" zY A.uT A.uR
 wK:Binds K A.uR ["one","two","kind"] []
 wN:mg "_law_ship"=some (.ref A.uT)
 vm:Fun K "_law_fleet" "_law_fleet" zA A.uF A.uC
 wc:Binds K A.uC ["script","start"] []
 wm:mg "_law_fleet"=some (.ref A.uF)
 uy:Fun K "_law_parts" "_law_parts" j3 A.uE A.uB
 vk:Binds K A.uB ["fleet"] []
 vh:mg "_law_parts"=some (.ref A.uE)
 uv:Fun K "_law_rooms" "_law_rooms" zB A.uD A.ux
 vg:Binds K A.ux ["ship","parts"] []
 vn:mg "_law_rooms"=some (.ref A.uD)
 vA:Fun K "_law_plan" "_law_plan" zU A.uO A.uU
 wH:Binds K A.uU ["fleet","cells"] []
 wR:mg "_law_plan"=some (.ref A.uO)
 u5:Fun K "is_whole" "is_whole" Js A.vb A.u9
 vR:Binds K A.u9 ["thing"] []
 vO:mg "is_whole"=some (.ref A.vb)
 wa:Fun K "is_ship" "is_ship" zZ A.vv A.vw
 rA:Binds K A.vw ["thing"] []
 rB:mg "is_ship"=some (.ref A.vv)
 vL:Fun K "is_fleet" "is_fleet" zr A.ve A.va
 rb:Binds K A.va ["thing"] []
 wY:mg "is_fleet"=some (.ref A.ve)
 uI:Fun K "must_be_fleet" "must_be_fleet" qO A.tZ A.t7
 vB:Binds K A.t7 ["thing"] []
 vC:mg "must_be_fleet"=some (.ref A.tZ)
 wI:Fun K "bounds" "bounds" zK A.vW A.vJ
 rM:Binds K A.vJ ["fleet"] []
 rQ:mg "bounds"=some (.ref A.vW)
 uh:Fun K "stretches" "stretches" zW A.uM A.uK
 uL:Binds K A.uK ["fleet"] []
 uP:mg "stretches"=some (.ref A.uM)
 vQ:Fun K "length" "length" Qs A.vN A.vX
 wO:Binds K A.vX ["stretch"] []
 wB:mg "length"=some (.ref A.vN)
 wX:Fun K "room" "room" jaY A.ra A.w6
 rP:Binds K A.w6 ["ship","stretch"] []
 rG:mg "room"=some (.ref A.ra)
 vM:Fun K "is_share" "is_share" qU A.vc A.vd
 wZ:Binds K A.vd ["ship","spans","thing"] []
 wW:mg "is_share"=some (.ref A.vc)
 v9:Fun K "is_plan" "is_plan" Ja A.vt A.vp
 rz:Binds K A.vp ["fleet","thing"] []
 rq:mg "is_plan"=some (.ref A.vt)
 ug:Fun K "must_be_plan" "must_be_plan" qX A.uf A.uc
 uQ:Binds K A.uc ["fleet","thing"] []
 uV:mg "must_be_plan"=some (.ref A.uf)
 vY:Fun K "rooms_of" "rooms_of" qT A.u7 A.u6
 w5:Binds K A.u6 ["fleet"] []
 wU:mg "rooms_of"=some (.ref A.u7)
 vj:Fun K "lengths_of" "lengths_of" qS A.uA A.uz
 wq:Binds K A.uz ["fleet"] []
 wz:mg "lengths_of"=some (.ref A.uA)
 rh:Fun K "total" "total" Qe A.wj A.wA
 rV:Binds K A.wA ["plan","place"] []
 rY:mg "total"=some (.ref A.wj)
 rn:Fun K "mover" "mover" ZG A.wk A.wt
 rZ:Binds K A.wt ["rooms","part","off","on"] []
 sd:mg "mover"=some (.ref A.wk)
 rp:Fun K "reach" "reach" ZH A.wg A.wu
 rS:Binds K A.wu ["rooms","part","begun"] []
 rX:mg "reach"=some (.ref A.wg)
 wF:Fun K "way_to" "way_to" Qo A.vK A.vS
 rD:Binds K A.vS ["moves","end"] []
 rO:mg "way_to"=some (.ref A.vK)
 rg:Fun K "chain" "chain" zm A.wo A.wy
 rT:Binds K A.wy ["fleet","plan"] []
 sf:mg "chain"=some (.ref A.wo)
 uq:Fun K "_law_totals" "_law_totals" qh A.uj A.uo
 u3:Binds K A.uo ["parts","plan"] []
 uY:mg "_law_totals"=some (.ref A.uj)
 uZ:Fun K "_law_fewest" "_law_fewest" zj A.uk A.ui
 v8:Binds K A.ui ["parts","told","s"] []
 vZ:mg "_law_fewest"=some (.ref A.uk)
 vy:Fun K "_law_most" "_law_most" zX A.uN A.uW
 wD:Binds K A.uW ["parts","told","s"] []
 wL:mg "_law_most"=some (.ref A.uN)
 wM:Fun K "behind" "behind" Jy A.vU A.vP
 rL:Binds K A.vP ["part","way","many"] []
 rN:mg "behind"=some (.ref A.vU)
 rm:Fun K "moved" "moved" ZF A.wx A.we
 rW:Binds K A.we ["fleet","plan","moves"] []
 r8:mg "moved"=some (.ref A.wx)
 u4:Fun K "_law_stairs" "_law_stairs" jW A.um A.ur
 v7:Binds K A.ur ["cell"] []
 v5:mg "_law_stairs"=some (.ref A.um)
 uJ:Fun K "_law_rooms_of" "_law_rooms_of" qk A.ua A.t9
 vD:Binds K A.t9 ["fleet","parts"] []
 vF:mg "_law_rooms_of"=some (.ref A.ua)
 uH:Fun K "_law_is_chain" "_law_is_chain" qN A.t8 A.ub
 vG:Binds K A.ub ["fleet","parts","plan","moves"] []
 vE:mg "_law_is_chain"=some (.ref A.t8)
 tO:Fun K "_law_above" "_law_above" zD A.uG A.uw
 tQ:Binds K A.uw ["parts","plan","k"] []
 tR:mg "_law_above"=some (.ref A.uG)
 sk:Fun K "law" "law" ZX A.rj A.rl
 sx:Binds K A.rl ["script"] []
 sv:mg "law"=some (.ref A.rj)
 rH:mg "NEED"=some (.int 2 A.t_NEED)
 wV:mg "MOST"=some (.int 3 A.t_MOST)
 rE:mg "END"=some (.int 1 A.t_END)
 wb:mg "BEGIN"=some (.int 0 A.t_BEGIN)
 sj:mg "TO"=some (.int 1 A.t_TO)
 rJ:mg "FROM"=some (.int 0 A.t_FROM)
 sr:mg "OFF"=some (.int 1 A.t_OFF)
 tw:mg "len"=none
 rK:mg "min"=none
 tS:mg "range"=none
 wQ:mg "sorted"=none
 tI:mg "isinstance"=none
 rF:mg "bool"=none
 wC:mg "int"=none
 uS:mg "all"=none
 rf:mg "tuple"=none
 tN:mg "list"=none
 su:mg "set"=none
 wG:mg "zip"=none
 vo:mg "sum"=none
 wJ:mg "enumerate"=none
 si:mg "dict"=none
 vH:mg "reversed"=none
 sq:mg "max"=none
theorem jbW:FnScope ["script","k"] ["script","k"] (jd qY):=⟨rfl,rfl,rfl,by decide +kernel,rfl,by decide +kernel,by decide +kernel⟩
theorem tH:FnScope ["one","two","kind","begin","end","most","mixed","full","need"] ["one","two","kind"] (jd zY):=⟨rfl,rfl,rfl,by decide +kernel,rfl,by decide +kernel,by decide +kernel⟩
theorem tU:FnScope ["script","start","cell","fleet","k","one"] ["script","start"] (jd zA):=⟨rfl,rfl,rfl,by decide +kernel,rfl,by decide +kernel,by decide +kernel⟩
theorem u0:FnScope ["fleet","hours"] ["fleet"] (jd j3):=⟨rfl,rfl,rfl,by decide +kernel,rfl,by decide +kernel,by decide +kernel⟩
theorem tX:FnScope ["ship","parts","found","begin","end"] ["ship","parts"] (jd zB):=⟨rfl,rfl,rfl,by decide +kernel,rfl,by decide +kernel,by decide +kernel⟩
theorem tD:FnScope ["fleet","cells","parts","plan","i","most","left","row","s","cell","some","at","more"] ["fleet","cells"] (jd zU):=⟨rfl,rfl,rfl,by decide +kernel,rfl,by decide +kernel,by decide +kernel⟩
theorem jfE:FnScope ["thing"] ["thing"] (jd Js):=⟨rfl,rfl,rfl,by decide +kernel,rfl,by decide +kernel,by decide +kernel⟩
theorem vI:FnScope ["thing","hours"] ["thing"] (jd zZ):=⟨rfl,rfl,rfl,by decide +kernel,rfl,by decide +kernel,by decide +kernel⟩
theorem jgn:FnScope ["thing"] ["thing"] (jd zr):=⟨rfl,rfl,rfl,by decide +kernel,rfl,by decide +kernel,by decide +kernel⟩
theorem jaZ:FnScope ["thing"] ["thing"] (jd qO):=⟨rfl,rfl,rfl,by decide +kernel,rfl,by decide +kernel,by decide +kernel⟩
theorem vq:FnScope ["fleet","begins","ends"] ["fleet"] (jd zK):=⟨rfl,rfl,rfl,by decide +kernel,rfl,by decide +kernel,by decide +kernel⟩
theorem vf:FnScope ["fleet","rising"] ["fleet"] (jd zW):=⟨rfl,rfl,rfl,by decide +kernel,rfl,by decide +kernel,by decide +kernel⟩
theorem jir:FnScope ["stretch"] ["stretch"] (jd Qs):=⟨rfl,rfl,rfl,by decide +kernel,rfl,by decide +kernel,by decide +kernel⟩
theorem jl5:FnScope ["ship","stretch"] ["ship","stretch"] (jd jaY):=⟨rfl,rfl,rfl,by decide +kernel,rfl,by decide +kernel,by decide +kernel⟩
theorem jfQ:FnScope ["ship","spans","thing"] ["ship","spans","thing"] (jd qU):=⟨rfl,rfl,rfl,by decide +kernel,rfl,by decide +kernel,by decide +kernel⟩
theorem vT:FnScope ["fleet","thing","spans"] ["fleet","thing"] (jd Ja):=⟨rfl,rfl,rfl,by decide +kernel,rfl,by decide +kernel,by decide +kernel⟩
theorem jbX:FnScope ["fleet","thing"] ["fleet","thing"] (jd qX):=⟨rfl,rfl,rfl,by decide +kernel,rfl,by decide +kernel,by decide +kernel⟩
theorem vz:FnScope ["fleet","spans"] ["fleet"] (jd qT):=⟨rfl,rfl,rfl,by decide +kernel,rfl,by decide +kernel,by decide +kernel⟩
theorem jdq:FnScope ["fleet"] ["fleet"] (jd qS):=⟨rfl,rfl,rfl,by decide +kernel,rfl,by decide +kernel,by decide +kernel⟩
theorem jjx:FnScope ["plan","place"] ["plan","place"] (jd Qe):=⟨rfl,rfl,rfl,by decide +kernel,rfl,by decide +kernel,by decide +kernel⟩
theorem vV:FnScope ["rooms","part","off","on","ship","share"] ["rooms","part","off","on"] (jd ZG):=⟨rfl,rfl,rfl,by decide +kernel,rfl,by decide +kernel,by decide +kernel⟩
theorem tY:FnScope ["rooms","part","begun","moves","waiting","turn","off","on","ship"] ["rooms","part","begun"] (jd ZH):=⟨rfl,rfl,rfl,by decide +kernel,rfl,by decide +kernel,by decide +kernel⟩
theorem uX:FnScope ["moves","end","way","move"] ["moves","end"] (jd Qo):=⟨rfl,rfl,rfl,by decide +kernel,rfl,by decide +kernel,by decide +kernel⟩
theorem tV:FnScope ["fleet","plan","rooms","hours","totals","least","greatest","off","moves","ends"] ["fleet","plan"] (jd zm):=⟨rfl,rfl,rfl,by decide +kernel,rfl,by decide +kernel,by decide +kernel⟩
theorem jde:FnScope ["parts","plan"] ["parts","plan"] (jd qh):=⟨rfl,rfl,rfl,by decide +kernel,rfl,by decide +kernel,by decide +kernel⟩
theorem jcz:FnScope ["parts","told","s"] ["parts","told","s"] (jd zj):=⟨rfl,rfl,rfl,by decide +kernel,rfl,by decide +kernel,by decide +kernel⟩
theorem vi:FnScope ["parts","told","s","hours"] ["parts","told","s"] (jd zX):=⟨rfl,rfl,rfl,by decide +kernel,rfl,by decide +kernel,by decide +kernel⟩
theorem uu:FnScope ["part","way","many","told","ship","off","on"] ["part","way","many"] (jd Jy):=⟨rfl,rfl,rfl,by decide +kernel,rfl,by decide +kernel,by decide +kernel⟩
theorem jkW:FnScope ["fleet","plan","moves"] ["fleet","plan","moves"] (jd ZF):=⟨rfl,rfl,rfl,by decide +kernel,rfl,by decide +kernel,by decide +kernel⟩
theorem tE:FnScope ["cell","many","level","wide","most","fleet","plan","k","row"] ["cell"] (jd jW):=⟨rfl,rfl,rfl,by decide +kernel,rfl,by decide +kernel,by decide +kernel⟩
theorem jaW:FnScope ["fleet","parts"] ["fleet","parts"] (jd qk):=⟨rfl,rfl,rfl,by decide +kernel,rfl,by decide +kernel,by decide +kernel⟩
theorem tG:FnScope ["fleet","parts","plan","moves","free","line","move","part","number","off","on"] ["fleet","parts","plan","moves"] (jd qN):=⟨rfl,rfl,rfl,by decide +kernel,rfl,by decide +kernel,by decide +kernel⟩
theorem tT:FnScope ["parts","plan","k","found","told","s"] ["parts","plan","k"] (jd zD):=⟨rfl,rfl,rfl,by decide +kernel,rfl,by decide +kernel,by decide +kernel⟩
theorem tP:FnScope ["script","fleet","plan","parts","moves","told","low","high","behind_v","numbers","s","level","k"] ["script"] (jd ZX):=⟨rfl,rfl,rfl,by decide +kernel,rfl,by decide +kernel,by decide +kernel⟩
section
variable {P:Program} {w:World} {K:PySem.W.Frag} {mg:Str->Option Value} {base:Heap} {A:Adr}
theorem qA (T:Txt K mg A):FnOk P w K mg base J6 1 A.ue A.ud ["script","k"] (@spS ⟨K⟩ jT):=
 zt (m:=J3) T.tJ jbW rfl rfl fun cdv Ar outer s H E hr=>
  (jf (qC (qr jgZ (jb 1) ‹"s"›)
   (jo (jR (jO (jb 0) (jb 1)))) jS)
   (jo (jR jk)))
theorem jet (T:Txt K mg A):FnOk P w K mg base J6 1 A.uT A.uR ["one","two","kind"] (@spS ⟨K⟩ Jb):=
 zt (m:=Q4) T.vx tH rfl rfl fun cdv Ar outer s H E hr=>
  (jf ‹"bi"›
   (jf (jD (i:=4) (qB (eg (qB (jb 3) (eg jk))) ‹"ap"›) (fun _=>tH.nd) rfl ‹"a"› ‹"a"›)
   (jf (qC (qr ‹"ar"› (jb 2) (eg jk))
   (jf ‹"bi"›
   (jo (jD (i:=4) (qB (eg (qB (jb 3) (eg jk))) (eg (qM (eg (zV (jb 0) (eg jk))) (eg jk)))) (fun _=>tH.nd) rfl (fun _=>Or.inl rfl) (fun _=>Or.inl rfl)))) jS)
   (jf (qC (qr ‹"ar"› (jb 2) (eg jk))
   (jf (jD (i:=3) (Jf (eg (zd (eg (qM (eg (Jf (jb 0) (eg jk))) (eg jk))) (eg (jd0 (eg jk) (eg jk))))) (eg (jd0 (eg jk) (eg jk)))) (fun _=>tH.nd) rfl ‹"a"› ‹"a"›)
   (jo (jD (i:=4) (qB (eg (qB (jb 3) (eg jk))) (eg (Jf (eg (qM (eg (Jf (jb 0) (eg jk))) (eg jk))) (eg (jd0 (eg jk) (eg jk)))))) (fun _=>tH.nd) rfl (fun _=>Or.inl rfl) (fun _=>Or.inl rfl)))) jS)
   (jf (jD (i:=5) (jO (eg (WO.toE (Jp (je jk (je jk (je jk (je jk (je (jd0 (eg jk) (eg jk)) (je (qB (eg jk) (eg (qM (eg (zV (jb 1) (eg jk))) (eg jk)))) (je jk (je jk jw))))))))))) (eg (qM (jb 1) (eg jk)))) (fun _=>tH.nd) rfl ‹"a"› ‹"a"›)
   (jf (jD (i:=6) (qM (eg (Jf (jb 1) (eg jk))) (eg jk)) (fun _=>tH.nd) rfl ‹"a"› ‹"a"›)
   (jf (jD (i:=7) (Jf (jb 5) (eg (zd (jb 4) (jb 3)))) (fun _=>tH.nd) rfl ‹"a"› ‹"a"›)
   (jf (jD (i:=8) (jO (eg (WO.toE (Jp (je (zV (eg (Jf (jb 7) (eg (qM (jb 6) (eg jk))))) (eg jk)) (je (qM (jb 6) (eg (qB (jb 7) (eg jk)))) (je (zg jk4 (fun _=>rfl) (fun _=>T.rK) boot_min (jr (jb 7) (jr (eg (qM (jb 6) (eg jk))) jA))) (je (js 7) jw))))))) (eg (qM (eg (zV (jb 6) (eg jk))) (eg jk)))) (fun _=>tH.nd) rfl ‹"a"› ‹"a"›)
   (jo (jR (jdP (je (js 3) (je (js 4) (je (js 8) (je (js 5) jw)))))))))))))))
theorem jdy (T:Txt K mg A):FnOk P w K mg base J6 2 A.uF A.uC ["script","start"] (@spO ⟨K⟩ JN):=
 Zh (m:=JL) T.vm tU rfl rfl fun cdv Ar outer s H E hr=>
  (jf (jD (i:=2) (jU (fun _=>qA T) ‹"b"› (fun _=>rfl) (fun _=>T.tM) (fun _=>T.tJ.kp) (fun _=>T.tL) ‹"al"›) (fun _=>tU.nd) rfl ‹"a"› ‹"a"›)
   (jf (JM (i:=3) (Jp jw) (fun _=>tU.nd) rfl ‹"a"› ‹"a"›)
   (jf (zT (zx (fun _=>rfl) (fun _=>T.tS) (jr (eg (jO (eg (WO.toE (Jp (je jk (je jk (je jk (je jk (je jk (je jk (je jk (je jk jw))))))))))) (eg (qM (jb 2) (eg jk))))) jA)) (qd (i:=4) (fun _=>tU.nd) rfl ‹"a"› ‹"a"›)
   (jf (jD (i:=5) (jU (fun _=>qA T) ‹"b"› (fun _=>rfl) (fun _=>T.tM) (fun _=>T.tJ.kp) (fun _=>T.tL) (je (js 0) (je (qB (eg (qB (jb 1) (eg jk))) (eg (Jf (eg jk) (jb 4)))) jw))) (fun _=>tU.nd) rfl ‹"a"› ‹"a"›)
   (jo (JZ (i:=3) rfl (fun _=>Or.inl rfl) (jU (fun _=>jet T) (fun _=>hr.mono (by decide)) (fun _=>rfl) (fun _=>T.wN) (fun _=>T.vx.kp) (fun _=>T.wK) (je (js 5) (je (jU (fun _=>qA T) (fun _=>hr.mono (by decide)) (fun _=>rfl) (fun _=>T.tM) (fun _=>T.tJ.kp) (fun _=>T.tL) (je (js 0) (je (qB (eg (qB (jb 1) (eg jk))) (eg (Jf (eg jk) (jb 4)))) jw))) (je (qM (eg (zV (jb 2) (eg jk))) (eg jk)) jw))))))))
   (jf (qC (WW.toC (jim (qr jmd (eg (zg tw (fun _=>rfl) (fun _=>T.tw) YG (jr (jb 3) jA))) (eg jk)) (jey (qr ‹"ar"› (eg (qM (eg (zV (jb 2) (eg jk))) (eg jk))) (eg jk)))))
   (jo (jeI (i:=3) rfl (fun _=>Or.inl rfl) (jj2 (eg jk)) (jO (jb 3) (eg jk)))) jS)
   (jo (je2 3))))))
theorem ZO (T:Txt K mg A):FnOk P w K mg base J6 1 A.uE A.uB ["fleet"] (@spO ⟨K⟩ JP):=
 Zh (m:=JT) T.uy u0 rfl rfl fun cdv Ar outer s H E hr=>
  (jf (jD (i:=1) (WO.toE (jqb joH (fun _=>rfl) (fun _=>T.wQ) boot_sorted (jr (eg (WO.toE (jih ‹"aX"› ‹"aX"›))) jA))) (fun _=>u0.nd) rfl ‹"m"› ‹"a"›)
   (jo (Qf (Q2 (sc:=jd j3) (Lc:=["k"]) (Fn:=["hours"]) (ix:=[1]) (fun _=>rfl) (show LcOk (jd j3) ["fleet","hours"] _ ["hours"] [1] from by decide +kernel) (WI.toT (zx (fun _=>rfl) (fun _=>T.tS) (jr (eg (zd (eg (zg tw (fun _=>rfl) (fun _=>T.tw) YG (jr (jb 1) jA))) (eg jk))) jA))) (qm (i:=0) (fun _=>show List.Nodup (["k","hours"]:List Str) from by decide +kernel) rfl (by decide) (fun _=>Or.inl rfl) (fun _=>Or.inr rfl)) (jhL (qr jgZ (eg (jO (jb 1) (jb 0))) (eg (jO (jb 1) (eg (qB (jb 0) (eg jk))))))) (jdP (je (jO (jb 1) (jb 0)) (je (jO (jb 1) (eg (qB (jb 0) (eg jk)))) jw)))))))
theorem ZQ (T:Txt K mg A):FnOk P w K mg base J6 1 A.uD A.ux ["ship","parts"] (@spO ⟨K⟩ Jg):=
 Zh (m:=JO) T.uv tX rfl rfl fun cdv Ar outer s H E hr=>
  (jf (JM (i:=2) (Jp jw) (fun _=>tX.nd) rfl ‹"a"› ‹"a"›)
   (jf (zT (jb3 (js 1)) (jcM (zL (qd (i:=3) (fun _=>tX.nd) rfl ‹"a"› ‹"a"›) (zL (qd (i:=4) (fun _=>tX.nd) rfl ‹"a"› ‹"a"›) jce)))
   (jo (qC (WW.toC (jim (qr jfW (eg (jO (jb 0) (eg jk))) (jb 3)) (jey (qr jfW (jb 4) (eg (jO (jb 0) (eg jk)))))))
   (jo (JZ (i:=2) rfl (fun _=>Or.inl rfl) (Jf (eg (jO (jb 0) (eg jk))) (eg (zd (jb 4) (jb 3)))))) (jo (JZ (i:=2) rfl (fun _=>Or.inl rfl) jk)))))
   (jo (je2 2))))
theorem jef (T:Txt K mg A):FnOk P w K mg base J6 2 A.uO A.uU ["fleet","cells"] (@spO ⟨K⟩ Zq):=
 Zh (m:=Qb) T.vA tD rfl rfl fun cdv Ar outer s H E hr=>
  (jf (jD (i:=2) (WO.toE (qW (fun _=>ZO T) ‹"b"› (fun _=>rfl) (fun _=>T.vh) (fun _=>T.uy.kp) (fun _=>T.vk) (je (js 0) jw))) (fun _=>tD.nd) rfl ‹"a"› ‹"a"›)
   (jf (JM (i:=3) (Jp jw) (fun _=>tD.nd) rfl ‹"a"› ‹"a"›)
   (jf (zT ‹"bg"› (qd (i:=4) (fun _=>tD.nd) rfl ‹"a"› ‹"a"›)
   (jf (jD (i:=5) (WO.toE (qW (fun _=>ZQ T) ‹"b"› (fun _=>rfl) (fun _=>T.vn) (fun _=>T.uv.kp) (fun _=>T.vg) (je (jO (jb 0) (jb 4)) (je (js 2) jw)))) (fun _=>tD.nd) rfl ‹"a"› ‹"a"›)
   (jf (jD (i:=6) (jO (eg (jO (jb 0) (jb 4))) (eg jk)) (fun _=>tD.nd) rfl ‹"a"› ‹"a"›)
   (jf (JM (i:=7) (Jp jw) (fun _=>tD.nd) rfl ‹"a"› ‹"a"›)
   (jf (zT (zx (fun _=>rfl) (fun _=>T.tS) (jr ‹"H"› jA)) (qd (i:=8) (fun _=>tD.nd) rfl ‹"a"› ‹"a"›)
   (jf (jD (i:=9) (jO (jb 1) (eg (qM (eg (qB (eg (Jf (jb 4) ‹"H"›)) (jb 8))) ‹"w"›))) (fun _=>tD.nd) rfl ‹"a"› ‹"a"›)
   (jf (jD (i:=10) (jO (eg (WO.toE (Jp (je jk (je (jO (jb 5) (jb 8)) (je (zV (eg (Jf (eg (jO (jb 5) (jb 8))) (eg (qM (eg (zV (jb 9) (eg jk))) (eg jk))))) (eg jk)) (je (qM (eg (zV (jb 9) (eg jk))) (eg (qB (eg (jO (jb 5) (jb 8))) (eg jk)))) jw))))))) (eg (qM (jb 9) (eg jk)))) (fun _=>tD.nd) rfl ‹"a"› ‹"a"›)
   (jf (JZ (i:=7) rfl ‹"a"› (zg jn0 (fun _=>rfl) (fun _=>T.rK) boot_min (jr (jb 6) (jr (eg (jO (jb 5) (jb 8))) (jr (jb 10) jA)))))
   (jo (jD (i:=6) (zd (jb 6) (eg (jO (jb 7) (jb 8)))) (fun _=>tD.nd) rfl (fun _=>Or.inl rfl) (fun _=>Or.inl rfl)))))))
   (jf (zT (zx (fun _=>rfl) (fun _=>T.tS) (jr ‹"H"› jA)) (qd (i:=8) (fun _=>tD.nd) rfl ‹"a"› ‹"a"›)
   (jf (jD (i:=11) (qM (eg (qB (jb 8) (eg (jO (jb 1) (eg (qM (jb 4) ‹"w"›)))))) ‹"H"›) (fun _=>tD.nd) rfl ‹"a"› ‹"a"›)
   (jf (jD (i:=12) (zg jk4 (fun _=>rfl) (fun _=>T.rK) boot_min (jr (jb 6) (jr (eg (zd (eg (jO (jb 5) (jb 11))) (eg (jO (jb 7) (jb 11))))) jA))) (fun _=>tD.nd) rfl ‹"a"› ‹"a"›)
   (jf (jeI (i:=7) rfl ‹"a"› (js 11) (qB (eg (jO (jb 7) (jb 11))) (jb 12)))
   (jo (jD (i:=6) (zd (jb 6) (jb 12)) (fun _=>tD.nd) rfl (fun _=>Or.inl rfl) (fun _=>Or.inl rfl)))))))
   (jo (jcy 7 (JZ (i:=3) rfl (fun _=>Or.inl rfl) (js 7))))))))))
   (jo (je2 3)))))
theorem jbt (T:Txt K mg A):FnOk P w K mg base J6 1 A.vb A.u9 ["thing"] (@spS ⟨K⟩ Jq):=
 zt (m:=jcK) T.u5 jfE rfl rfl fun cdv Ar outer s H E hr=>(jo (jR (jhQ (eg (Z2 (fun _=>rfl) (fun _=>T.tI) (fun _=>rfl) (fun _=>T.wC) boot_int (by decide) (jb 0))) (jk7 (w_not (eg (Z2 (fun _=>rfl) (fun _=>T.tI) (fun _=>rfl) (fun _=>T.rF) boot_bool (by decide) (jb 0))))))))
theorem jgK (T:Txt K mg A):FnOk P w K mg base J6 2 A.vv A.vw ["thing"] (@spS ⟨K⟩ Qw):=
 zt (m:=jbf) T.wa vI rfl rfl fun cdv Ar outer s H E hr=>
  (jf (qC (WW.toC (jdd (QY (Qt (eg (Z2 (fun _=>rfl) (fun _=>T.tI) (fun _=>rfl) (fun _=>T.rf) boot_tuple (by decide) (jb 0))))) (jai (qr (jgz fun _=>hr.units) ‹"s"› (eg jk)))))
   (jo (jR Q1)) jS)
   (jf (qC (QY (Qt (eg (zg uS (fun _=>rfl) (fun _=>T.uS) boot_all (jr (eg (WO.toE (Q2 (sc:=jd zZ) (Lc:=["part"]) (Fn:=[]) (ix:=[]) (fun _=>rfl) (show LcOk (jd zZ) ["thing","hours"] _ [] [] from by decide +kernel) (WI.toT (jkE (js 0))) (qm (i:=0) (fun _=>show List.Nodup (["part"]:List Str) from by decide +kernel) rfl (by decide) ‹"a"› ‹"m"›) j4 ‹"a9"›))) jA)))))
   (jo (jR Q1)) jS)
   (jf (jD (i:=1) (zd (eg (jO (jb 0) (eg (zE (fun _=>rfl) (fun _=>T.rE))))) (eg (jO (jb 0) (eg (zE (fun _=>rfl) (fun _=>T.wb)))))) (fun _=>vI.nd) rfl ‹"a"› ‹"a"›)
   (jo (jR (jhQ (eg (jf7 jmd (jb 1) (eg jk))) (jhQ (eg (jf7 ji8 (eg (jO (jb 0) (eg (zE (fun _=>rfl) (fun _=>T.wV))))) (eg jk))) (jk7 (jhW jfW jfW (eg jk) (eg (jO (jb 0) (eg (zE (fun _=>rfl) (fun _=>T.rH))))) (eg (Jf (eg (jO (jb 0) (eg (zE (fun _=>rfl) (fun _=>T.wV))))) (jb 1))))))))))))
theorem jgj (T:Txt K mg A):FnOk P w K mg base J6 3 A.ve A.va ["thing"] (@spS ⟨K⟩ QC):=
 zt (m:=Z5) T.vL jgn rfl rfl fun cdv Ar outer s H E hr=>(jo (jR (jhQ (eg (Z2 (fun _=>rfl) (fun _=>T.tI) (fun _=>rfl) (fun _=>T.tN) Kj (by decide) (jb 0))) (jk7 (zg uS (fun _=>rfl) (fun _=>T.uS) boot_all (jr (eg (WO.toE (Q2 (sc:=jd zr) (Lc:=["ship"]) (Fn:=[]) (ix:=[]) (fun _=>rfl) (show LcOk (jd zr) ["thing"] _ [] [] from by decide +kernel) (qy (jb 0)) ‹"bj"› j4 (jU (fun _=>jgK T) ‹"b"› (fun _=>rfl) (fun _=>T.rB) (fun _=>T.wa.kp) (fun _=>T.rA) (je (js 0) jw))))) jA))))))
theorem jba (T:Txt K mg A):FnOk P w K mg base J6 4 A.tZ A.t7 ["thing"] (@spS ⟨K⟩ zO):=
 zt (m:=JE) T.uI jaZ rfl rfl fun cdv Ar outer s H E hr=>
  (jo (qC (QY (Qt (eg (jU (fun _=>jgj T) ‹"b"› (fun _=>rfl) (fun _=>T.wY) (fun _=>T.vL.kp) (fun _=>T.rb) (je (js 0) jw)))))
   (jo jfZ) jS))
theorem ji9 (T:Txt K mg A):FnOk P w K mg base J6 1 A.vW A.vJ ["fleet"] (@spO ⟨K⟩ jck):=
 Zh (m:=jaJ) T.wI vq rfl rfl fun cdv Ar outer s H E hr=>
  (jf (jhZ (i:=1) (fun _=>vq.nd) rfl (fun _=>rfl) (sc:=jd zK) (Lc:=["ship"]) (Fn:=[]) (ix:=[]) (fun _=>rfl) (show LcOk (jd zK) ["fleet","begins","ends"] _ [] [] from by decide +kernel) (qy (jb 0)) ‹"bj"› j4 (jO (jb 0) (eg (zE (fun _=>rfl) (fun _=>T.wb)))))
   (jf (jhZ (i:=2) (fun _=>vq.nd) rfl (fun _=>rfl) (sc:=jd zK) (Lc:=["ship"]) (Fn:=[]) (ix:=[]) (fun _=>rfl) (show LcOk (jd zK) ["fleet","begins","ends"] _ [] [] from by decide +kernel) (qy (jb 0)) ‹"bj"› j4 (jO (jb 0) (eg (zE (fun _=>rfl) (fun _=>T.rE)))))
   (jo (Qf (jny (fun _=>rfl) (fun _=>T.wQ) (fun _=>rfl) (fun _=>T.su) (jr (eg (WO.toE (jih (jb 1) (jb 2)))) jA) (sub:=fun _ _=>⟨rfl,rfl⟩) (j0:=()))))))
theorem QT (T:Txt K mg A):FnOk P w K mg base J6 2 A.uM A.uK ["fleet"] (@spO ⟨K⟩ JA):=
 Zh (m:=Qc) T.uh vf rfl rfl fun cdv Ar outer s H E hr=>
  (jf (jD (i:=1) (WO.toE (qW (fun _=>ji9 T) ‹"b"› (fun _=>rfl) (fun _=>T.rQ) (fun _=>T.wI.kp) (fun _=>T.rM) (je (js 0) jw))) (fun _=>vf.nd) rfl ‹"a"› ‹"a"›)
   (jo (Qf (jrd (fun _=>rfl) (fun _=>T.tN) (fun _=>rfl) (fun _=>T.wG) (jr (jb 1) (jr (eg (WO.toE (jpL (jb 1) (jjv (eg jk)) jpj))) jA))))))
theorem jdK (T:Txt K mg A):FnOk P w K mg base J6 1 A.vN A.vX ["stretch"] (@spS ⟨K⟩ Q5):=
 zt (m:=jc3) T.vQ jir rfl rfl fun cdv Ar outer s H E hr=>(jo (jR (zd (eg (jO (jb 0) (eg (zE (fun _=>rfl) (fun _=>T.sj))))) (eg (jO (jb 0) (eg (zE (fun _=>rfl) (fun _=>T.rJ))))))))
theorem jif (T:Txt K mg A):FnOk P w K mg base J6 2 A.ra A.w6 ["ship","stretch"] (@spS ⟨K⟩ jbh):=
 zt (m:=jgv) T.wX jl5 rfl rfl fun cdv Ar outer s H E hr=>
  (jf (qC (WW.toC (jim (qr jfW (eg (jO (jb 0) (eg (zE (fun _=>rfl) (fun _=>T.wb))))) (eg (jO (jb 1) (eg (zE (fun _=>rfl) (fun _=>T.rJ)))))) (jey (qr jfW (eg (jO (jb 1) (eg (zE (fun _=>rfl) (fun _=>T.sj))))) (eg (jO (jb 0) (eg (zE (fun _=>rfl) (fun _=>T.rE)))))))))
   (jo (jR (Jf (eg (jO (jb 0) (eg (zE (fun _=>rfl) (fun _=>T.wV))))) (eg (jU (fun _=>jdK T) (fun _=>hr.mono (by decide)) (fun _=>rfl) (fun _=>T.wB) (fun _=>T.vQ.kp) (fun _=>T.wO) (je (js 1) jw)))))) jS)
   (jo (jR jk)))
theorem jf6 (T:Txt K mg A):FnOk P w K mg base J6 3 A.vc A.vd ["ship","spans","thing"] (@spS ⟨K⟩ QD):=
 zt (m:=QE) T.vM jfQ rfl rfl fun cdv Ar outer s H E hr=>
  (jf (qC (WW.toC (jdd (QY (Qt (eg (Z2 (fun _=>rfl) (fun _=>T.tI) (fun _=>rfl) (fun _=>T.tN) Kj (by decide) (jb 2))))) (jai (qr (jgz fun _=>hr.units) ‹"H"› ‹"w"›))))
   (jo (jR Q1)) jS)
   (jf (qC (QY (Qt (eg (zg uS (fun _=>rfl) (fun _=>T.uS) boot_all (jr (eg (WO.toE (Q2 (sc:=jd qU) (Lc:=["many"]) (Fn:=[]) (ix:=[]) (fun _=>rfl) (show LcOk (jd qU) ["ship","spans","thing"] _ [] [] from by decide +kernel) (qy (jb 2)) (qm (i:=0) (fun _=>show List.Nodup (["many"]:List Str) from by decide +kernel) rfl (by decide) ‹"a"› ‹"m"›) j4 ‹"a9"›))) jA)))))
   (jo (jR Q1)) jS)
   (jf (qC (QY (Qt (eg (zg uS (fun _=>rfl) (fun _=>T.uS) boot_all (jr (eg (WO.toE (Q2 (sc:=jd qU) (Lc:=["span","many"]) (Fn:=["ship"]) (ix:=[0]) (fun _=>rfl) (show LcOk (jd qU) ["ship","spans","thing"] _ ["ship"] [0] from by decide +kernel) (jb6 (fun _=>rfl) (fun _=>T.wG) (jr (jb 1) (jr (jb 2) jA))) (jcx (zM (i:=0) (fun _=>show List.Nodup (["span","many","ship"]:List Str) from by decide +kernel) rfl (by decide) ‹"a"› ‹"m"› (zM (i:=1) (fun _=>show List.Nodup (["span","many","ship"]:List Str) from by decide +kernel) rfl (by decide) ‹"a"› ‹"m"› jc8))) j4 (jhW jfW jfW (eg jk) (jb 1) (eg (jU (fun _=>jif T) ‹"b"› (fun _=>rfl) (fun _=>T.rG) (fun _=>T.wX.kp) (fun _=>T.rP) (je (js 2) (je (js 0) jw)))))))) jA)))))
   (jo (jR Q1)) jS)
   (jo (jR (jf7 (jcu fun _=>hr.units) (eg (zg vo (fun _=>rfl) (fun _=>T.vo) boot_sum (jr (jb 2) jA))) (eg (jO (jb 0) (eg (zE (fun _=>rfl) (fun _=>T.rH)))))))))))
theorem jg6 (T:Txt K mg A):FnOk P w K mg base J6 4 A.vt A.vp ["fleet","thing"] (@spS ⟨K⟩ ja3):=
 zt (m:=Zx) T.v9 vT rfl rfl fun cdv Ar outer s H E hr=>
  (jf (qC (WW.toC (jdd (QY (Qt (eg (Z2 (fun _=>rfl) (fun _=>T.tI) (fun _=>rfl) (fun _=>T.tN) Kj (by decide) (jb 1))))) (jai (qr (jgz fun _=>hr.units) ‹"w"› ‹"s"›))))
   (jo (jR Q1)) jS)
   (jf (jD (i:=2) ‹"a0"› (fun _=>vT.nd) rfl ‹"m"› ‹"a"›)
   (jo (jR (zg uS (fun _=>rfl) (fun _=>T.uS) boot_all (jr (eg (WO.toE (Q2 (sc:=jd Ja) (Lc:=["ship","share"]) (Fn:=["spans"]) (ix:=[2]) (fun _=>rfl) (show LcOk (jd Ja) ["fleet","thing","spans"] _ ["spans"] [2] from by decide +kernel) (jb6 (fun _=>rfl) (fun _=>T.wG) (jr (jb 0) (jr (jb 1) jA))) (jcx (zM (i:=0) (fun _=>show List.Nodup (["ship","share","spans"]:List Str) from by decide +kernel) rfl (by decide) (fun _=>Or.inl rfl) (fun _=>Or.inr rfl) (zM (i:=1) (fun _=>show List.Nodup (["ship","share","spans"]:List Str) from by decide +kernel) rfl (by decide) (fun _=>Or.inl rfl) (fun _=>Or.inr rfl) jc8))) j4 (jU (fun _=>jf6 T) (fun _=>hr.mono (by decide)) (fun _=>rfl) (fun _=>T.wW) (fun _=>T.vM.kp) (fun _=>T.wZ) (je (js 0) (je (js 2) (je (js 1) jw))))))) jA))))))
theorem QV (T:Txt K mg A):FnOk P w K mg base J6 5 A.uf A.uc ["fleet","thing"] (@spS ⟨K⟩ zq):=
 zt (m:=J2) T.ug jbX rfl rfl fun cdv Ar outer s H E hr=>
  (jf (jes (eg (jU (fun _=>jba T) ‹"b"› (fun _=>rfl) (fun _=>T.vC) (fun _=>T.uI.kp) (fun _=>T.vB) (je (js 0) jw))))
   (jo (qC (QY (Qt (eg (jU (fun _=>jg6 T) ‹"b"› (fun _=>rfl) (fun _=>T.rq) (fun _=>T.v9.kp) (fun _=>T.rz) ‹"al"›))))
   (jo jfZ) jS)))
theorem je8 (T:Txt K mg A):FnOk P w K mg base J6 3 A.u7 A.u6 ["fleet"] (@spO ⟨K⟩ Z4):=
 Zh (m:=QU) T.vY vz rfl rfl fun cdv Ar outer s H E hr=>
  (jf (jD (i:=1) ‹"a0"› (fun _=>vz.nd) rfl ‹"m"› ‹"a"›)
   (jo (Qf (Q2 (sc:=jd qT) (Lc:=["ship"]) (Fn:=["spans"]) (ix:=[1]) (fun _=>rfl) (show LcOk (jd qT) ["fleet","spans"] _ ["spans"] [1] from by decide +kernel) (qy (jb 0)) (qm (i:=0) (fun _=>show List.Nodup (["ship","spans"]:List Str) from by decide +kernel) rfl (by decide) (fun _=>Or.inr rfl) (fun _=>Or.inl rfl)) j4 (WO.toE (jm0 (sc:=jd qT) (Lc:=["span"]) (Fn:=["ship"]) (ix:=[0]) (fun _=>rfl) (show LcOk (jhX (jd qT) _) ["ship","spans"] _ ["ship"] [0] from by decide +kernel) (qy (jb 1)) (qm (i:=0) (fun _=>show List.Nodup (["span","ship"]:List Str) from by decide +kernel) rfl (by decide) (fun _=>Or.inl rfl) (fun _=>Or.inr rfl)) j4 (jU (fun _=>jif T) (fun _=>hr.mono (by decide)) (fun _=>rfl) (fun _=>T.rG) (fun _=>T.wX.kp) (fun _=>T.rP) (je (js 1) (je (js 0) jw)))))))))
theorem jdt (T:Txt K mg A):FnOk P w K mg base J6 3 A.uA A.uz ["fleet"] (@spO ⟨K⟩ Jh):=
 Zh (m:=JQ) T.vj jdq rfl rfl fun cdv Ar outer s H E hr=>(jo (Qf (Q2 (sc:=jd qS) (Lc:=["span"]) (Fn:=[]) (ix:=[]) (fun _=>rfl) (show LcOk (jd qS) ["fleet"] _ [] [] from by decide +kernel) (qy (eg ‹"a0"›)) (qm (i:=0) (fun _=>show List.Nodup (["span"]:List Str) from by decide +kernel) rfl (by decide) ‹"a"› ‹"m"›) j4 (jU (fun _=>jdK T) ‹"b"› (fun _=>rfl) (fun _=>T.wB) (fun _=>T.vQ.kp) (fun _=>T.wO) (je (js 0) jw)))))
theorem jj8 (T:Txt K mg A):FnOk P w K mg base J6 1 A.wj A.wA ["plan","place"] (@spS ⟨K⟩ jb5):=
 zt (m:=jen) T.rh jjx rfl rfl fun cdv Ar outer s H E hr=>(jo (jR (zg vo (fun _=>rfl) (fun _=>T.vo) boot_sum (jr (eg (WO.toE (Q2 (sc:=jd Qe) (Lc:=["share"]) (Fn:=["place"]) (ix:=[1]) (fun _=>rfl) (show LcOk (jd Qe) ["plan","place"] _ ["place"] [1] from by decide +kernel) (qy (jb 0)) (qm (i:=0) (fun _=>show List.Nodup (["share","place"]:List Str) from by decide +kernel) rfl (by decide) ‹"a"› ‹"m"›) j4 (jO (jb 0) (jb 1))))) jA))))
theorem jjo (T:Txt K mg A):FnOk P w K mg base J6 1 A.wk A.wt ["rooms","part","off","on"] (@spS ⟨K⟩ QQ):=
 zt (m:=jeq) T.rn vV rfl rfl fun cdv Ar outer s H E hr=>
  (jf (zT (jll (fun _=>rfl) (fun _=>T.wJ) (je (js 1) jw)) (jcM (zL (qd (i:=4) (fun _=>vV.nd) rfl ‹"a"› ‹"a"›) (zL (qd (i:=5) (fun _=>vV.nd) rfl ‹"a"› ‹"a"›) jce)))
   (jo (qC (WW.toC (jim (qr jmd (eg (jO (jb 5) (jb 2))) (eg jk)) (jey (qr jgZ (eg (jO (jb 5) (jb 3))) (eg (jO (eg (jO (jb 0) (jb 4))) (jb 3)))))))
   (jo (jR (js 4))) jS)))
   (jo (jR jh6)))
theorem jjk (T:Txt K mg A):FnOk P w K mg base J6 2 A.wg A.wu ["rooms","part","begun"] (@spS ⟨K⟩ jaF):=
 zt (m:=jeJ) T.rp tY rfl rfl fun cdv Ar outer s H E hr=>
  (jf (jmC (i:=3) (jlo (fun _=>rfl) (fun _=>T.si) (jr (jb 2) jA)) (fun _=>tY.nd) rfl ‹"a"› ‹"a"›)
   (jf (JM (i:=4) (jcI jlw (fun _=>rfl) (fun _=>T.tN) Kj (jr (jb 2) jA)) (fun _=>tY.nd) rfl ‹"a"› ‹"a"›)
   (jf (jD (i:=5) jk (fun _=>tY.nd) rfl ‹"a"› ‹"a"›)
   (jf (jfn (qr jgZ (jb 5) (eg (zg tw (fun _=>rfl) (fun _=>T.tw) YG (jr (jb 4) jA))))
   (jf (jD (i:=6) (jO (jb 4) (jb 5)) (fun _=>tY.nd) rfl ‹"a"› ‹"a"›)
   (jf (zT (zx (fun _=>rfl) (fun _=>T.tS) (jr (eg (zg tw (fun _=>rfl) (fun _=>T.tw) YG (jr (eg (jO (jb 0) (eg jk))) jA))) jA)) (qd (i:=7) (fun _=>tY.nd) rfl ‹"a"› ‹"a"›)
   (jf (jD (i:=8) (jrn (qr (jqf fun _=>hr.units) (jb 7) (jb 3)) jh6 (jU (fun _=>jjo T) ‹"b"› (fun _=>rfl) (fun _=>T.sd) (fun _=>T.rn.kp) (fun _=>T.rZ) (je (js 0) (je (js 1) (je (js 6) (je (js 7) jw)))))) (fun _=>tY.nd) rfl ‹"a"› ‹"a"›)
   (jo (qC (jgL (jb 8))
   (jf (jlU (i:=3) (fun _=>hr.units) rfl ‹"a"› (js 7) (jdP (je (js 8) (je (js 6) (je (js 7) jw)))))
   (jo (JZ (i:=4) rfl (fun _=>Or.inl rfl) (js 7)))) jS))))
   (jo (joZ (i:=5) jmG jk (fun _=>tY.nd) rfl (fun _=>Or.inl rfl) (fun _=>Or.inl rfl))))))
   (jo (jlN 3))))))
theorem jiF (T:Txt K mg A):FnOk P w K mg base J6 1 A.vK A.vS ["moves","end"] (@spO ⟨K⟩ Zk):=
 Zh (m:=jcW) T.wF uX rfl rfl fun cdv Ar outer s H E hr=>
  (jf (JM (i:=2) (Jp jw) (fun _=>uX.nd) rfl ‹"a"› ‹"a"›)
   (jf (jD (i:=3) (joK (fun _=>hr.units) (jb 0) (jb 1)) (fun _=>uX.nd) rfl ‹"a"› ‹"a"›)
   (jf (jfn (jgL (jb 3))
   (jf (JZ (i:=2) rfl ‹"a"› (js 3))
   (jo (jD (i:=3) (jlB (fun _=>hr.units) (jb 0) (eg (jO (jb 3) (eg (zE (fun _=>rfl) (fun _=>T.sr)))))) (fun _=>uX.nd) rfl (fun _=>Or.inl rfl) (fun _=>Or.inl rfl)))))
   (jo (Qf (jnj (fun _=>rfl) (fun _=>T.tN) (fun _=>rfl) (fun _=>T.vH) (jr (jb 2) jA)))))))
theorem jj4 (T:Txt K mg A):FnOk P w K mg base J6 6 A.wo A.wy ["fleet","plan"] (@spS ⟨K⟩ jb1):=
 zt (m:=jex) T.rg tV rfl rfl fun cdv Ar outer s H E hr=>
  (jf ‹"a8"›
   (jf (jD (i:=2) (WO.toE (qW (fun _=>je8 T) ‹"b"› (fun _=>rfl) (fun _=>T.wU) (fun _=>T.vY.kp) (fun _=>T.w5) (je (js 0) jw))) (fun _=>tV.nd) rfl ‹"a"› ‹"a"›)
   (jf (jD (i:=3) (WO.toE (qW (fun _=>jdt T) ‹"b"› (fun _=>rfl) (fun _=>T.wz) (fun _=>T.vj.kp) (fun _=>T.wq) (je (js 0) jw))) (fun _=>tV.nd) rfl ‹"a"› ‹"a"›)
   (jf (jhZ (i:=4) (fun _=>tV.nd) rfl (fun _=>rfl) (sc:=jd zm) (Lc:=["place"]) (Fn:=["plan"]) (ix:=[1]) (fun _=>rfl) (show LcOk (jd zm) ["fleet","plan","rooms","hours","totals","least","greatest","off","moves","ends"] _ ["plan"] [1] from by decide +kernel) (WI.toT ‹"M"›) (qm (i:=0) (fun _=>show List.Nodup (["place","plan"]:List Str) from by decide +kernel) rfl (by decide) ‹"a"› ‹"m"›) j4 (jU (fun _=>jj8 T) ‹"b"› (fun _=>rfl) (fun _=>T.rY) (fun _=>T.rh.kp) (fun _=>T.rV) (je (js 1) (je (js 0) jw))))
   (jf (jD (i:=5) (WO.toE (Q2 (sc:=jd zm) (Lc:=["many","length"]) (Fn:=[]) (ix:=[]) (fun _=>rfl) (show LcOk (jd zm) ["fleet","plan","rooms","hours","totals","least","greatest","off","moves","ends"] _ [] [] from by decide +kernel) (jb6 (fun _=>rfl) (fun _=>T.wG) (jr (jb 4) (jr (jb 3) jA))) ‹"a4"› j4 (zV (jb 0) (jb 1)))) (fun _=>tV.nd) rfl ‹"m"› ‹"a"›)
   (jf (jD (i:=6) (WO.toE (Q2 (sc:=jd zm) (Lc:=["many","length"]) (Fn:=[]) (ix:=[]) (fun _=>rfl) (show LcOk (jd zm) ["fleet","plan","rooms","hours","totals","least","greatest","off","moves","ends"] _ [] [] from by decide +kernel) (jb6 (fun _=>rfl) (fun _=>T.wG) (jr (jb 4) (jr (jb 3) jA))) ‹"a4"› j4 (zV (eg (zd (eg (qB (jb 0) (jb 1))) (eg jk))) (jb 1)))) (fun _=>tV.nd) rfl ‹"m"› ‹"a"›)
   (jf (zT ‹"M"› (qd (i:=7) (fun _=>tV.nd) rfl ‹"m"› ‹"a"›)
   (jf (jD (i:=8) (jU (fun _=>jjk T) ‹"b"› (fun _=>rfl) (fun _=>T.rX) (fun _=>T.rp.kp) (fun _=>T.rS) (je (js 2) (je (js 1) (je (WD.toE (jor (js 7) jh6)) jw)))) (fun _=>tV.nd) rfl ‹"a"› ‹"a"›)
   (jf (jhZ (i:=9) (fun _=>tV.nd) rfl (fun _=>rfl) (sc:=jd zm) (Lc:=["on"]) (Fn:=["greatest","off","least"]) (ix:=[6,7,5]) (fun _=>rfl) (show LcOk (jd zm) ["fleet","plan","rooms","hours","totals","least","greatest","off","moves","ends"] _ ["greatest","off","least"] [6,7,5] from by decide +kernel) (WI.toT (jov (js 8))) (qm (i:=0) (fun _=>show List.Nodup (["on","greatest","off","least"]:List Str) from by decide +kernel) rfl (by decide) ‹"a"› ‹"m"›) (jhL (qr ji8 (eg (zd (eg (jO (jb 1) (jb 2))) (eg (jO (jb 3) (jb 0))))) (eg jk))) (js 0))
   (jo (qC (qr (jgz fun _=>hr.units) (jb 9) (eg (WO.toE (Jp jw))))
   (jo (jR (WO.toE (qW (fun _=>jiF T) (fun _=>hr.mono (by decide)) (fun _=>rfl) (fun _=>T.rO) (fun _=>T.wF.kp) (fun _=>T.rD) (je (js 8) (je (jO (jb 9) (eg jk)) jw)))))) jS)))))
   (jo (jR jh6)))))))))
theorem Zl (T:Txt K mg A):FnOk P w K mg base J6 1 A.uj A.uo ["parts","plan"] (@spO ⟨K⟩ Jw):=
 Zh (m:=Qk) T.uq jde rfl rfl fun cdv Ar outer s H E hr=>(jo (Qf (Q2 (sc:=jd qh) (Lc:=["s"]) (Fn:=["plan"]) (ix:=[1]) (fun _=>rfl) (show LcOk (jd qh) ["parts","plan"] _ ["plan"] [1] from by decide +kernel) (WI.toT ‹"bg"›) (qm (i:=0) (fun _=>show List.Nodup (["s","plan"]:List Str) from by decide +kernel) rfl (by decide) ‹"m"› ‹"a"›) j4 (zg vo (fun _=>rfl) (fun _=>T.vo) boot_sum (jr (eg (WO.toE (jm0 (sc:=jd qh) (Lc:=["row"]) (Fn:=["s"]) (ix:=[0]) (fun _=>rfl) (show LcOk (jhX (jd qh) _) ["s","plan"] _ ["s"] [0] from by decide +kernel) (qy (jb 1)) (qm (i:=0) (fun _=>show List.Nodup (["row","s"]:List Str) from by decide +kernel) rfl (by decide) ‹"a"› ‹"m"›) j4 (jO (jb 0) (jb 1))))) jA)))))
theorem jc1 (T:Txt K mg A):FnOk P w K mg base J6 1 A.uk A.ui ["parts","told","s"] (@spS ⟨K⟩ Qj):=
 zt (m:=Jx) T.uZ jcz rfl rfl fun cdv Ar outer s H E hr=>(jo (jR (zV (eg (jO (jb 1) (jb 2))) (eg (zd ‹"as"› ‹"as"›)))))
theorem jec (T:Txt K mg A):FnOk P w K mg base J6 1 A.uN A.uW ["parts","told","s"] (@spS ⟨K⟩ Zi):=
 zt (m:=Qd) T.vy vi rfl rfl fun cdv Ar outer s H E hr=>
  (jf (jD (i:=3) (zd ‹"as"› ‹"as"›) (fun _=>vi.nd) rfl ‹"a"› ‹"a"›)
   (jo (jR (zV (eg (zd (eg (qB (eg (jO (jb 1) (jb 2))) (jb 3))) (eg jk))) (jb 3)))))
theorem ji0 (T:Txt K mg A):FnOk P w K mg base J6 1 A.vU A.vP ["part","way","many"] (@spS ⟨K⟩ jay):=
 zt (m:=jcS) T.wM uu rfl rfl fun cdv Ar outer s H E hr=>
  (jf (jlt (i:=3) (fun _=>uu.nd) rfl (fun _=>rfl) (sc:=jd Jy) (Lc:=["share"]) (Fn:=[]) (ix:=[]) (fun _=>rfl) (show LcOk (jd Jy) ["part","way","many","told","ship","off","on"] _ [] [] from by decide +kernel) (qy (jb 0)) (qm (i:=0) (fun _=>show List.Nodup (["share"]:List Str) from by decide +kernel) rfl (by decide) ‹"a"› ‹"m"›) j4 ‹"aG"›)
   (jf (zT (jb3 (js 1)) (jcM (zL (qd (i:=4) (fun _=>uu.nd) rfl ‹"a"› ‹"a"›) (zL (qd (i:=5) (fun _=>uu.nd) rfl ‹"a"› ‹"a"›) (zL (qd (i:=6) (fun _=>uu.nd) rfl ‹"a"› ‹"a"›) jce))))
   (jf (qC (jgL (jb 5))
   (jo (jhN (i:=3) jqT rfl (fun _=>Or.inl rfl) (jb 4) (js 5) (js 2))) jS)
   (jo (jhN (i:=3) jmG rfl (fun _=>Or.inl rfl) (jb 4) (js 6) (js 2)))))
   (jo (jcy 3 (jR (js 3))))))
theorem jjF (T:Txt K mg A):FnOk P w K mg base J6 6 A.wx A.we ["fleet","plan","moves"] (@spS ⟨K⟩ jbZ):=
 zt (m:=jeA) T.rm jkW rfl rfl fun cdv Ar outer s H E hr=>
  (jf ‹"a8"›
   (jo (jR (jU (fun _=>ji0 T) (fun _=>hr.mono (by decide)) (fun _=>rfl) (fun _=>T.rN) (fun _=>T.wM.kp) (fun _=>T.rL) (je (js 1) (je (js 2) (je jk jw)))))))
theorem jcg (T:Txt K mg A):FnOk P w K mg base J6 1 A.um A.ur ["cell"] (@spS ⟨K⟩ zI):=
 zt (m:=Qm) T.u4 tE rfl rfl fun cdv Ar outer s H E hr=>
  (jf (jD (i:=1) (qB (eg jk) (eg (qM (jb 0) (eg jk)))) (fun _=>tE.nd) rfl ‹"a"› ‹"a"›)
   (jf (jD (i:=2) (qB (eg jk) ‹"ap"›) (fun _=>tE.nd) rfl ‹"a"› ‹"a"›)
   (jf (jD (i:=3) (qB (eg jk) (eg (qM (eg (zV (jb 0) (eg jk))) (eg (jd0 (eg jk) (eg jk)))))) (fun _=>tE.nd) rfl ‹"a"› ‹"a"›)
   (jf (jD (i:=4) (qB (eg (qB (jb 2) (eg jk))) ‹"ap"›) (fun _=>tE.nd) rfl ‹"a"› ‹"a"›)
   (jf (JM (i:=5) (Jp jw) (fun _=>tE.nd) rfl ‹"a"› ‹"a"›)
   (jf (JM (i:=6) (Jp jw) (fun _=>tE.nd) rfl ‹"a"› ‹"a"›)
   (jf (zT (zx (fun _=>rfl) (fun _=>T.tS) (jr (jb 1) jA)) (qd (i:=7) (fun _=>tE.nd) rfl ‹"a"› ‹"a"›)
   (jf (jgF (i:=8) (fun _=>tE.nd) rfl (fun _=>rfl) (sc:=jd jW) (Lc:=["s"]) (Fn:=[]) (ix:=[]) (fun _=>rfl) (show LcOk (jd jW) ["cell","many","level","wide","most","fleet","plan","k","row"] _ [] [] from by decide +kernel) (WI.toT (zx (fun _=>rfl) (fun _=>T.tS) (jr (eg (qB (jb 1) (eg jk))) jA))) (qm (i:=0) (fun _=>show List.Nodup (["s"]:List Str) from by decide +kernel) rfl (by decide) ‹"a"› ‹"m"›) j4 jk)
   (jf (jeI (i:=8) rfl ‹"a"› (js 7) (Jf (eg (qB (jb 2) (eg (jrg wC (fun _=>rfl) (fun _=>T.wC) boot_int (jr (eg (jf7 ‹"ar"› (jb 7) (eg jk))) jA))))) (jb 3)))
   (jf (qC (qr ‹"ar"› (jb 7) (eg (zd (jb 1) (eg jk))))
   (jo (jeI (i:=8) rfl (fun _=>Or.inl rfl) (js 1) (Jf (eg (zd (jb 2) (eg jk))) (jb 3)))) jS)
   (jf (JZ (i:=5) rfl ‹"a"› (jdP (je (Jf (jb 7) (jb 3)) (je (Jf (eg (qB (jb 7) (eg jk))) (jb 3)) (je (zg vo (fun _=>rfl) (fun _=>T.vo) boot_sum (jr (jb 8) jA)) (je (js 4) jw))))))
   (jo (jcy 8 (JZ (i:=6) rfl (fun _=>Or.inl rfl) (js 8)))))))))
   (jf (qC (qr ‹"ar"› ‹"ap"› (eg jk))
   (jf (jgF (i:=5) (fun _=>tE.nd) rfl (fun _=>rfl) (sc:=jd jW) (Lc:=["begin","end","need","most"]) (Fn:=[]) (ix:=[]) (fun _=>rfl) (show LcOk (jd jW) ["cell","many","level","wide","most","fleet","plan","k","row"] _ [] [] from by decide +kernel) (qy (jb 5)) (jcx (zM (i:=0) ‹"x"› rfl (by decide) ‹"a"› ‹"m"› (zM (i:=1) ‹"x"› rfl (by decide) ‹"a"› ‹"m"› (zM (i:=2) ‹"x"› rfl (by decide) ‹"a"› ‹"m"› (zM (i:=3) ‹"x"› rfl (by decide) ‹"a"› ‹"m"› jc8))))) j4 (jdP (je (zd (eg jk) (jb 1)) (je (zd (eg jk) (jb 0)) (je (js 2) (je (js 3) jw))))))
   (jo (jgF (i:=6) (fun _=>tE.nd) rfl (fun _=>rfl) (sc:=jd jW) (Lc:=["row"]) (Fn:=[]) (ix:=[]) (fun _=>rfl) (show LcOk (jd jW) ["cell","many","level","wide","most","fleet","plan","k","row"] _ [] [] from by decide +kernel) (qy (jb 6)) (qm (i:=0) (fun _=>show List.Nodup (["row"]:List Str) from by decide +kernel) rfl (by decide) (fun _=>Or.inl rfl) (fun _=>Or.inr rfl)) j4 (WO.toE (jnj (fun _=>rfl) (fun _=>T.tN) (fun _=>rfl) (fun _=>T.vH) (jr (jb 0) jA)))))) jS)
   (jo (jcy 6 (jcy 5 (jR (jdP (je (js 5) (je (js 6) jw)))))))))))))))
theorem jbg (T:Txt K mg A):FnOk P w K mg base J6 2 A.ua A.t9 ["fleet","parts"] (@spO ⟨K⟩ JF):=
 Zh (m:=JD) T.uJ jaW rfl rfl fun cdv Ar outer s H E hr=>(jo (Qf (Q2 (sc:=jd qk) (Lc:=["ship"]) (Fn:=["parts"]) (ix:=[1]) (fun _=>rfl) (show LcOk (jd qk) ["fleet","parts"] _ ["parts"] [1] from by decide +kernel) (qy (jb 0)) (qm (i:=0) (fun _=>show List.Nodup (["ship","parts"]:List Str) from by decide +kernel) rfl (by decide) ‹"a"› ‹"m"›) j4 (WO.toE (qW (fun _=>ZQ T) ‹"b"› (fun _=>rfl) (fun _=>T.vn) (fun _=>T.uv.kp) (fun _=>T.vg) ‹"al"›)))))
theorem ja0 (T:Txt K mg A):FnOk P w K mg base J6 3 A.t8 A.ub ["fleet","parts","plan","moves"] (@spS ⟨K⟩ JG):=
 zt (m:=zN) T.uH tG rfl rfl fun cdv Ar outer s H E hr=>
  (jf (qC (WW.toC (jdd (QY (Qt (eg (Z2 (fun _=>rfl) (fun _=>T.tI) (fun _=>rfl) (fun _=>T.tN) Kj (by decide) (jb 3))))) (jai (qr ‹"ar"› (jb 3) (eg (WO.toE (Jp jw)))))))
   (jo (jR Q1)) jS)
   (jf (jD (i:=4) (WO.toE (qW (fun _=>jbg T) ‹"b"› (fun _=>rfl) (fun _=>T.vF) (fun _=>T.uJ.kp) (fun _=>T.vD) ‹"al"›)) (fun _=>tG.nd) rfl ‹"a"› ‹"a"›)
   (jf (JM (i:=5) (Jp jw) (fun _=>tG.nd) rfl ‹"a"› ‹"a"›)
   (jf (zT (jb3 (js 3)) (qd (i:=6) (fun _=>tG.nd) rfl ‹"a"› ‹"a"›)
   (jf (qC (WW.toC (jdd (QY (Qt (eg (Z2 (fun _=>rfl) (fun _=>T.tI) (fun _=>rfl) (fun _=>T.rf) boot_tuple (by decide) (jb 6))))) (jai (qr (jgz fun _=>hr.units) (eg (zg tw (fun _=>rfl) (fun _=>T.tw) YG (jr (jb 6) jA))) (eg jk)))))
   (jo (jR Q1)) jS)
   (jf (zT (jkE (js 6)) (qd (i:=7) (fun _=>tG.nd) rfl ‹"a"› ‹"a"›)
   (jo (qC (WW.toC (jdd (QY (Qt (eg (Z2 (fun _=>rfl) (fun _=>T.tI) (fun _=>rfl) (fun _=>T.wC) boot_int (by decide) (jb 7))))) (jdd (Qt (eg (Z2 (fun _=>rfl) (fun _=>T.tI) (fun _=>rfl) (fun _=>T.rF) boot_bool (by decide) (jb 7)))) (jai (qr jgZ (jb 7) (eg jk))))))
   (jo (jR Q1)) jS)))
   (jf (jkH (js 6) (jcM (zL (qd (i:=8) (fun _=>tG.nd) rfl ‹"a"› ‹"a"›) (zL (qd (i:=9) (fun _=>tG.nd) rfl ‹"a"› ‹"a"›) (zL (qd (i:=10) (fun _=>tG.nd) rfl ‹"a"› ‹"a"›) jce)))))
   (jf (qC (WW.toC (jdd (qr ji8 (jb 8) ‹"s"›) (jdd (qr ji8 (jb 9) ‹"w"›) (jai (qr ji8 (jb 10) ‹"w"›)))))
   (jo (jR Q1)) jS)
   (jf (qC (WW.toC (jdd (qr jgZ (eg (jO (eg (jO (jb 2) (jb 8))) (jb 9))) (eg jk)) (jai (qr ji8 (eg (jO (eg (jO (jb 2) (jb 8))) (jb 10))) (eg (jO (eg (jO (jb 4) (jb 8))) (jb 10)))))))
   (jo (jR Q1)) jS)
   (jf (qC (qr ‹"ar"› (jb 5) (eg (WO.toE (Jp jw))))
   (jo (JZ (i:=5) rfl (fun _=>Or.inl rfl) (js 9))) jS)
   (jf (qC (WW.toC (jdd (qr (jgz fun _=>hr.units) (eg (jO (jb 5) (eg (jj2 (eg jk))))) (jb 9)) (jai (qr jrm (jb 10) (jb 5)))))
   (jo (jR Q1)) jS)
   (jo (JZ (i:=5) rfl (fun _=>Or.inl rfl) (js 10)))))))))))
   (jo (jR Q1))))))
theorem zk (T:Txt K mg A):FnOk P w K mg base J6 2 A.uG A.uw ["parts","plan","k"] (@spS ⟨K⟩ qQ):=
 zt (m:=JS) T.tO tT rfl rfl fun cdv Ar outer s H E hr=>
  (jf (jD (i:=3) jk (fun _=>tT.nd) rfl ‹"a"› ‹"a"›)
   (jf (jD (i:=4) (WO.toE (qW (fun _=>Zl T) ‹"b"› (fun _=>rfl) (fun _=>T.uY) (fun _=>T.uq.kp) (fun _=>T.u3) ‹"al"›)) (fun _=>tT.nd) rfl ‹"a"› ‹"a"›)
   (jf (zT ‹"bg"› (qd (i:=5) (fun _=>tT.nd) rfl ‹"a"› ‹"a"›)
   (jo (jD (i:=3) (qB (jb 3) (eg (zg jpa (fun _=>rfl) (fun _=>T.sq) boot_max (jr (eg jk) (jr (eg (zd (eg (jO (jb 4) (jb 5))) (eg (Jf (jb 2) (eg (zd (eg (jO (eg (jO (jb 0) (jb 5))) (eg jk))) (eg (jO (eg (jO (jb 0) (jb 5))) (eg jk))))))))) jA))))) (fun _=>tT.nd) rfl (fun _=>Or.inl rfl) (fun _=>Or.inl rfl))))
   (jo (jR (js 3))))))
theorem joe (T:Txt K mg A):FnOk P w K mg base J6 7 A.rj A.rl ["script"] (@spS ⟨K⟩ jmL):=
 zt (m:=jht) T.sk tP rfl rfl fun cdv Ar outer s H E hr=>
  (jf (jD (i:=1) (WO.toE (qW (fun _=>jdy T) ‹"b"› (fun _=>rfl) (fun _=>T.wm) (fun _=>T.vm.kp) (fun _=>T.wc) (je (js 0) (je jk jw)))) (fun _=>tP.nd) rfl ‹"a"› ‹"a"›)
   (jf (jD (i:=2) (WO.toE (qW (fun _=>jef T) ‹"b"› (fun _=>rfl) (fun _=>T.wR) (fun _=>T.vA.kp) (fun _=>T.wH) (je (js 1) (je (WO.toE (jih (eg (WO.toE (jpL (jb 0) (jjv (eg jk)) (jjv (eg jk))))) (eg (WO.toE (Jp (je jk jw)))))) jw)))) (fun _=>tP.nd) rfl ‹"a"› ‹"a"›)
   (jf (qC (qr ‹"ar"› (eg (qM ‹"aY"› (eg jk))) (eg jk))
   (jo (jkH (jU (fun _=>jcg T) (fun _=>hr.mono (by decide)) (fun _=>rfl) (fun _=>T.v5) (fun _=>T.u4.kp) (fun _=>T.v7) (je (zV (eg (jU (fun _=>qA T) (fun _=>hr.mono (by decide)) (fun _=>rfl) (fun _=>T.tM) (fun _=>T.tJ.kp) (fun _=>T.tL) (je (js 0) (je jk jw)))) (eg jk)) jw)) (jcM (zL (qd (i:=1) (fun _=>tP.nd) rfl (fun _=>Or.inl rfl) (fun _=>Or.inl rfl)) (zL (qd (i:=2) (fun _=>tP.nd) rfl (fun _=>Or.inl rfl) (fun _=>Or.inl rfl)) jce))))) jS)
   (jf (jD (i:=3) (WO.toE (qW (fun _=>ZO T) ‹"b"› (fun _=>rfl) (fun _=>T.vh) (fun _=>T.uy.kp) (fun _=>T.vk) (je (js 1) jw))) (fun _=>tP.nd) rfl ‹"a"› ‹"a"›)
   (jf (jD (i:=4) (jU (fun _=>jj4 T) ‹"b"› (fun _=>rfl) (fun _=>T.sf) (fun _=>T.rg.kp) (fun _=>T.rT) (je (WO.toE (jcI tN (fun _=>rfl) (fun _=>T.tN) Kj (jr (jb 1) jA))) (je ‹"aW"› jw))) (fun _=>tP.nd) rfl ‹"a"› ‹"a"›)
   (jf (qC (jpE (jb 4))
   (jo (jR Q1)) jS)
   (jf (qC (QY (Qt (eg (jU (fun _=>ja0 T) ‹"b"› (fun _=>rfl) (fun _=>T.vE) (fun _=>T.uH.kp) (fun _=>T.vG) (je (js 1) (je (js 3) (je (js 2) (je (js 4) jw))))))))
   (jo (jR Q1)) jS)
   (jf (jD (i:=5) (WO.toE (qW (fun _=>Zl T) ‹"b"› (fun _=>rfl) (fun _=>T.uY) (fun _=>T.uq.kp) (fun _=>T.u3) (je (js 3) (je (js 2) jw)))) (fun _=>tP.nd) rfl ‹"a"› ‹"a"›)
   (jf (jD (i:=6) (jU (fun _=>jc1 T) ‹"b"› (fun _=>rfl) (fun _=>T.vZ) (fun _=>T.uZ.kp) (fun _=>T.v8) (je (js 3) (je (js 5) (je (jO (eg (jO (jb 4) (eg (jj2 (eg jk))))) (eg jk)) jw)))) (fun _=>tP.nd) rfl ‹"a"› ‹"a"›)
   (jf (jD (i:=7) (jU (fun _=>jec T) ‹"b"› (fun _=>rfl) (fun _=>T.wL) (fun _=>T.vy.kp) (fun _=>T.wD) (je (js 3) (je (js 5) (je (jO (eg (jO (jb 4) (eg jk))) (eg jk)) jw)))) (fun _=>tP.nd) rfl ‹"a"› ‹"a"›)
   (jf (qC (qr jgZ (jb 7) (eg (qB (jb 6) (eg jk))))
   (jo (jR Q1)) jS)
   (jf (jD (i:=8) (jU (fun _=>jjF T) ‹"b"› (fun _=>rfl) (fun _=>T.r8) (fun _=>T.rm.kp) (fun _=>T.rW) (je (WO.toE (jcI tN (fun _=>rfl) (fun _=>T.tN) Kj (jr (jb 1) jA))) (je ‹"aW"› (je (WO.toE (jcI tN (fun _=>rfl) (fun _=>T.tN) Kj (jr (jb 4) jA))) jw)))) (fun _=>tP.nd) rfl ‹"a"› ‹"a"›)
   (jf (jD (i:=9) (WO.toE (Jp (je jk (je (qM ‹"aY"› (eg (jd0 (eg jk) (eg jk)))) jw)))) (fun _=>tP.nd) rfl ‹"a"› ‹"a"›)
   (jf (zT ‹"M"› (qd (i:=10) (fun _=>tP.nd) rfl ‹"a"› ‹"a"›)
   (jf (jD (i:=11) (zV (eg (jO (jb 5) (jb 10))) (eg (zd (eg (jO (eg (jO (jb 3) (jb 10))) (eg jk))) (eg (jO (eg (jO (jb 3) (jb 10))) (eg jk)))))) (fun _=>tP.nd) rfl ‹"a"› ‹"a"›)
   (jo (jD (i:=9) (WO.toE (jih (jb 9) (eg (WO.toE (Jp (je (js 11) (je (qB (jb 11) (eg jk)) jw))))))) (fun _=>tP.nd) rfl (fun _=>Or.inl rfl) (fun _=>Or.inl rfl)))))
   (jf (zT (jb3 (js 9)) (qd (i:=12) (fun _=>tP.nd) rfl ‹"a"› ‹"a"›)
   (jo (qC (qr jmd (eg (jU (fun _=>zk T) ‹"b"› (fun _=>rfl) (fun _=>T.tR) (fun _=>T.tO.kp) (fun _=>T.tQ) (je (js 3) (je (js 8) (je (js 12) jw))))) (eg (jU (fun _=>zk T) ‹"b"› (fun _=>rfl) (fun _=>T.tR) (fun _=>T.tO.kp) (fun _=>T.tQ) (je (js 3) (je (js 2) (je (js 12) jw))))))
   (jo (jR Q1)) jS)))
   (jf (qC (qr (jgz fun _=>hr.units) (eg (jU (fun _=>zk T) ‹"b"› (fun _=>rfl) (fun _=>T.tR) (fun _=>T.tO.kp) (fun _=>T.tQ) (je (js 3) (je (js 8) (je jk jw))))) (eg (jU (fun _=>zk T) ‹"b"› (fun _=>rfl) (fun _=>T.tR) (fun _=>T.tO.kp) (fun _=>T.tQ) (je (js 3) (je (js 2) (je jk jw))))))
   (jo (jR Q1)) jS)
   (jf (jD (i:=12) (qB (eg (qB (jb 6) (eg jk))) (eg (qM ‹"aY"› (eg (zd (eg (zd (jb 7) (jb 6))) (eg jk)))))) (fun _=>tP.nd) rfl ‹"a"› ‹"a"›)
   (jo (jR (jf7 (jcu fun _=>hr.units) (eg (jU (fun _=>zk T) (fun _=>hr.mono (by decide)) (fun _=>rfl) (fun _=>T.tR) (fun _=>T.tO.kp) (fun _=>T.tQ) (je (js 3) (je (js 8) (je (js 12) jw))))) (eg (zd (eg (jU (fun _=>zk T) (fun _=>hr.mono (by decide)) (fun _=>rfl) (fun _=>T.tR) (fun _=>T.tO.kp) (fun _=>T.tQ) (je (js 3) (je (js 2) (je (js 12) jw))))) (eg jk)))))))))))))))))))))))
end
def jhr (K:PySem.W.Frag):Sp:=fun vs H Q _=>∃(a:Addr) (ns:List Int),vs=[.ref a]/\Jn K H a (ns.map V.int)/\ns.length<=63/\∀H',Q (.bl true) H'
theorem jly {P:Program} {w:World} {K:PySem.W.Frag} {mg:Str → Option Value} {base:Heap} {A:Adr} (T:Txt K mg A):FnOk P w K mg base J6 7 A.rj A.rl ["script"] (jhr K):=by
 letI:Fr:=⟨K⟩
 refine (joe T).imp fun vs H Q E h=>?_;obtain ⟨a,ns,rfl,hs,hl,q⟩:=h;exact ⟨H,[.scr ns],.bl true,.refl _,.cons (.scr hs) .nil,jjR ns hl,fun v G' H' x r=>by cases r;exact q _⟩
set_option maxHeartbeats 4000000 in
abbrev ya (K:PySem.W.Frag) (x:Str) (f:Addr):Prop:=PySem.W.nsIn K mainGlobals x=some (some (.ref f))
abbrev yb (K:PySem.W.Frag) (x:Str) (st:Stmt) (f:Addr) (oc) (od) (kV) (dc) (pm) (an) (cd) (ct) (sl):=K.lookup f=some ⟨oc,od,.func (PySem.W.fnOf x x (jJ st) (jH st) (jd st) .none kV dc pm an cd ct),sl⟩
abbrev yc (K:PySem.W.Frag) (cd) (x:Str):=PySem.W.codeIn K cd x=true
abbrev yd (K:PySem.W.Frag) (f:Addr):Prop:=PySem.W.keepIn K (.ref f)=true
theorem jnA {l:PySem.W.OpenLaw} {w:World} {K:PySem.W.Frag} {h:Heap} {mg:Str → Option Value} {fa:Addr} (X:K.In h) (G:h.Ns mainGlobals mg) (hfa:mg "law"=some (.ref fa))
 {f0 f1 f2 f3 f4 f5 f6 f7 f8 f9 f10 f11 f12 f13 f14 f15 f16 f17 f18 f19 f20 f21 f22 f23 f24 f25 f26 f27 f28 f29 f30 f31 f32 f33:Addr}
 {od0 od1 od2 od3 od4 od5 od6 od7 od8 od9 od10 od11 od12 od13 od14 od15 od16 od17 od18 od19 od20 od21 od22 od23 od24 od25 od26 od27 od28 od29 od30 od31 od32 od33:Option Addr}
 {an0 an1 an2 an3 an4 an5 an6 an7 an8 an9 an10 an11 an12 an13 an14 an15 an16 an17 an18 an19 an20 an21 an22 an23 an24 an25 an26 an27 an28 an29 an30 an31 an32 an33:Option Addr}
 {sl0 sl1 sl2 sl3 sl4 sl5 sl6 sl7 sl8 sl9 sl10 sl11 sl12 sl13 sl14 sl15 sl16 sl17 sl18 sl19 sl20 sl21 sl22 sl23 sl24 sl25 sl26 sl27 sl28 sl29 sl30 sl31 sl32 sl33:Array (Option Value)}
 {oc0 oc1 oc2 oc3 oc4 oc5 oc6 oc7 oc8 oc9 oc10 oc11 oc12 oc13 oc14 oc15 oc16 oc17 oc18 oc19 oc20 oc21 oc22 oc23 oc24 oc25 oc26 oc27 oc28 oc29 oc30 oc31 oc32 oc33:Value}
 {kV0 kV1 kV2 kV3 kV4 kV5 kV6 kV7 kV8 kV9 kV10 kV11 kV12 kV13 kV14 kV15 kV16 kV17 kV18 kV19 kV20 kV21 kV22 kV23 kV24 kV25 kV26 kV27 kV28 kV29 kV30 kV31 kV32 kV33:Value}
 {dc0 dc1 dc2 dc3 dc4 dc5 dc6 dc7 dc8 dc9 dc10 dc11 dc12 dc13 dc14 dc15 dc16 dc17 dc18 dc19 dc20 dc21 dc22 dc23 dc24 dc25 dc26 dc27 dc28 dc29 dc30 dc31 dc32 dc33:Value}
 {pm0 pm1 pm2 pm3 pm4 pm5 pm6 pm7 pm8 pm9 pm10 pm11 pm12 pm13 pm14 pm15 pm16 pm17 pm18 pm19 pm20 pm21 pm22 pm23 pm24 pm25 pm26 pm27 pm28 pm29 pm30 pm31 pm32 pm33:Value}
 {cd0 cd1 cd2 cd3 cd4 cd5 cd6 cd7 cd8 cd9 cd10 cd11 cd12 cd13 cd14 cd15 cd16 cd17 cd18 cd19 cd20 cd21 cd22 cd23 cd24 cd25 cd26 cd27 cd28 cd29 cd30 cd31 cd32 cd33:Value}
 {ct0 ct1 ct2 ct3 ct4 ct5 ct6 ct7 ct8 ct9 ct10 ct11 ct12 ct13 ct14 ct15 ct16 ct17 ct18 ct19 ct20 ct21 ct22 ct23 ct24 ct25 ct26 ct27 ct28 ct29 ct30 ct31 ct32 ct33:Value}
 {t0:Tok}
 {t1:Tok}
 {t2:Tok}
 {t3:Tok}
 {t4:Tok}
 {t5:Tok}
 {t6:Tok}
 (a0:ya K "_law_cell_at" f0) (l0:yb K "_law_cell_at" qY f0 oc0 od0 kV0 dc0 pm0 an0 cd0 ct0 sl0) (c0:yc K cd0 "_law_cell_at") (k0:yd K f0)
 (a1:ya K "_law_ship" f1) (l1:yb K "_law_ship" zY f1 oc1 od1 kV1 dc1 pm1 an1 cd1 ct1 sl1) (c1:yc K cd1 "_law_ship") (k1:yd K f1)
 (a2:ya K "_law_fleet" f2) (l2:yb K "_law_fleet" zA f2 oc2 od2 kV2 dc2 pm2 an2 cd2 ct2 sl2) (c2:yc K cd2 "_law_fleet") (k2:yd K f2)
 (a3:ya K "_law_parts" f3) (l3:yb K "_law_parts" j3 f3 oc3 od3 kV3 dc3 pm3 an3 cd3 ct3 sl3) (c3:yc K cd3 "_law_parts") (k3:yd K f3)
 (a4:ya K "_law_rooms" f4) (l4:yb K "_law_rooms" zB f4 oc4 od4 kV4 dc4 pm4 an4 cd4 ct4 sl4) (c4:yc K cd4 "_law_rooms") (k4:yd K f4)
 (a5:ya K "_law_plan" f5) (l5:yb K "_law_plan" zU f5 oc5 od5 kV5 dc5 pm5 an5 cd5 ct5 sl5) (c5:yc K cd5 "_law_plan") (k5:yd K f5)
 (a6:ya K "is_whole" f6) (l6:yb K "is_whole" Js f6 oc6 od6 kV6 dc6 pm6 an6 cd6 ct6 sl6) (c6:yc K cd6 "is_whole") (k6:yd K f6)
 (a7:ya K "is_ship" f7) (l7:yb K "is_ship" zZ f7 oc7 od7 kV7 dc7 pm7 an7 cd7 ct7 sl7) (c7:yc K cd7 "is_ship") (k7:yd K f7)
 (a8:ya K "is_fleet" f8) (l8:yb K "is_fleet" zr f8 oc8 od8 kV8 dc8 pm8 an8 cd8 ct8 sl8) (c8:yc K cd8 "is_fleet") (k8:yd K f8)
 (a9:ya K "must_be_fleet" f9) (l9:yb K "must_be_fleet" qO f9 oc9 od9 kV9 dc9 pm9 an9 cd9 ct9 sl9) (c9:yc K cd9 "must_be_fleet") (k9:yd K f9)
 (a10:ya K "bounds" f10) (l10:yb K "bounds" zK f10 oc10 od10 kV10 dc10 pm10 an10 cd10 ct10 sl10) (c10:yc K cd10 "bounds") (k10:yd K f10)
 (a11:ya K "stretches" f11) (l11:yb K "stretches" zW f11 oc11 od11 kV11 dc11 pm11 an11 cd11 ct11 sl11) (c11:yc K cd11 "stretches") (k11:yd K f11)
 (a12:ya K "length" f12) (l12:yb K "length" Qs f12 oc12 od12 kV12 dc12 pm12 an12 cd12 ct12 sl12) (c12:yc K cd12 "length") (k12:yd K f12)
 (a13:ya K "room" f13) (l13:yb K "room" jaY f13 oc13 od13 kV13 dc13 pm13 an13 cd13 ct13 sl13) (c13:yc K cd13 "room") (k13:yd K f13)
 (a14:ya K "is_share" f14) (l14:yb K "is_share" qU f14 oc14 od14 kV14 dc14 pm14 an14 cd14 ct14 sl14) (c14:yc K cd14 "is_share") (k14:yd K f14)
 (a15:ya K "is_plan" f15) (l15:yb K "is_plan" Ja f15 oc15 od15 kV15 dc15 pm15 an15 cd15 ct15 sl15) (c15:yc K cd15 "is_plan") (k15:yd K f15)
 (a16:ya K "must_be_plan" f16) (l16:yb K "must_be_plan" qX f16 oc16 od16 kV16 dc16 pm16 an16 cd16 ct16 sl16) (c16:yc K cd16 "must_be_plan") (k16:yd K f16)
 (a17:ya K "rooms_of" f17) (l17:yb K "rooms_of" qT f17 oc17 od17 kV17 dc17 pm17 an17 cd17 ct17 sl17) (c17:yc K cd17 "rooms_of") (k17:yd K f17)
 (a18:ya K "lengths_of" f18) (l18:yb K "lengths_of" qS f18 oc18 od18 kV18 dc18 pm18 an18 cd18 ct18 sl18) (c18:yc K cd18 "lengths_of") (k18:yd K f18)
 (a19:ya K "total" f19) (l19:yb K "total" Qe f19 oc19 od19 kV19 dc19 pm19 an19 cd19 ct19 sl19) (c19:yc K cd19 "total") (k19:yd K f19)
 (a20:ya K "mover" f20) (l20:yb K "mover" ZG f20 oc20 od20 kV20 dc20 pm20 an20 cd20 ct20 sl20) (c20:yc K cd20 "mover") (k20:yd K f20)
 (a21:ya K "reach" f21) (l21:yb K "reach" ZH f21 oc21 od21 kV21 dc21 pm21 an21 cd21 ct21 sl21) (c21:yc K cd21 "reach") (k21:yd K f21)
 (a22:ya K "way_to" f22) (l22:yb K "way_to" Qo f22 oc22 od22 kV22 dc22 pm22 an22 cd22 ct22 sl22) (c22:yc K cd22 "way_to") (k22:yd K f22)
 (a23:ya K "chain" f23) (l23:yb K "chain" zm f23 oc23 od23 kV23 dc23 pm23 an23 cd23 ct23 sl23) (c23:yc K cd23 "chain") (k23:yd K f23)
 (a24:ya K "_law_totals" f24) (l24:yb K "_law_totals" qh f24 oc24 od24 kV24 dc24 pm24 an24 cd24 ct24 sl24) (c24:yc K cd24 "_law_totals") (k24:yd K f24)
 (a25:ya K "_law_fewest" f25) (l25:yb K "_law_fewest" zj f25 oc25 od25 kV25 dc25 pm25 an25 cd25 ct25 sl25) (c25:yc K cd25 "_law_fewest") (k25:yd K f25)
 (a26:ya K "_law_most" f26) (l26:yb K "_law_most" zX f26 oc26 od26 kV26 dc26 pm26 an26 cd26 ct26 sl26) (c26:yc K cd26 "_law_most") (k26:yd K f26)
 (a27:ya K "behind" f27) (l27:yb K "behind" Jy f27 oc27 od27 kV27 dc27 pm27 an27 cd27 ct27 sl27) (c27:yc K cd27 "behind") (k27:yd K f27)
 (a28:ya K "moved" f28) (l28:yb K "moved" ZF f28 oc28 od28 kV28 dc28 pm28 an28 cd28 ct28 sl28) (c28:yc K cd28 "moved") (k28:yd K f28)
 (a29:ya K "_law_stairs" f29) (l29:yb K "_law_stairs" jW f29 oc29 od29 kV29 dc29 pm29 an29 cd29 ct29 sl29) (c29:yc K cd29 "_law_stairs") (k29:yd K f29)
 (a30:ya K "_law_rooms_of" f30) (l30:yb K "_law_rooms_of" qk f30 oc30 od30 kV30 dc30 pm30 an30 cd30 ct30 sl30) (c30:yc K cd30 "_law_rooms_of") (k30:yd K f30)
 (a31:ya K "_law_is_chain" f31) (l31:yb K "_law_is_chain" qN f31 oc31 od31 kV31 dc31 pm31 an31 cd31 ct31 sl31) (c31:yc K cd31 "_law_is_chain") (k31:yd K f31)
 (a32:ya K "_law_above" f32) (l32:yb K "_law_above" zD f32 oc32 od32 kV32 dc32 pm32 an32 cd32 ct32 sl32) (c32:yc K cd32 "_law_above") (k32:yd K f32)
 (a33:ya K "law" f33) (l33:yb K "law" ZX f33 oc33 od33 kV33 dc33 pm33 an33 cd33 ct33 sl33) (c33:yc K cd33 "law") (k33:yd K f33)
 (cst0:PySem.W.nsIn K mainGlobals "NEED"=some (some (.int 2 t0)))
 (cst1:PySem.W.nsIn K mainGlobals "MOST"=some (some (.int 3 t1)))
 (cst2:PySem.W.nsIn K mainGlobals "END"=some (some (.int 1 t2)))
 (cst3:PySem.W.nsIn K mainGlobals "BEGIN"=some (some (.int 0 t3)))
 (cst4:PySem.W.nsIn K mainGlobals "TO"=some (some (.int 1 t4)))
 (cst5:PySem.W.nsIn K mainGlobals "FROM"=some (some (.int 0 t5)))
 (cst6:PySem.W.nsIn K mainGlobals "OFF"=some (some (.int 1 t6)))
 (z0:PySem.W.nsIn K mainGlobals "len"=some none)
 (z1:PySem.W.nsIn K mainGlobals "min"=some none)
 (z2:PySem.W.nsIn K mainGlobals "range"=some none)
 (z3:PySem.W.nsIn K mainGlobals "sorted"=some none)
 (z4:PySem.W.nsIn K mainGlobals "isinstance"=some none)
 (z5:PySem.W.nsIn K mainGlobals "bool"=some none)
 (z6:PySem.W.nsIn K mainGlobals "int"=some none)
 (z7:PySem.W.nsIn K mainGlobals "all"=some none)
 (z8:PySem.W.nsIn K mainGlobals "tuple"=some none)
 (z9:PySem.W.nsIn K mainGlobals "list"=some none)
 (z10:PySem.W.nsIn K mainGlobals "set"=some none)
 (z11:PySem.W.nsIn K mainGlobals "zip"=some none)
 (z12:PySem.W.nsIn K mainGlobals "sum"=some none)
 (z13:PySem.W.nsIn K mainGlobals "enumerate"=some none)
 (z14:PySem.W.nsIn K mainGlobals "dict"=some none)
 (z15:PySem.W.nsIn K mainGlobals "reversed"=some none)
 (z16:PySem.W.nsIn K mainGlobals "max"=some none) :
 ∃fd:FuncData,(∀(s:Shared) (v:Value),BindsTo s fd ⟨[v],[]⟩ [("script",v)]) ∧ ∀base:Heap,K.In base → base.Ns mainGlobals mg → FnOk l.prog w K mg base J6 7 fa fd ["script"] (jhr K):=by
 have e:=hfa.symm.trans (Yu X G a33);have e':f33=fa:=by injection (Option.some.inj e) with z;exact z.symm
 subst e';have F0:=jX (st:=qY) l0 c0 k0;have b0:=F0.binds (ps:=["script","k"]) fun _ _ _ _ _ _=>ar2 fun _ _=>rfl;have F1:=jX (st:=zY) l1 c1 k1;have b1:=F1.binds (ps:=["one","two","kind"]) fun _ _ _ _ _ _=>ar3 fun _ _ _=>rfl;have F2:=jX (st:=zA) l2 c2 k2;have b2:=F2.binds (ps:=["script","start"]) fun _ _ _ _ _ _=>ar2 fun _ _=>rfl;have F3:=jX (st:=j3) l3 c3 k3;have b3:=F3.binds (ps:=["fleet"]) fun _ _ _ _ _ _=>ar1 fun _=>rfl;have F4:=jX (st:=zB) l4 c4 k4;have b4:=F4.binds (ps:=["ship","parts"]) fun _ _ _ _ _ _=>ar2 fun _ _=>rfl;have F5:=jX (st:=zU) l5 c5 k5;have b5:=F5.binds (ps:=["fleet","cells"]) fun _ _ _ _ _ _=>ar2 fun _ _=>rfl;have F6:=jX (st:=Js) l6 c6 k6;have b6:=F6.binds (ps:=["thing"]) fun _ _ _ _ _ _=>ar1 fun _=>rfl;have F7:=jX (st:=zZ) l7 c7 k7;have b7:=F7.binds (ps:=["thing"]) fun _ _ _ _ _ _=>ar1 fun _=>rfl;have F8:=jX (st:=zr) l8 c8 k8;have b8:=F8.binds (ps:=["thing"]) fun _ _ _ _ _ _=>ar1 fun _=>rfl;have F9:=jX (st:=qO) l9 c9 k9;have b9:=F9.binds (ps:=["thing"]) fun _ _ _ _ _ _=>ar1 fun _=>rfl;have F10:=jX (st:=zK) l10 c10 k10;have b10:=F10.binds (ps:=["fleet"]) fun _ _ _ _ _ _=>ar1 fun _=>rfl;have F11:=jX (st:=zW) l11 c11 k11;have b11:=F11.binds (ps:=["fleet"]) fun _ _ _ _ _ _=>ar1 fun _=>rfl;have F12:=jX (st:=Qs) l12 c12 k12;have b12:=F12.binds (ps:=["stretch"]) fun _ _ _ _ _ _=>ar1 fun _=>rfl;have F13:=jX (st:=jaY) l13 c13 k13;have b13:=F13.binds (ps:=["ship","stretch"]) fun _ _ _ _ _ _=>ar2 fun _ _=>rfl;have F14:=jX (st:=qU) l14 c14 k14;have b14:=F14.binds (ps:=["ship","spans","thing"]) fun _ _ _ _ _ _=>ar3 fun _ _ _=>rfl;have F15:=jX (st:=Ja) l15 c15 k15;have b15:=F15.binds (ps:=["fleet","thing"]) fun _ _ _ _ _ _=>ar2 fun _ _=>rfl;have F16:=jX (st:=qX) l16 c16 k16;have b16:=F16.binds (ps:=["fleet","thing"]) fun _ _ _ _ _ _=>ar2 fun _ _=>rfl;have F17:=jX (st:=qT) l17 c17 k17;have b17:=F17.binds (ps:=["fleet"]) fun _ _ _ _ _ _=>ar1 fun _=>rfl;have F18:=jX (st:=qS) l18 c18 k18;have b18:=F18.binds (ps:=["fleet"]) fun _ _ _ _ _ _=>ar1 fun _=>rfl;have F19:=jX (st:=Qe) l19 c19 k19;have b19:=F19.binds (ps:=["plan","place"]) fun _ _ _ _ _ _=>ar2 fun _ _=>rfl;have F20:=jX (st:=ZG) l20 c20 k20;have b20:=F20.binds (ps:=["rooms","part","off","on"]) fun _ _ _ _ _ _=>ar4 fun _ _ _ _=>rfl;have F21:=jX (st:=ZH) l21 c21 k21;have b21:=F21.binds (ps:=["rooms","part","begun"]) fun _ _ _ _ _ _=>ar3 fun _ _ _=>rfl;have F22:=jX (st:=Qo) l22 c22 k22;have b22:=F22.binds (ps:=["moves","end"]) fun _ _ _ _ _ _=>ar2 fun _ _=>rfl;have F23:=jX (st:=zm) l23 c23 k23;have b23:=F23.binds (ps:=["fleet","plan"]) fun _ _ _ _ _ _=>ar2 fun _ _=>rfl;have F24:=jX (st:=qh) l24 c24 k24;have b24:=F24.binds (ps:=["parts","plan"]) fun _ _ _ _ _ _=>ar2 fun _ _=>rfl;have F25:=jX (st:=zj) l25 c25 k25;have b25:=F25.binds (ps:=["parts","told","s"]) fun _ _ _ _ _ _=>ar3 fun _ _ _=>rfl;have F26:=jX (st:=zX) l26 c26 k26;have b26:=F26.binds (ps:=["parts","told","s"]) fun _ _ _ _ _ _=>ar3 fun _ _ _=>rfl;have F27:=jX (st:=Jy) l27 c27 k27;have b27:=F27.binds (ps:=["part","way","many"]) fun _ _ _ _ _ _=>ar3 fun _ _ _=>rfl;have F28:=jX (st:=ZF) l28 c28 k28;have b28:=F28.binds (ps:=["fleet","plan","moves"]) fun _ _ _ _ _ _=>ar3 fun _ _ _=>rfl;have F29:=jX (st:=jW) l29 c29 k29;have b29:=F29.binds (ps:=["cell"]) fun _ _ _ _ _ _=>ar1 fun _=>rfl;have F30:=jX (st:=qk) l30 c30 k30;have b30:=F30.binds (ps:=["fleet","parts"]) fun _ _ _ _ _ _=>ar2 fun _ _=>rfl;have F31:=jX (st:=qN) l31 c31 k31;have b31:=F31.binds (ps:=["fleet","parts","plan","moves"]) fun _ _ _ _ _ _=>ar4 fun _ _ _ _=>rfl;have F32:=jX (st:=zD) l32 c32 k32;have b32:=F32.binds (ps:=["parts","plan","k"]) fun _ _ _ _ _ _=>ar3 fun _ _ _=>rfl;have F33:=jX (st:=ZX) l33 c33 k33;have b33:=F33.binds (ps:=["script"]) fun _ _ _ _ _ _=>ar1 fun _=>rfl;have T:Txt K mg ⟨f0,_,f1,_,f2,_,f3,_,f4,_,f5,_,f6,_,f7,_,f8,_,f9,_,f10,_,f11,_,f12,_,f13,_,f14,_,f15,_,f16,_,f17,_,f18,_,f19,_,f20,_,f21,_,f22,_,f23,_,f24,_,f25,_,f26,_,f27,_,f28,_,f29,_,f30,_,f31,_,f32,_,f33,_,t0,t1,t2,t3,t4,t5,t6⟩:=⟨F0,b0,Yu X G a0,F1,b1,Yu X G a1,F2,b2,Yu X G a2,F3,b3,Yu X G a3,F4,b4,Yu X G a4,F5,b5,Yu X G a5,F6,b6,Yu X G a6,F7,b7,Yu X G a7,F8,b8,Yu X G a8,F9,b9,Yu X G a9,F10,b10,Yu X G a10,F11,b11,Yu X G a11,F12,b12,Yu X G a12,F13,b13,Yu X G a13,F14,b14,Yu X G a14,F15,b15,Yu X G a15,F16,b16,Yu X G a16,F17,b17,Yu X G a17,F18,b18,Yu X G a18,F19,b19,Yu X G a19,F20,b20,Yu X G a20,F21,b21,Yu X G a21,F22,b22,Yu X G a22,F23,b23,Yu X G a23,F24,b24,Yu X G a24,F25,b25,Yu X G a25,F26,b26,Yu X G a26,F27,b27,Yu X G a27,F28,b28,Yu X G a28,F29,b29,Yu X G a29,F30,b30,Yu X G a30,F31,b31,Yu X G a31,F32,b32,Yu X G a32,F33,b33,Yu X G a33,Yu X G cst0,Yu X G cst1,Yu X G cst2,Yu X G cst3,Yu X G cst4,Yu X G cst5,Yu X G cst6,YK X G z0,YK X G z1,YK X G z2,YK X G z3,YK X G z4,YK X G z5,YK X G z6,YK X G z7,YK X G z8,YK X G z9,YK X G z10,YK X G z11,YK X G z12,YK X G z13,YK X G z14,YK X G z15,YK X G z16⟩;exact ⟨_,fun s v=>.of_eq rfl,fun base _ _=>jly T⟩
theorem jrp {l:PySem.W.OpenLaw} {q:Program} {loose:List Str} {XP:(Str->Option Value)->Heap->Prop} {YP:World->Heap->Prop} {d:DefRec} {K:Params->PySem.W.Frag} (hn:l.most=some 63) (hdf:d.params.defaults=[])
 (hY:∀(w:World) (h:Heap),YP w h->(K w.params).In h)
 (F:∀(w:World) (mg:Str->Option Value) (fa:Addr) (h:Heap),(K w.params).In h->h.Ns mainGlobals mg->mg d.name=some (.ref fa)->
  ∃fd:FuncData,(∀(s:Shared) (u:Value),BindsTo s fd ⟨[u],[]⟩ [("script",u)]) ∧ ∀base:Heap,(K w.params).In base → base.Ns mainGlobals mg → FnOk l.prog w (K w.params) mg base J6 7 fa fd ["script"] (jhr (K w.params))) :
 PySem.W.WalkO q loose XP YP l.row.toRowW d [] (fun f vs=>PySem.call f vs):=
 L2.jlR (n:=63) (k:=7) (x := "script") (CX:=fun _=>J6) (sp:=fun w=>jhr (K w.params)) hn (by decide) hdf ⟨rfl,by decide,by decide⟩ hY F (fun _ _ a ns hl _ hS=>⟨a,ns,rfl,hS,hl,fun _=>rfl⟩) fun _ _ _ _ _ z=>z
end Q
end
open PySem PySem.W PyProof.Rows
set_option maxRecDepth 100000 in
set_option maxHeartbeats 0 in
theorem PySem.Challenge.cw_evenquay_k52_whole_a_chain_evens_holds : PySem.Challenge.rw_evenquay_k52_whole_a_chain_evens.Holds := by
 w_on;o_law;k_head;(case hw=>w_witness2)
 k_fill
 refine Q.jrp (l:=PySem.Challenge.rw_evenquay_k52_whole_a_chain_evens) rfl rfl (fun w h Y=>PySem.W.kIn_of Y) ?F
 case F=>
  intro w mg fa h KX G hmg
  refine' Q.jnA KX G hmg ?a0 ?l0 ?c0 ?k0 ?a1 ?l1 ?c1 ?k1 ?a2 ?l2 ?c2 ?k2 ?a3 ?l3 ?c3 ?k3 ?a4 ?l4 ?c4 ?k4 ?a5 ?l5 ?c5 ?k5 ?a6 ?l6 ?c6 ?k6 ?a7 ?l7 ?c7 ?k7 ?a8 ?l8 ?c8 ?k8 ?a9 ?l9 ?c9 ?k9 ?a10 ?l10 ?c10 ?k10 ?a11 ?l11 ?c11 ?k11 ?a12 ?l12 ?c12 ?k12 ?a13 ?l13 ?c13 ?k13 ?a14 ?l14 ?c14 ?k14 ?a15 ?l15 ?c15 ?k15 ?a16 ?l16 ?c16 ?k16 ?a17 ?l17 ?c17 ?k17 ?a18 ?l18 ?c18 ?k18 ?a19 ?l19 ?c19 ?k19 ?a20 ?l20 ?c20 ?k20 ?a21 ?l21 ?c21 ?k21 ?a22 ?l22 ?c22 ?k22 ?a23 ?l23 ?c23 ?k23 ?a24 ?l24 ?c24 ?k24 ?a25 ?l25 ?c25 ?k25 ?a26 ?l26 ?c26 ?k26 ?a27 ?l27 ?c27 ?k27 ?a28 ?l28 ?c28 ?k28 ?a29 ?l29 ?c29 ?k29 ?a30 ?l30 ?c30 ?k30 ?a31 ?l31 ?c31 ?k31 ?a32 ?l32 ?c32 ?k32 ?a33 ?l33 ?c33 ?k33 ?cst0 ?cst1 ?cst2 ?cst3 ?cst4 ?cst5 ?cst6 ?z0 ?z1 ?z2 ?z3 ?z4 ?z5 ?z6 ?z7 ?z8 ?z9 ?z10 ?z11 ?z12 ?z13 ?z14 ?z15 ?z16
  any_goals (show _=_;k_is)
