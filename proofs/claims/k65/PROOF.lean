import PyProof.Rows.All
import Wide.All
import OpenK.AllK
import Wide.FinOn
import Lean
import PyProof.EqAt
import PyProof.EqKinds
import PyProof.TupleCall
import PySem.SetOps
import PyProof.ZipIter
import PyProof.CollectWalk
import PyProof.Rows.SetFrom
import PyProof.Rows.SortShell
import KE.KRevIter
import PyProof.MaxThree
import KE.KDictList
import PyProof.Rows.Chain
import PyProof.Rows.CountFlat
import KE.KSortAsk
import KE.KItemsList
import KE.KSortTup
import PyProof.Rows.SortRev
import PyProof.Rows.SortWalk
import PyProof.Rows.CallKwBuiltin
import PyProof.WalkInts
import KE.KMinBuiltin
import PySem.Challenge.RW_evenquay_k65_peaks_made_otherwise
-- CHANGE: your row's module here, as the last of these rows
set_option compiler.extract_closed false
def PySem.W.Fast.tw15718553581087890730:=()
def PySem.W.Fast.tw16974151439367336032:=()
def PySem.W.Fast.tw6597725114636647775:=()
def PySem.W.Fast.tw9548687923209205669:=()
def PySem.W.Fast.tw2636352925942098249:=()
def PySem.W.Fast.tw10025396377803321017:=()
def PySem.W.Fast.tw11294515660239837223:=()
def PySem.W.Fast.tw1462476113364837309:=()
def PySem.W.Fast.tw5925391995424168458:=()
def PySem.W.Fast.tw17652273633459558403:=()
def PySem.W.Fast.tw1834988043870231320:=()
def PySem.W.Fast.tw6254136460951065297:=()
def PySem.W.Fast.tw18415478218785281847:=()
def PySem.W.Fast.tw2971856281016095423:=()
def PySem.W.Fast.tw9215122561609281616:=()
namespace QA
theorem a0 (h:True:=by first | exact .inl rfl | exact .inr rfl | assumption):True:=h
theorem a1 (h:True:=by decide):True:=h
theorem a2 (h:True:=by first | exact nobehind _ (by decide) (by decide) | rfl):True:=h
theorem a3 (h:True:=by intro _;rfl):True:=h
theorem a4 (h:True:=by rfl):True:=h
theorem a5 (h:True:=by intros;rfl):True:=h
theorem a6 (h:True:=by with_unfolding_all rfl):True:=h
theorem a7 (h:True:=by first | exact fun _=>Or.inl rfl | exact fun _=>Or.inr (Or.inl rfl) | exact fun _=>Or.inr (Or.inr rfl)):True:=h
theorem a8 (h:True:=by exact fun _ _=>rfl):True:=h
theorem a9 (h:True:=by first | exact nomark _ | rfl):True:=h
theorem a10 (h:True:=by intro _ _;rfl):True:=h
theorem a11 (h:True:=by exact fun _=>PassesOwn.never):True:=h
theorem a12 (h:True:=by first | exact fun _ _=>rfl | intros;rfl):True:=h
end QA
set_option genInjectivity false
local macro_rules | `(tactic| omega)=>`(tactic| first | lia | omega (config:={}))
set_option Elab.async false
set_option linter.all false
set_option maxRecDepth 100000
noncomputable section
section
open PySem PySem.Spec PySem.W PySem.Calls PyProof.Rows PyProof.V
abbrev Ya:=@wpAny_bind
abbrev Yb:=@List.getElem?_eq_getElem
abbrev Yc:=@List.getD_eq_getElem?_getD
abbrev Yd:=@List.length_map
abbrev Ye:=@List.mem_cons_self
abbrev Yf:=@List.mem_cons_of_mem
abbrev Yg:=@Heap.get?_push_of_some
abbrev Yh:=@Bool.false_ne_true
abbrev Yi:=@wpAny_pure
abbrev Yj:=@List.getElem?_eq_some_iff
abbrev Yk:=@List.mem_cons
abbrev Yl:=@Nat.lt_of_lt_of_le
abbrev Ym:=@Nat.le_refl
abbrev Yn:=@List.mem_singleton
abbrev Yp:=@Nat.ne_of_lt
abbrev Yq:=@PySem.W.mg_of
abbrev Yr:=@Heap.lt_size
abbrev Ys:=@Heap.get?_push_size
abbrev Yt:=@List.mem_append_left
abbrev Yu:=@Option.bind_some
abbrev Yv:=@Int.toNat_natCast
abbrev Yw:=@List.not_mem_nil
abbrev Yx:=@List.length_cons
abbrev Yy:=@Option.map_some
abbrev Yz:=@List.mem_of_getElem?
abbrev YA:=@List.size_toArray
abbrev YB:=@List.pairwise_cons
abbrev YC:=@List.map_map
abbrev YD:=@List.getElem?_append_left
abbrev YE:=@Array.getElem?_eq_getElem
abbrev YF:=@List.mem_append_right
abbrev YG:=@List.length_append
abbrev YH:=@List.getElem?_append_right
abbrev YI:=@List.getElem?_eq_none
abbrev YJ:=@Array.length_toList
abbrev YK:=@Int.mul_le_mul_of_nonneg_left
abbrev YL:=@List.getElem?_cons_zero
abbrev YM:=@PySem.W.mg_none_of
abbrev YN:=@decide_eq_true
abbrev YO:=@List.getElem?_zip_eq_some
abbrev YQ:=@List.mem_append
abbrev YR:=@Int.le_refl
abbrev YS:=@List.lookup_cons
abbrev YT:=@Heap.get?_update_self
abbrev YU:=@decide_eq_false
abbrev YV:=@Int.mul_le_mul_of_nonneg_right
abbrev YW:=@Nat.le_trans
abbrev YX:=@List.mem_map
abbrev YY:=@List.getElem?_set_ne
abbrev YZ:=@Nat.lt_irrefl
abbrev Y0:=@List.getElem?_eq_none_iff
abbrev Y1:=@List.zip_cons_cons
abbrev Y2:=@Bool.false_eq_true
abbrev Y3:=@PyProof.Rows.callWith_type1
abbrev Y4:=@wpAny_holding
abbrev Y5:=@List.getElem?_cons_succ
abbrev Y6:=@Int.le_of_lt
abbrev Y7:=@List.map_append
abbrev Y8:=@Array.getElem?_toList
abbrev Y9:=@List.nodup_cons
abbrev ye:=@Around.under_plainId
abbrev yf:=@Nat.zero_le
abbrev yg:=@wpAny_updateSeq
abbrev yh:=@Nat.lt_or_ge
abbrev yi:=@Heap.size_push
abbrev yj:=@wpAny_setState_of
abbrev yk:=@wpAny_mono
abbrev ym:=@Nat.ne_of_gt
abbrev yn:=@Int.emod_lt_of_pos
abbrev yo:=@List.getElem?_set_self
abbrev yp:=@Heap.get?_update_other
abbrev yq:=@Array.getElem?_eq_none
abbrev yr:=@PySem.W.kia_one
abbrev yt:=@plainId_quiet
abbrev yu:=@List.replicate_succ
abbrev yv:=@List.mem_map_of_mem
abbrev yw:=@PySem.F.slot_dict_get
abbrev yx:=@wpAny_setField_rec
abbrev yy:=@codeAny_builtin
abbrev yz:=@Int.emod_nonneg
abbrev yA:=@Calls.spliced_cons
abbrev yB:=@wpAny_call_entry
abbrev yC:=@Nat.le_add_right
abbrev yD:=@wpAny_truthy_bool
abbrev yE:=@Nat.lt_succ_of_lt
abbrev yF:=@List.map_congr_left
abbrev yG:=@List.getElem?_range
abbrev yH:=@Nat.lt_trans
abbrev yI:=@List.length_nil
abbrev yJ:=@Nat.lt_of_le_of_lt
abbrev yK:=@Nat.lt_succ_self
abbrev yL:=@if_false
abbrev yM:=@wpAny_seqItems
abbrev yN:=@PySem.boot_len
abbrev yO:=@PyProof.Rows.F.plain_set_update_loop
abbrev yP:=@Nat.le_of_lt
abbrev yQ:=@of_decide_eq_true
abbrev yR:=@List.append_assoc
abbrev yS:=@Calls.spliced_nil
abbrev yT:=@wpAny_specialOf
abbrev yU:=@PySem.F.slot_enumerate_iter
abbrev yV:=@List.getElem_of_mem
abbrev yW:=@List.append_nil
abbrev yX:=@Array.getD_eq_getD_getElem?
abbrev yY:=@PySem.F.entry_dict_get
abbrev Ka:=@List.filter_cons
abbrev Kb:=@F.plain_max_loop
abbrev Kc:=@tupleKind_room_in1
abbrev Kd:=@builtinLookup_eq_fast
abbrev Ke:=@PySem.F.plain_extend_loop
abbrev Kf:=@List.pairwise_iff_getElem
abbrev Kg:=@List.drop_eq_getElem_cons
abbrev Kh:=@Int.mul_nonneg
abbrev Ki:=@wpAny_passesOwn
abbrev Kj:=@wpAny_newObj_type
abbrev Kk:=@wpAny_ite_split
abbrev Kl:=@if_true
abbrev Km:=@List.of_mem_zip
abbrev Kn:=@List.length_zip
abbrev Ko:=@List.ext_getElem?
abbrev Kp:=@wpAny_callSpecial?_slot
abbrev Kq:=@beq_eq_false_iff_ne
abbrev Kr:=@PySem.mem_of_lookup
abbrev Ks:=@List.filterMap_cons
abbrev Kt:=@List.length_take
abbrev Ku:=@Calls.callWith_builtin
abbrev Kv:=@wpAny_Call_Name_kw
abbrev Kw:=@List.map_nil
abbrev Kx:=@List.find?_cons
abbrev Ky:=@Int.mul_comm
abbrev Kz:=@List.getElem?_nil
abbrev KA:=@List.flatten_cons
abbrev KB:=@PyProof.Rows.F.entry_set_update_loop
abbrev KC:=@List.tail_cons
abbrev KD:=@or_false
abbrev KF:=@List.length_drop
abbrev KG:=@List.getElem_mem
abbrev KH:=@List.getElem_inj
abbrev KI:=@Bool.and_eq_true
abbrev KJ:=@sizeLine_eq
abbrev KL:=@List.replicate_zero
abbrev KM:=@Int.mul_sub
abbrev KN:=@Array.getElem?_push
abbrev KO:=@Int.zero_mul
abbrev KP:=@Int.zero_add
abbrev KQ:=@Int.sub_zero
abbrev KR:=@Int.le_trans
abbrev KS:=@Int.add_zero
abbrev KU:=@typeLookup_type
abbrev KW:=@PySem.F.plainAttrs_dict
abbrev KY:=@PySem.F.args_dict_get_2
abbrev KZ:=@List.set_cons_zero
abbrev K0:=@List.set_cons_succ
abbrev K1:=@List.mem_filter
abbrev K2:=@wpAny_nextOf_list_item
abbrev K3:=@List.take_of_length_le
abbrev K4:=@List.drop_eq_nil_of_le
abbrev K5:=@Nat.not_lt
abbrev K6:=@List.nodup_append
abbrev K7:=@wpAny_tryCatch
abbrev K8:=@call_meetsIn
abbrev K9:=@Nat.sub_self
abbrev ka:=@Int.mul_zero
abbrev kb:=@Int.le_of_eq
abbrev kc:=@wpAny_isInstance
abbrev kd:=@wpAny_askSetting
abbrev ke:=@beq_self_eq_true
abbrev ki:=@Option.getD_some
abbrev kj:=@List.map_reverse
abbrev kl:=@List.getElem_map
abbrev km:=@List.cons_append
abbrev kn:=@List.mem_of_mem_take
abbrev ko:=@List.mem_of_mem_drop
abbrev kq:=@Calls.evalArgs_plain
abbrev ku:=@boot_sum
abbrev kx:=@Int.mul_assoc
abbrev ky:=@wpAny_rule
abbrev kz:=@wpAny_letGo
abbrev kA:=@wpAny_field
abbrev kB:=@wpAny_execs_nil
abbrev kC:=@pushCells_keeps
abbrev kD:=@Nat.not_lt_zero
abbrev kE:=@Nat.le_succ
abbrev kF:=@List.nil_append
abbrev kG:=@List.length_reverse
abbrev kH:=@F.slot_zip_next
abbrev kJ:=@F.plain_extend_loop
abbrev kK:=@Bool.eq_iff_iff
abbrev kM:=@codeAny_mono
abbrev kN:=@Nat.zero_add
abbrev kO:=@Nat.min_self
abbrev kP:=@Int.lt_trans
abbrev kQ:=@List.mem_range
abbrev kR:=@beq_iff_eq
end
set_option hygiene false
local macro_rules | `(‹"a"›)=>`(fun _=>Or.inl rfl)
local macro_rules | `(‹"b"›)=>`(model X.prog X.w)
local macro_rules | `(‹"c"›)=>`(fun _=>hr.mono (by decide))
local macro_rules | `(‹"d"›)=>`(X.blk (Lc++F) scope C s H fp)
local macro_rules | `(‹"e"›)=>`(.lst (tw.map jh))
local macro_rules | `(‹"f"›)=>`([.sh (.scr ns),.sh (.lst (fl.map jj)),.sh (.int c),.sh (.int h),.sh (.int (i:Int)),.sh (.int a),.un,.un,.un,.un,.un,.un,.un])
local macro_rules | `(‹"g"›)=>`(.lst (tD.map D.int))
local macro_rules | `(‹"h"›)=>`(jm (jm rfl rfl (zr (by decide) (by decide))) rfl (jU (by decide)))
local macro_rules | `(‹"i"›)=>`(fun _=>Or.inr rfl)
local macro_rules | `(‹"j"›)=>`(.lst (tE.map jh))
local macro_rules | `(‹"k"›)=>`(.ListComp elt [⟨tg,iter,ifs,0⟩] scope pos)
local macro_rules | `(‹"l"›)=>`(x == ("__debug__":Str))
local macro_rules | `(‹"m"›)=>`(fun _=>some true)
local macro_rules | `(‹"n"›)=>`(fun _=>show List.Nodup (["begin","end","need","most","along"]:List Str) from by decide +kernel)
local macro_rules | `(‹"o"›)=>`(fun i=>tD.getD i 0)
local macro_rules | `(‹"p"›)=>`(fun _=>show List.Nodup (["begin","end","need","most"]:List Str) from by decide +kernel)
local macro_rules | `(‹"q"›)=>`(.int (jI (need-js (fun j=>if M.getD j false=true then 0 else rs.getD j 0) rs.length)))
local macro_rules | `(‹"r"›)=>`([.sh (jh A),.sh (jh B),.sh (qp M),.ow (((List.range j).map (jv M A B)).map D.int),.sh (.int j),.sh (.bl (M.getD j false)),z])
local macro_rules | `(‹"s"›)=>`(k == NameKind.free && env.scope.kind == .function && env.kindOf n == some .cell)
local macro_rules | `(‹"t"›)=>`(Z2 (qT (ja 6)) (Z2 (qT (jw dLt (ja 8) (jw qt (jw qt (ja 1) (ja 4)) (ja 7)))) (qT (jw (jas true) (ja 7) (ja 3)))))
local macro_rules | `(‹"u"›)=>`(.tup [.int (qW P0 n),.lst (P0.map jh),.lst (M0.map D.bl)])
local macro_rules | `(‹"v"›)=>`(s.heap.update a (Obj.mapSeq fun _=>#[]))
local macro_rules | `(‹"w"›)=>`(j4 I q (by simp))
local macro_rules | `(‹"x"›)=>`(fun s=>tF.getD s 0)
local macro_rules | `(‹"y"›)=>`(pushCells (G.push { cls:=.type "dict",data:=.dict #[] }) scope.names)
local macro_rules | `(‹"z"›)=>`(Nat×Option Nat×Nat)
local macro_rules | `(‹"A"›)=>`(.ListComp e [⟨tg,iter,ifs,0⟩] scope pos)
local macro_rules | `(‹"B"›)=>`(X.fn x=true\/X.env.scope.names.lookup x=some .local)
local macro_rules | `(‹"C"›)=>`(fun _=>show List.Nodup (["ship"]:List Str) from by decide +kernel)
local macro_rules | `(‹"D"›)=>`([.sh (.scr ns),.sh (.lst (fl.map jj)),.sh (.int c),.sh (.int h),.sh (.int (j:Int)),.sh (.int a),.sh (.int s.b),.sh (.int s.e),.sh (.int s.n),.sh (.int s.m),.sh (.int h4),.un,.un])
local macro_rules | `(‹"E"›)=>`(.lst (P.map jh))
local macro_rules | `(‹"F"›)=>`(fun _=>hr.mono (by omega))
local macro_rules | `(‹"G"›)=>`(.dic (kI ks) ds)
local macro_rules | `(‹"H"›)=>`(jP 3 (jw zZ (jw JT (jw zw (jw zZ (ja 0) (eC (.int 1103515245))) (eC (.int 2147483647))) (jw Zb (eC (.int 10)) (eC (.int 9)))) (jw Zb (eC (.int 10)) (eC (.int 5)))))
local macro_rules | `(‹"I"›)=>`(.lst (tH.map D.int))
local macro_rules | `(‹"J"›)=>`(fun s=>tG.getD s false)
local macro_rules | `(‹"K"›)=>`(.Call (.Name x p) (e::es) [] pos)
local macro_rules | `(‹"L"›)=>`(jk QT (jd (jn 0) (jd (jn 1) (jd (jn 6) (jd (jn 7) jo)))))
local macro_rules | `(‹"M"›)=>`([.sh (.int T),.sh (.int l),.sh (.int (T/l)),.sh (.int (T%l)),.ow [j9 (T/l,l-T%l)]])
local macro_rules | `(‹"N"›)=>`(s.heap.push { cls:=.type "range",data:=.fields #[.int lo t,.int hi u,.int 1 v] })
local macro_rules | `(‹"O"›)=>`(.lst (tF.map D.int))
local macro_rules | `(‹"P"›)=>`(s.heap.push { cls:=.type "set",dict:=none,data:=.set #[] 0 (.fresh 0 0 led) })
local macro_rules | `(‹"Q"›)=>`(jm rfl rfl (jU (by decide)))
local macro_rules | `(‹"R"›)=>`(Zq (by rw [M.hN j];exact hN) (hv j) hd hcd)
local macro_rules | `(‹"S"›)=>`(envOfC qual scope s.heap.objs.size f cd)
local macro_rules | `(‹"T"›)=>`(Z2 (qT (jw dGt (jk QX (jd (ja 3) jo)) (eC (.int 1)))) (qT (jw dEq (jw zw (jw Q9 (ja 2) (eC (.int 24))) (eC (.int 4))) (eC (.int 1)))))
local macro_rules | `(‹"U"›)=>`(PySem.W.fnOf x qual (jH st) (jF st) (je st) .none kV doc pm an cdv ct)
local macro_rules | `(‹"V"›)=>`(.Call (.Name "sorted" p1) [.Call (.Attribute o "items" apos) [] [] pos2] [⟨some "reverse",.Constant (.bool true) 0 cp,kp⟩] pos1)
local macro_rules | `(‹"W"›)=>`(∀b o,s.heap.get? b=some o → h'.get? b=some o)
local macro_rules | `(‹"X"›)=>`(s.heap.push { cls:=.type "list",data:=.seq ([]:List Value).toArray })
local macro_rules | `(‹"Y"›)=>`((x1.trans x2).trans x3)
local macro_rules | `(‹"Z"›)=>`(intKind prog w)
local macro_rules | `(‹"0"›)=>`(fun _=>show List.Nodup (["share"]:List Str) from by decide +kernel)
local macro_rules | `(‹"1"›)=>`(fun j=>Z9 f (j8 P j) (zW fl j))
local macro_rules | `(‹"2"›)=>`(∀b o,s.heap.get? b=some o->h'.get? b=some o)
local macro_rules | `(‹"3"›)=>`(ha tu s σ H _ I h)
local macro_rules | `(‹"4"›)=>`(apos.endLine == cpos.line)
local macro_rules | `(‹"5"›)=>`([.sh (.scr ns),.sh (.lst (fl.map jj)),.sh (.int c),.sh (.int h),.sh (.int (i:Int)),.un,.un,.un,.un,.un,.un,.un,.un])
local macro_rules | `(‹"6"›)=>`([.sh (.scr ns),.sh (.int st),.sh (.int c),.ow (fl.map jj),x,y])
local macro_rules | `(‹"7"›)=>`([.sh (.lst (fl.map jj))])
local macro_rules | `(‹"8"›)=>`(M.blk (Lc++Fn) scope)
local macro_rules | `(‹"9"›)=>`(.lst (p.map qk))
local macro_rules | `(‹"aa"›)=>`(wpAny_attempt (Kp (name:=Str.ofString "__next__") hT kH (yB kH hT F.entry_zip_next ?_ (F.args_zip_next_1 _))))
local macro_rules | `(‹"ab"›)=>`(by simpa using hi)
local macro_rules | `(‹"ac"›)=>`(wpAny_attempt (Kp (name:=Str.ofString "__next__") hT slot_setit_next (yB slot_setit_next hT Ql ?_ (Q7 _))))
local macro_rules | `(‹"ad"›)=>`(fun i t=>room i (pl (nt M) m t))
local macro_rules | `(‹"ae"›)=>`(eg (Jn tT (fun _=>rfl) (fun _=>T.tT) yN (jy (jb 0) jL)))
local macro_rules | `(‹"af"›)=>`(SetTable.grown es1.size)
local macro_rules | `(‹"ag"›)=>`(Ju 2 (jM (jA 0) (jM (jA 1) JD)))
local macro_rules | `(‹"ah"›)=>`(((Q.getD i []).map D.int).set s (.int (g (j2 Q i s) v)))
local macro_rules | `(‹"ai"›)=>`(∀a vs G' H',Ext G H G' H'->H a=none->G' a=none->H' a=some (.lst vs)->Reps G' vs ds->Q (.ref a) H')
local macro_rules | `(‹"aj"›)=>`(jX (l:=(fl.drop (j+1)).map jj) (by show some (L2.Qc (fl.map jj) (some ((j:Int)+1)) none)=_;rw [t4]))
local macro_rules | `(‹"ak"›)=>`(A.deeper (envOfC qual (je st) s.heap.objs.size f cdv))
local macro_rules | `(‹"al"›)=>`(by decide +kernel)
local macro_rules | `(‹"am"›)=>`(assignEach es (M.X j).env)
local macro_rules | `(‹"an"›)=>`(.dic (kI ks0) ds0)
local macro_rules | `(‹"ao"›)=>`(qu (h pos tu s σ H _ I hq) fun us s1 ⟨xs,H1,I1,r,z,q⟩=>⟨by rw [<-r.length];exact z,?_⟩)
local macro_rules | `(‹"ap"›)=>`(ih ds (by simpa using hl) fun i v d h1 h2=>hh (i+1) v d (by simpa using h1) (by simpa using h2))
local macro_rules | `(‹"aq"›)=>`(HT.sIx xs.length xs.length hi-HT.sIx xs.length 0 lo)
local macro_rules | `(‹"ar"›)=>`((List.range (min i1.toArray.size i2.toArray.size)).all e && i1.toArray.size == i2.toArray.size)
local macro_rules | `(‹"as"›)=>`(Jn tR (fun _=>rfl) (fun _=>T.tR) ku (jy (jb 0) jL))
local macro_rules | `(‹"at"›)=>`(∃P tG,d=.tup [.int (qW P n),.lst (P.map jh),.lst (tG.map D.bl)]/\Fill n m tD tw tH P0 P tG)
local macro_rules | `(‹"au"›)=>`(jP 4 (jw zc (jw zc (ja 3) (eC (.int 1))) (jw zw (jw Q9 (ja 0) (eC (.int 6))) (eC (.int 5)))))
local macro_rules | `(‹"av"›)=>`(qu (ha pos tu s σ H _ I h) fun us s1 ⟨vs,H1,I1,r1,q1⟩=>hc tu s1 σ H1 vs us Q I1 r1 q1)
local macro_rules | `(‹"aw"›)=>`(jw (jas false) (ja 7) (ja 3))
local macro_rules | `(‹"ax"›)=>`(jX (l:=(fl.take j).map jj) (by show some (L2.Qc (fl.map jj) none (some (j:Int)))=_;rw [t3]))
local macro_rules | `(‹"ay"›)=>`(fun r s'=>r=.ok (.ret (.bool true))/\OldK s₁.heap s'.heap/\s'.os=s₁.os/\AllBare s'.gens)
local macro_rules | `(‹"az"›)=>`(Obj.mapSeq fun _=>(#[]:Array Value))
local macro_rules | `(‹"aA"›)=>`(c ρ=some true/\((∃ρ2 k2,B ρ=.next ρ2/\k2<k/\P k2 ρ2)\/∃d,B ρ=.ret d/\R (.ret d)))
local macro_rules | `(‹"aB"›)=>`(fun b hb=>⟨(hf b hb).2.2.2.1,(hf b hb).2.1,(hf b hb).2.2.2.2.1,(hf b hb).2.2.2.2.2⟩)
local macro_rules | `(‹"aC"›)=>`(W.frame _ _ _ hst1 fun b hb o q=>(yp _ _ (fun z:S=b=>hSf (by rw [z];exact hb))).trans q)
local macro_rules | `(‹"aD"›)=>`(K2 (h1.extBut s1.extBut D.i1z) (hl1.extBut s1.extBut D.l1z) hx fun g2 p2 s2=>Yi (Yi ?_))
local macro_rules | `(‹"aE"›)=>`(jc (WO.toE (Qs (sc:=je jG) (Lc:=["share"]) (Fn:=["marks"]) (ix:=[3]) (fun _=>rfl) (show LcOk (je jG) ["needs","rooms","hours","marks","inside","outside","high","low"] _ ["marks"] [3] from by decide +kernel) (qg (jb 1)) (qy (i:=0) (fun _=>show List.Nodup (["share","marks"]:List Str) from by decide +kernel) rfl (by decide) ‹"a"› ‹"i"›) j6 (WO.toE (qv (fun _=>jbW T) ‹"F"› (fun _=>rfl) (fun _=>T.we) (fun _=>T.vz.kp) (fun _=>T.wj) (jc (jl 0) (jc (jl 1) (jc jc6 jq))))))) (jc (WO.toE (qv (fun _=>jbW T) ‹"F"› (fun _=>rfl) (fun _=>T.we) (fun _=>T.vz.kp) (fun _=>T.wj) (jc (jl 2) (jc (jl 3) (jc jc6 jq))))) jq))
local macro_rules | `(‹"aF"›)=>`(.lst (fl.map jj))
local macro_rules | `(‹"aG"›)=>`(WO.toE (qv (fun _=>QJ T) ‹"c"› (fun _=>rfl) (fun _=>T.uG) (fun _=>T.ui.kp) (fun _=>T.uB) (jc (jl 0) jq)))
local macro_rules | `(‹"aH"›)=>`(jN (fun _=>qr T) ‹"c"› (fun _=>rfl) (fun _=>T.tN) (fun _=>T.tK.kp) (fun _=>T.tM) (jc (jl 0) (jc jt jq)))
local macro_rules | `(‹"aI"›)=>`([.sh ‹"e"›,.sh ‹"j"›,a,.od (kI ks) ds,.ow (nI ks),t,.sh (.int off),.sh (.int on),x8])
local macro_rules | `(‹"aJ"›)=>`(qy (i:=0) ‹"C"› rfl (by decide) ‹"a"› ‹"i"›)
local macro_rules | `(‹"aK"›)=>`([.sh ‹"g"›,.sh ‹"e"›,.sh ‹"O"›,.sh (.int lv),.sh ‹"u"›,.un])
local macro_rules | `(‹"aL"›)=>`([.sh ‹"g"›,.sh ‹"e"›,.sh ‹"O"›,.sh (.int lv),.sh ‹"u"›,.sh (.tup [.int (qW P1 n),.lst (P1.map jh),.lst (M1.map D.bl)])])
local macro_rules | `(‹"aM"›)=>`([.sh ‹"g"›,.sh ‹"e"›,.sh ‹"I"›,.sh ‹"E"›,x4,x5,x6,x7,x8])
local macro_rules | `(‹"aN"›)=>`(qy (i:=0) (fun _=>show List.Nodup (["many","level"]:List Str) from by decide +kernel) rfl (by decide) ‹"a"› ‹"i"›)
local macro_rules | `(‹"aO"›)=>`(fun v s₁=>wpAny ‹"b"› X.A (eval b X.env) (fun u s₂=>wpAny ‹"b"› X.A (f v u) Q X.xe s₂) X.xe s₁)
local macro_rules | `(‹"aP"›)=>`([.sh ‹"G"›,.sh (.int s0),.ow (suf.reverse.map qk),.sh d])
local macro_rules | `(‹"aQ"›)=>`(qy (i:=0) ‹"0"› rfl (by decide) ‹"a"› ‹"i"›)
local macro_rules | `(‹"aR"›)=>`([.sh ‹"g"›,.sh ‹"e"›,.sh ‹"I"›,.sh ‹"E"›,.sh ‹"G"›,.sh (.lst (nI fr)),x6,x7,x8])
local macro_rules | `(‹"aS"›)=>`([.sh ‹"e"›,.sh ‹"j"›,.sh ‹"an"›,.od (kI ks) ds,.ow (nI ks),.sh (.int (t:Int)),x6,x7,x8])
local macro_rules | `(‹"aT"›)=>`(jS (jm (jm rfl rfl jZ) ‹"h"› jZ))
local macro_rules | `(‹"aU"›)=>`(jJ (i:=3) (Jw (eg (zt (jb 0) (eg jt))) (eg jt)) (fun _=>tJ.nd) rfl ‹"a"› ‹"a"›)
namespace L2
open PySem PySem.Spec PyProof.Rows
abbrev zj:=Sum Int Str
def Zx:zj->Value->Bool
 | .inl k,v=>Value.isInt k v
 | .inr x,v=>Value.isStrOf x v
def jrg (w:World):zj->Int
 | .inl k=>hashInt k
 | .inr x=>hashStr w x
theorem jY:∀{k:zj} {v:Value},Zx k v=true->(∃i t,k=Sum.inl i/\v=Value.int i t)\/(∃x t,k=Sum.inr x/\v=Value.str x t)
 | .inl i,v,h=>by obtain ⟨t,e⟩:=Value.isInt_shape (k:=i) (v:=v) h;exact .inl ⟨i,t,rfl,e⟩
 | .inr x,v,h=>by obtain ⟨t,e⟩:=Value.isStrOf_shape (x:=x) (v:=v) h;exact .inr ⟨x,t,rfl,e⟩
theorem jjA (i:Int) (t:Tok):Zx (.inl i) (.int i t)=true:=by simp [Zx,Value.isInt]
theorem jjQ (x:Str) (t:Tok):Zx (.inr x) (.str x t)=true:=by simp [Zx,Value.isStrOf]
theorem jo8 (a b:Int):decide ((Sum.inl a:zj)=Sum.inl b)=(a == b):=by
 by_cases e:a=b
 . subst e;simp
 . have h:¬(Sum.inl a:zj)=Sum.inl b:=fun q=>e (Sum.inl.inj q);rw [YU h];exact (Kq.mpr e).symm
theorem joH (a b:Str):decide ((Sum.inr a:zj)=Sum.inr b)=decide (a=b):=by
 by_cases e:a=b
 . subst e;simp
 . have h:¬(Sum.inr a:zj)=Sum.inr b:=fun q=>e (Sum.inr.inj q);rw [YU h,YU e]
theorem jp2 (a:Int) (b:Str):decide ((Sum.inl a:zj)=Sum.inr b)=false:=YU (fun q=>nomatch q)
theorem joI (a:Str) (b:Int):decide ((Sum.inr a:zj)=Sum.inl b)=false:=YU (fun q=>nomatch q)
def jO (prog:Program) (w:World):PySem.KeyKind prog w zj where
 is:=Zx
 hash:=jrg w
 inj:=fun v a b ha hb=>by
   rcases jY ha with ⟨i,t,rfl,rfl⟩ | ⟨x,t,rfl,rfl⟩
   . rcases jY hb with ⟨j,u,rfl,e⟩ | ⟨y,u,rfl,e⟩
     . injection e with e1 _;rw [e1]
     . exact nomatch e
   . rcases jY hb with ⟨j,u,rfl,e⟩ | ⟨y,u,rfl,e⟩
     . exact nomatch e
     . injection e with e1 _;rw [e1]
 byValue:=fun k v h=>by rcases jY h with ⟨i,t,rfl,rfl⟩ | ⟨x,t,rfl,rfl⟩ <;> rfl
 pyHash:=fun hv h=>by
   rcases jY hv with ⟨i,t,rfl,rfl⟩ | ⟨x,t,rfl,rfl⟩
   . exact wpAny_pyHash_int h
   . exact wpAny_pyHash_str h
 eqBool:=fun hu hv h=>by
   rcases jY hu with ⟨i,t,rfl,rfl⟩ | ⟨x,t,rfl,rfl⟩
   . rcases jY hv with ⟨j,u,rfl,rfl⟩ | ⟨y,u,rfl,rfl⟩
     . rw [jo8] at h;exact wpAny_eqBool_int h
     . rw [jp2] at h;exact SeqAt.EqAt.int_str i t y u _ _ _ _ h
   . rcases jY hv with ⟨j,u,rfl,rfl⟩ | ⟨y,u,rfl,rfl⟩
     . rw [joI] at h;exact SeqAt.EqAt.str_int x t j u _ _ _ _ h
     . rw [joH] at h;exact wpAny_eqBool_str h
 «strs»:=fun k x t v h=>by
   rcases jY h with ⟨i,u,rfl,e⟩ | ⟨y,u,rfl,e⟩
   . exact nomatch e
   . injection e with e1 _;subst e1;cases v <;> rfl
theorem jfI (prog:Program) (w:World) (i:Int) (t:Tok):(jO prog w).is (.inl i) (.int i t)=true:=jjA i t
theorem jfQ (prog:Program) (w:World) (x:Str) (t:Tok):(jO prog w).is (.inr x) (.str x t)=true:=jjQ x t
end L2
namespace L2
open PySem PySem.Spec PyProof.Rows
set_option genInjectivity true in
inductive V where
 | non | bl (b:Bool) | int (i:Int) | str (x:Str) | byt (b:Array UInt8) | flt (b:UInt64) | ref (a:Addr) | ty (n:String)
 deriving DecidableEq
def RelV:V->Value->Prop
 | .non,u=>u=Value.none
 | .bl b,u=>u=Value.bool b
 | .int i,u=>∃t,u=Value.int i t
 | .str x,u=>∃t,u=Value.str x t
 | .byt b,u=>∃t,u=Value.bytes b t
 | .flt b,u=>∃t,u=Value.float b t
 | .ref a,u=>u=Value.ref a
 | .ty n,u=>u=Value.type n
abbrev Vals:List V->List Value->Prop:=Paired RelV
theorem Vals.length {xs:List V} {us:List Value} (r:Vals xs us):xs.length=us.length:=Paired.length r
theorem Vals.get:∀{xs:List V} {us:List Value} {i:Nat} {x:V},Vals xs us->xs[i]?=some x->∃u,us[i]?=some u/\RelV x u
 | _,_,_,_,.nil,e=>by simp at e
 | _,_,0,_,.cons r _,e=>by simp at e;subst e;exact ⟨_,rfl,r⟩
 | _,_,i+1,x,.cons _ t,e=>by obtain ⟨u,h1,h2⟩:=Vals.get (i:=i) (x:=x) t (by simpa using e);exact ⟨u,by simpa using h1,h2⟩
theorem Vals.set {x:V} {u:Value} (r:RelV x u):∀{xs:List V} {us:List Value} (i:Nat),Vals xs us->Vals (xs.set i x) (us.set i u)
 | _,_,_,.nil=>.nil
 | _,_,0,.cons _ t=>.cons r t
 | _,_,i+1,.cons q t=>.cons q (Vals.set r i t)
theorem Vals.append:∀{xs ys:List V} {us ws:List Value},Vals xs us->Vals ys ws->Vals (xs++ys) (us++ws):=fun h s=>by
 induction h with
 | nil=>exact s
 | cons r _ ih=>exact .cons r ih
theorem Vals.take:∀{xs:List V} {us:List Value} (n:Nat),Vals xs us->Vals (xs.take n) (us.take n)
 | _,_,0,_=>.nil
 | _,_,_+1,.nil=>.nil
 | _,_,n+1,.cons r t=>.cons r (Vals.take n t)
theorem Vals.drop:∀{xs:List V} {us:List Value} (n:Nat),Vals xs us->Vals (xs.drop n) (us.drop n)
 | _,_,0,r=>r
 | _,_,_+1,.nil=>.nil
 | _,_,n+1,.cons _ t=>Vals.drop n t
def RelO:Option V->Option Value->Prop
 | some v,some u=>RelV v u
 | none,none=>True
 | _,_=>False
def KV {κ:Type}:List (κ×V)->List (κ×Value)->Prop:=Paired fun (p:κ×V) (q:κ×Value)=>p.1=q.1/\RelV p.2 q.2
def kV:zj->V
 | .inl i=>.int i
 | .inr x=>.str x
set_option genInjectivity true in
inductive HO where
 /-- a list -/
 | lst (xs:List V)
 /-- a tuple (never changes) -/
 | tup (xs:List V)
 /-- a dict whose keys are ints and texts; one whose keys are tuples of ints and texts (the empty one is both) -/
 | dK (kvs:List (zj×V)) | dT (kvs:List (List zj×V))
 /-- a set of ints: its members, its size -/
 | set (S:Int->Bool) (n:Nat)
 /-- an instance of the class at C, its dict at dx, its attributes -/
 | ins (C dx:Addr) (fs:List (Str×V))
 /-- the dict of the instance at x -/
 | own (x:Addr)
 /-- the dict of an exception -/
 | xd (fs:List (Str×V))
 /-- a bound method, f of x -/
 | met (f x:Addr)
 /-- a range object lo, lo + 1, .. below hi -/
 | rng (lo hi:Int)
 /-- a thing that is known to the object (the script; a dict while a loop walks it): read, never written while it is so -/
 | frz (o:Obj) (u:HO)
 /-- a code object's table -/
 | tbl (ps:Array Value)
 /-- any other thing, by what is true of its one object (a def of one's own: SetO a S n := HO.ext fun h => ..) -/
 | ext (φ:Heap->Prop)
abbrev Hp:=Addr->Option HO
def upd (H:Hp) (a:Addr) (o:HO):Hp:=fun b=>if b=a then some o else H b
theorem jB {H:Hp} {a:Addr} {o:HO}:upd H a o a=some o:=by unfold upd;rw [if_pos rfl]
theorem jz {H:Hp} {a b:Addr} {o:HO} (h:b≠a):upd H a o b=H b:=by unfold upd;rw [if_neg h]
theorem jrz {H:Hp} {a b:Addr} {o u:HO} (h:H a=some o) (h':H b=some u) (d:o≠u):a≠b:=by intro e;subst e;rw [h] at h';exact d (Option.some.inj h')
theorem jD {H:Hp} {a b:Addr} {o:HO} (h:H a=some o) (h':H b=none):a≠b:=by intro e;subst e;rw [h] at h';cases h'
section
variable (P:Program) (w:World)
def ObjOk (H:Hp) (h:Heap) (a:Addr):HO->Prop
 | .lst xs=>xs.length ≤ sizeLine ∧ ∃(its:List Value) (n:Nat),Vals xs its ∧ h.get? a=some { cls:=.type "list",data:=.seq its.toArray n }
 | .tup xs=>xs.length<=sizeLine/\∃its:List Value,Vals xs its/\IsTup h a its.toArray
 | .dK kvs=>kvs.length<=sizeLine/\(a == sysModules)=false/\∃vs,KV kvs vs/\h.DictOf (jO P w) a vs
 | .dT kvs=>kvs.length<=sizeLine/\(a == sysModules)=false/\∃xs:List (List zj×Addr×Value),
  Paired (fun (p:List zj×V) (q:List zj×Addr×Value)=>p.1=q.1/\H q.2.1=some (.tup (p.1.map kV))/\RelV p.2 q.2.2) kvs xs /\
  ∃o es ep,h.get? a=some o/\o.ExactDict/\o.data=.dict es ep/\es.toList=xs.map (entryOfKey (tupleKind (jO P w)))/\(xs.map (·.1)).Nodup
 | .set S n=>h.SetOf (intKind P w) a S n
 | .ins C dx fs=>H dx=some (.own a)/\fs.length<=1000/\dx≠a/\h.get? a=some (PySem.W.instObj C dx) /\
  ∃mA,h.Ns1 dx mA/\(∀f,RelO (fs.lookup f) (mA f))/\PySem.Within mA (fs.map (·.1))
 | .own _=>∃o,h.get? a=some o
 | .xd fs=>∃mA,h.Ns1 a mA/\∀f,RelO (fs.lookup f) (mA f)
 | .rng lo hi=>∃t u v,h.get? a=some { cls:=.type "range",data:=.fields #[.int lo t,.int hi u,.int 1 v] }
 | .frz o u=>h.get? a=some o/\ObjOk H h a u
 | .tbl ps=>h.get? a=some { cls:=.none,data:=.fields ps }
 | .met f x=>h.get? a=some (PySem.W.methodObj (.ref f) (.ref x))
 | .ext φ=>φ h/\(∃o,h.get? a=some o)/\∀h1 h2:Heap,φ h1->(∀o,h1.get? a=some o->h2.get? a=some o)->φ h2
def HOk (H:Hp) (h:Heap):Prop:=∀a o,H a=some o->ObjOk P w H h a o
end
section
variable {P:Program} {w:World} {H H':Hp} {h h':Heap} {a:Addr} {o:HO}
theorem ObjOk.lt (x:ObjOk P w H h a o):a<h.objs.size:=by
 cases o with
 | lst xs=>obtain ⟨_,_,_,_,e⟩:=x;exact Yr e
 | tup xs=>obtain ⟨_,_,_,p⟩:=x;exact p.lt
 | dK kvs=>obtain ⟨_,_,_,_,o,_,_,e,_⟩:=x;exact Yr e
 | dT kvs=>obtain ⟨_,_,_,_,o,_,_,e,_⟩:=x;exact Yr e
 | set S n=>obtain ⟨o,_,_,_,e,_⟩:=x;exact Yr e
 | ins C dx fs=>obtain ⟨_,_,_,e,_⟩:=x;exact Yr e
 | own y=>obtain ⟨_,e⟩:=x;exact Yr e
 | xd fs=>obtain ⟨_,⟨_,_,_,e,_⟩,_⟩:=x;exact Yr e
 | rng lo hi=>obtain ⟨_,_,_,e⟩:=x;exact Yr e
 | frz ob u=>obtain ⟨e,_⟩:=x;exact Yr e
 | tbl ps=>exact Yr (show h.get? a=some _ from x)
 | met f y=>exact Yr (show h.get? a=some _ from x)
 | ext φ=>obtain ⟨_,⟨_,e⟩,_⟩:=x;exact Yr e
theorem Paired.mapP {α β:Type} {F G:α->β->Prop}:∀{l₁:List α} {l₂:List β},Paired F l₁ l₂->(∀a b,F a b->G a b)->Paired G l₁ l₂:=fun h f=>by
 induction h with
 | nil=>exact .nil
 | cons r _ ih=>exact .cons (f _ _ r) ih
theorem ObjOk.stay (x:ObjOk P w H h a o) (k:∀b u,(b=a\/H b=some (.own a))->h.get? b=some u->h'.get? b=some u)
 (ho:∀b,H b=some (.own a)->H' b=some (.own a)) (ht:∀b xs,H b=some (.tup xs)->H' b=some (.tup xs)):ObjOk P w H' h' a o:=by
 induction o with
 | lst xs=>obtain ⟨z,its,n,r,e⟩:=x;exact ⟨z,its,n,r,k _ _ (.inl rfl) e⟩
 | tup xs=>obtain ⟨z,its,r,ob,e,c⟩:=x;exact ⟨z,its,r,ob,k _ _ (.inl rfl) e,c⟩
 | dK kvs=>obtain ⟨z,y,vs,r,ob,es,ep,e,c⟩:=x;exact ⟨z,y,vs,r,ob,es,ep,k _ _ (.inl rfl) e,c⟩
 | dT kvs=>obtain ⟨z,y,xs,r,ob,es,ep,e,c⟩:=x;exact ⟨z,y,xs,Paired.mapP r fun p q z=>⟨z.1,ht _ _ z.2.1,z.2.2⟩,ob,es,ep,k _ _ (.inl rfl) e,c⟩
 | set S n=>obtain ⟨ob,es,ep,t,e,c⟩:=x;exact ⟨ob,es,ep,t,k _ _ (.inl rfl) e,c⟩
 | ins C dx fs=>obtain ⟨d,z,ne,e,mA,⟨od,es,ep,e2,c⟩,r⟩:=x;exact ⟨ho _ d,z,ne,k _ _ (.inl rfl) e,mA,⟨od,es,ep,k _ _ (.inr d) e2,c⟩,r⟩
 | own y=>obtain ⟨ob,e⟩:=x;exact ⟨ob,k _ _ (.inl rfl) e⟩
 | xd fs=>obtain ⟨mA,⟨od,es,ep,e,c⟩,r⟩:=x;exact ⟨mA,⟨od,es,ep,k _ _ (.inl rfl) e,c⟩,r⟩
 | rng lo hi=>obtain ⟨t,u,v,e⟩:=x;exact ⟨t,u,v,k _ _ (.inl rfl) e⟩
 | frz ob u ih=>obtain ⟨e,q⟩:=x;exact ⟨k _ _ (.inl rfl) e,ih q⟩
 | tbl ps=>have e:h.get? a=some { cls:=.none,data:=.fields ps }:=x;show h'.get? a=some { cls:=.none,data:=.fields ps };exact k a _ (.inl rfl) e
 | met f y=>have e:h.get? a=some (PySem.W.methodObj (.ref f) (.ref y)):=x;show h'.get? a=some (PySem.W.methodObj (.ref f) (.ref y));exact k a _ (.inl rfl) e
 | ext φ=>obtain ⟨p,⟨o,e⟩,st⟩:=x;exact ⟨st _ _ p fun o q=>k _ _ (.inl rfl) q,⟨o,k _ _ (.inl rfl) e⟩,st⟩
theorem HOk.lt (x:HOk P w H h) (e:H a=some o):a<h.objs.size:=(x a o e).lt
theorem HOk.fresh (x:HOk P w H h) (e:h.objs.size<=a):H a=none:=by
 cases q:H a with
 | none=>rfl
 | some u=>exact absurd (Yl (x.lt q) e) (YZ _)
theorem HOk.kept (x:HOk P w H h) (k:∀b u,h.get? b=some u->h'.get? b=some u):HOk P w H h':=fun a o e=>(x a o e).stay (fun b u _ q=>k b u q) (fun _ q=>q) fun _ _ q=>q
theorem HOk.laid (x:HOk P w H h) (k:∀b u,h.get? b=some u->h'.get? b=some u) (hp:h.objs.size<=a) (new:ObjOk P w (upd H a o) h' a o):HOk P w (upd H a o) h':=fun b u e=>by
 have hn:=x.fresh hp;by_cases hb:b=a
 . subst hb;rw [jB] at e;cases e;exact new
 . rw [jz hb] at e;exact (x b u e).stay (fun c v _ q=>k c v q) (fun c q=>by rw [jz (jD q hn)];exact q) fun c xs q=>by rw [jz (jD q hn)];exact q
end
def Rd (H:Hp) (a:Addr) (u:HO):Prop:=H a=some u\/∃o,H a=some (.frz o u)
theorem Rd.ok {P:Program} {w:World} {H:Hp} {h:Heap} {a:Addr} {u:HO} (r:Rd H a u) (x:HOk P w H h):ObjOk P w H h a u:=by
 rcases r with r | ⟨o,r⟩
 . exact x a u r
 . obtain ⟨_,q⟩:=x a _ r;exact q
def Mut:Option HO->Prop
 | some (.lst _)=>True
 | some (.dK _)=>True
 | some (.dT _)=>True
 | some (.set _ _)=>True
 | some (.ins _ _ _)=>True
 | some (.ext _)=>True
 | _=>False
section
variable {P:Program} {w:World} {H:Hp} {h h':Heap} {x e:Addr} {o':HO}
theorem HOk.write (ok:HOk P w H h) (mu:Mut (H x)) (he:e=x\/H e=some (.own x)) (k:∀b u,b≠e->h.get? b=some u->h'.get? b=some u) (heo:∃u,h'.get? e=some u)
 (new:ObjOk P w (upd H x o') h' x o'):HOk P w (upd H x o') h':=fun b u q=>by
 have nown:∀c y,H c=some (.own y)->c≠x:=fun c y r z=>by subst z;rw [r] at mu;exact mu
 have ntup:∀c xs,H c=some (.tup xs)->c≠x:=fun c xs r z=>by subst z;rw [r] at mu;exact mu
 by_cases hb:b=x
 . subst hb;rw [jB] at q;cases q;exact new
 . rw [jz hb] at q;by_cases hbe:b=e
   . have q':H b=some (.own x):=by
       rcases he with z | z
       . exact absurd (hbe.trans z) hb
       . rw [hbe];exact z
     rw [q] at q';cases q';obtain ⟨v,hv⟩:=heo;exact ⟨v,by rw [hbe];exact hv⟩
   . refine (ok b u q).stay (fun c v hc r=>k c v ?_ r) (fun c r=>by rw [jz (nown c b r)];exact r) fun c xs r=>by rw [jz (ntup c xs r)];exact r
     rcases hc with rfl | hc
     . exact hbe
     . rintro rfl;rcases he with z | z
       . exact nown c b hc z
       . rw [hc] at z;cases z;exact hb rfl
end
structure Un (fs ex:List Addr) (H H':Hp) (h h':Heap):Prop where
 keep:∀b o,h.get? b=some o->H b=none->b∉fs->b∉ex->h'.get? b=some o
 slot:∀b o,h.get? b=some o->H b=none->b∈fs->b∉ex->∃sl,h'.get? b=some { o with slots:=sl }
 free:∀b o,h.get? b=some o->H b=none->b∉ex->H' b=none
 there:∀b o,h.get? b=some o->b∉ex->∃o',h'.get? b=some o'
 tups:∀b xs,H b=some (.tup xs)->H' b=some (.tup xs)
 frzs:∀b o u,H b=some (.frz o u)->H' b=some (.frz o u)
 tbls:∀b ps,H b=some (.tbl ps)->∃more,H' b=some (.tbl (ps++more))
section
variable {fs fs' ex ex':List Addr} {H H1 H2:Hp} {h h1 h2 h':Heap} {a x e:Addr} {o:HO}
theorem Un.any (u:Un fs ex H H1 h h1) {b:Addr} {ob:Obj} (q:h.get? b=some ob) (n:H b=none) (hx:b∉ex):∃sl,h1.get? b=some { ob with slots:=sl }:=by
 by_cases hb:b∈fs
 . exact u.slot b ob q n hb hx
 . exact ⟨ob.slots,u.keep b ob q n hb hx⟩
theorem Un.trans (a:Un fs ex H H1 h h1) (b:Un fs ex H1 H2 h1 h2):Un fs ex H H2 h h2 where
 keep:=fun c ob q n hc hx=>b.keep c ob (a.keep c ob q n hc hx) (a.free c ob q n hx) hc hx
 slot:=fun c ob q n hc hx=>by obtain ⟨sl,e1⟩:=a.slot c ob q n hc hx;obtain ⟨sl',e2⟩:=b.slot c _ e1 (a.free c ob q n hx) hc hx;exact ⟨sl',e2⟩
 free:=fun c ob q n hx=>by obtain ⟨o',e1⟩:=a.there c ob q hx;exact b.free c o' e1 (a.free c ob q n hx) hx
 there:=fun c ob q hx=>by obtain ⟨o',e1⟩:=a.there c ob q hx;exact b.there c o' e1 hx
 tups:=fun c xs q=>b.tups c xs (a.tups c xs q)
 frzs:=fun c ob xs q=>b.frzs c ob xs (a.frzs c ob xs q)
 tbls:=fun c ps q=>by obtain ⟨m1,e1⟩:=a.tbls c ps q;obtain ⟨m2,e2⟩:=b.tbls c _ e1;exact ⟨m1++m2,by rw [e2,Array.append_assoc]⟩
theorem Un.kept (k:∀b u,h.get? b=some u->h'.get? b=some u):Un fs ex H H h h':=⟨fun b ob q _ _ _=>k b ob q,fun b ob q _ _ _=>⟨ob.slots,k b ob q⟩,fun _ _ _ n _=>n,fun b ob q _=>⟨ob,k b ob q⟩,fun _ _ q=>q,fun _ _ _ q=>q,fun _ ps q=>⟨#[],by rw [q];simp⟩⟩
theorem Un.refl:Un fs ex H H h h:=Un.kept fun _ _ q=>q
theorem Un.laid (k:∀b u,h.get? b=some u->h'.get? b=some u) (hp:h.objs.size<=a) (hn:H a=none):Un fs ex H (upd H a o) h h' where
 keep:=fun b u q _ _ _=>k b u q
 slot:=fun b u q _ _ _=>⟨u.slots,k b u q⟩
 free:=fun b u q n _=>by rw [jz (Yp (Yl (Yr q) hp))];exact n
 there:=fun b u q _=>⟨u,k b u q⟩
 tups:=fun b xs q=>by rw [jz (jD q hn)];exact q
 frzs:=fun b u xs q=>by rw [jz (jD q hn)];exact q
 tbls:=fun b ps q=>⟨#[],by rw [jz (jD q hn),q];simp⟩
theorem Un.write (mu:Mut (H x)) (he:e=x\/H e=some (.own x)) (k:∀b u,b≠e->h.get? b=some u->h'.get? b=some u) (heo:∃u,h'.get? e=some u):Un fs ex H (upd H x o) h h':=by
 have hx:∀b,H b=none->b≠x:=fun b n z=>by subst z;rw [n] at mu;exact mu
 have hb:∀b,H b=none->b≠e:=fun b n z=>by
  subst z;rcases he with r | r
  . exact hx b n r
  . rw [n] at r;cases r
 have hm:∀b u,H b=some u->¬Mut (some u)->b≠x:=fun b u q nm z=>by subst z;rw [q] at mu;exact nm mu
 refine ⟨fun b u q n _ _=>k b u (hb b n) q,fun b u q n _ _=>⟨u.slots,k b u (hb b n) q⟩,fun b u q n _=>by rw [jz (hx b n)];exact n,fun b u q _=>?_,
  fun b xs q=>by rw [jz (hm b _ q fun z=>z)];exact q,fun b u xs q=>by rw [jz (hm b _ q fun z=>z)];exact q,fun b ps q=>⟨#[],by rw [jz (hm b _ q fun z=>z),q];simp⟩⟩
 by_cases hbe:b=e
 . subst hbe;exact heo
 . exact ⟨u,k b u hbe q⟩
theorem Un.mono (u:Un fs ex H H1 h h1) (hs:∀b∈fs,b∈fs') (hx:∀b∈ex,b∈ex'):Un fs' ex' H H1 h h1:=⟨fun b ob q n hb he=>u.keep b ob q n (fun z=>hb (hs b z)) fun z=>he (hx b z),fun _ _ q n _ he=>u.any q n fun z=>he (hx _ z),fun b ob q n he=>u.free b ob q n fun z=>he (hx b z),fun b ob q he=>u.there b ob q fun z=>he (hx b z),u.tups,u.frzs,u.tbls⟩
end
def trk (h:Heap) (H:Hp):List Addr:=(List.range h.objs.size).filter fun a=>(H a).isSome
def jet (h:Heap) (H:Hp):Heap:=PySem.W.hideAll h (trk h H)
theorem jjc (h:Heap) (H:Hp):(jet h H).objs.size=h.objs.size:=PySem.W.hideAll_size _ _
theorem jlG {h:Heap} {H:Hp} {b:Addr} {o:Obj} (e:h.get? b=some o) (n:H b=none):(jet h H).get? b=some o:=
 PySem.W.hideAll_get _ e fun hm=>by have q:(H b).isSome=true:=(K1.mp hm).2;rw [n] at q;simp at q
theorem jno {h:Heap} {H:Hp} {b:Addr} {o:Obj} (e:(jet h H).get? b=some o):h.get? b=some o/\H b=none:=by
 have e':h.get? b=some o:=PySem.W.of_hideAll (trk h H) e;refine ⟨e',?_⟩;cases q:H b with
 | none=>rfl
 | some x=>have hm:b∈trk h H:=K1.mpr ⟨kQ.mpr (Yr e'),by simp [q]⟩;have z:(jet h H).get? b=none:=PySem.W.hideAll_none (trk h H) hm;rw [z] at e;cases e
def jnw (g h:Heap) (L:Addr):List (Addr×Obj):=(List.range h.objs.size).filterMap fun a=>if a=L\/(g.get? a).isSome=true then none else (h.get? a).map fun o=>(a,o)
def rest (g h:Heap) (L d:Addr):List (Addr×Obj):=(jnw g h L).filter fun p=>decide (p.1≠d)
end L2
namespace L2
open PySem PySem.Spec PyProof.Rows
structure Mod (K:PySem.W.Frag) (mg:Str->Option Value) (base:Heap):Prop where
 kin:K.In base
 glob:base.Ns mainGlobals mg
 blt:∃mb,base.Ns builtinsNs mb ∧ ∀x:Str,x ≠ "__name__" → mb x=bootBuiltins x
 nolimit:base.NoLimit
/-- the context: a def's body (or a comprehension's block) running. base: fixed through the whole law; s₀, H₀: the entry; outer: the frames whose slots others may change (a def's callers); stack: all frames that run;
 ex: iterators that were made ahead of the entry and are walked here (a comprehension's);fn: the names whose cells were made at the entry (a def: all;a comprehension's block: its own);calm: not within an except suite;pn: tu that every state bears;xe: what is wanted of an exception that leaves the code -/
structure Cx where
 prog:Program
 w:World
 K:PySem.W.Frag
 mg:Str->Option Value
 base:Heap
 A:Around
 N:List Str
 s₀:Shared
 H₀:Hp
 env:Env
 outer:List Env
 stack:List Env
 ex:List Addr
 fn:Str->Bool
 calm:Bool
 pn:List (Addr×Obj)
 xe:Value->Shared->Prop
def frs (l:List Env):List Addr:=l.filterMap (·.frame)
abbrev Cx.fs (X:Cx):List Addr:=frs X.outer
def Vis (sc:Scope) (x:Str):Prop:=sc.names.lookup x=some .local\/sc.names.lookup x=some .cell\/sc.names.lookup x=some .free
def Loc (sc:Scope) (x:Str):Prop:=sc.names.lookup x=some .local\/sc.names.lookup x=some .cell
def jsW (env:Env) (h:Heap) (m:Str->Option Value) (x:Str) (u:Value):Prop:=(env.kindOf x=some .local/\m x=some u)\/((env.kindOf x=some .cell\/env.kindOf x=some .free)/\∃c,env.cells.lookup x=some c/\h.IsCell c (some u))
structure Cx.Ok (X:Cx):Prop where
 mod:Mod X.K X.mg X.base
 kind:X.env.scope.kind=.function
 glob:X.env.globals=mainGlobals
 blt:X.env.builtins=builtinsNs
 above:X.s₀.heap.objs.size<=X.env.locals
 inj:∀x y c,X.env.cells.lookup x=some c->X.env.cells.lookup y=some c->x=y
 has:∀x,(X.env.kindOf x=some .cell\/X.env.kindOf x=some .free)->∃c,X.env.cells.lookup x=some c
 cab:∀x c,X.fn x=true->X.env.cells.lookup x=some c->X.s₀.heap.objs.size<=c
 hd:X.calm=true->X.A.handled=none
 frames:X.A.frames=some X.stack
 stk:X.stack=X.outer\/(X.stack=X.env::X.outer/\X.env.frame=some X.env.locals)
 exf:∀b∈X.ex,b≠X.env.locals/\∀x c,X.env.cells.lookup x=some c->c≠b
 bs:∀b o,X.base.get? b=some o->X.s₀.heap.get? b=some o/\X.H₀ b=none
 bsz:X.base.objs.size<=X.s₀.heap.objs.size
 noex:∀b o,X.base.get? b=some o->b∉X.ex
 exfs:∀b∈X.ex,b∉X.fs
 funs:X.s₀.heap.FunFrames X.base X.outer
 frf:∀b∈X.fs,X.H₀ b=none
structure Inv (X:Cx) (tu:List (Addr×Obj)) (σ:List (Option V)) (H:Hp) (s:Shared):Prop where
 ok:X.Ok
 os:s.os=X.s₀.os
 bare:AllBare s.gens
 base:Un X.fs X.ex X.H₀ H X.s₀.heap s.heap
 loc:∃m,s.heap.Ns X.env.locals m/\∀(i:Nat) (x:Str) (v:V),X.N[i]?=some x->σ[i]?=some (some v)->Vis X.env.scope x->∃u,RelV v u/\jsW X.env s.heap m x u
 cell:∀x c,X.env.cells.lookup x=some c->∃v,s.heap.IsCell c v
 free:H X.env.locals=none
 freeC:∀x c,X.env.cells.lookup x=some c->H c=none
 pin:∀p∈X.pn++tu,s.heap.get? p.1=some p.2/\H p.1=none/\p.1≠X.env.locals/\p.1∉X.fs/\∀v,p.2.data≠.cell v
 hok:HOk X.prog X.w H s.heap
 len:σ.length=X.N.length
section
variable {X:Cx} {tu:List (Addr×Obj)} {σ:List (Option V)} {H H':Hp} {s:Shared} {h':Heap}
theorem Cx.Ok.nofr (ok:X.Ok) {b:Addr} {o:Obj} (e:X.base.get? b=some o):b∉X.fs:=fun hb=>by have:=(ok.funs.mem hb).1;rw [e] at this;cases this
theorem Inv.bs (I:Inv X tu σ H s):∀b o,X.base.get? b=some o->s.heap.get? b=some o/\H b=none:=fun b o e=>⟨I.base.keep b o (I.ok.bs b o e).1 (I.ok.bs b o e).2 (I.ok.nofr e) (I.ok.noex b o e),I.base.free b o (I.ok.bs b o e).1 (I.ok.bs b o e).2 (I.ok.noex b o e)⟩
theorem Inv.bk (I:Inv X tu σ H s):∀b o,X.base.get? b=some o->s.heap.get? b=some o:=fun b o e=>(I.bs b o e).1
theorem Inv.mod (I:Inv X tu σ H s):Mod X.K X.mg X.base:=I.ok.mod
theorem Inv.kIn (I:Inv X tu σ H s):X.K.In s.heap:=I.ok.mod.kin.keeps I.bk
theorem Inv.fr (I:Inv X tu σ H s):∃m,Fr X.base X.env.locals s.heap m:=
 let ⟨m,hn,_⟩:=I.loc
 ⟨m,hn,I.bk,YW I.ok.bsz I.ok.above⟩
theorem Inv.lt (I:Inv X tu σ H s):X.env.locals<s.heap.objs.size:=let ⟨_,hn,_⟩:=I.loc;hn.lt
theorem Inv.sz (I:Inv X tu σ H s):X.s₀.heap.objs.size<=s.heap.objs.size:=YW I.ok.above (yP I.lt)
theorem Inv.nofs (I:Inv X tu σ H s) {a:Addr} (h:s.heap.objs.size<=a):a∉X.fs:=fun hb=>by obtain ⟨_,o,ho,_⟩:=I.ok.funs.mem hb;exact absurd (Yl (Yr ho) (YW I.sz h)) (YZ _)
theorem Inv.cne (I:Inv X tu σ H s):∀x c,X.env.cells.lookup x=some c->c≠X.env.locals:=fun x c e z=>by obtain ⟨v,o,ho,hd⟩:=I.cell x c e;obtain ⟨m,⟨o',es,ep,ho',hd',_⟩,_⟩:=I.loc;rw [z,ho'] at ho;cases ho;rw [hd'] at hd;cases hd
theorem Inv.funs (I:Inv X tu σ H s):s.heap.FunFrames X.base X.outer:=by
 have all:∀(l:List Env),(∀b∈frs l,b∈X.fs)->X.s₀.heap.FunFrames X.base l->s.heap.FunFrames X.base l:=by
  intro l;induction l with
  | nil=>intro _ _;trivial
  | cons env r ih=>intro hs hl;obtain ⟨hk,⟨L,o,hf,hn,ho,hd⟩,hr⟩:=hl;have hL:L∈X.fs:=hs L (by unfold frs;rw [Ks,hf];exact Ye);obtain ⟨sl,e⟩:=I.base.slot L o ho (I.ok.frf L hL) hL fun z=>I.ok.exfs L z hL;exact ⟨hk,⟨L,_,hf,hn,e,hd⟩,ih (fun b hb=>hs b (by unfold frs;rw [Ks,hf];exact Yf _ hb)) hr⟩
 exact all X.outer (fun _ hb=>hb) I.ok.funs
theorem Inv.stack (I:Inv X tu σ H s):s.heap.FunFrames X.base X.stack:=by
 rcases I.ok.stk with e | ⟨e,hf⟩
 . rw [e];exact I.funs
 . rw [e];obtain ⟨m,hn,_⟩:=I.loc;refine .cons (by rw [I.ok.kind];decide) hf hn ?_ I.funs;exact Heap.get?_none_of_le (YW I.ok.bsz I.ok.above)
theorem Inv.stkSub (I:Inv X tu σ H s):∀b∈frs X.stack,b∈X.env.locals::X.fs:=fun b hb=>by
 rcases I.ok.stk with e | ⟨e,hf⟩
 . rw [e] at hb;exact Yf _ hb
 . rw [e] at hb;unfold frs at hb;rw [Ks,hf] at hb;exact hb
theorem Inv.stkFree (I:Inv X tu σ H s):∀b∈frs X.stack,H b=none:=fun b hb=>by
 rcases Yk.mp (I.stkSub b hb) with e | hb
 . rw [e];exact I.free
 . obtain ⟨_,o,ho,_⟩:=I.ok.funs.mem hb;exact I.base.free b o ho (I.ok.frf b hb) fun z=>I.ok.exfs b z hb
theorem Inv.step {g':Array GenState} {t':Nat} {d':Drawn} {ch:List Addr} (I:Inv X tu σ H s)
 (hch:∀b∈ch,(b∈X.ex\/X.s₀.heap.objs.size<=b)/\b≠X.env.locals/\(∀x c,X.env.cells.lookup x=some c->c≠b)/\∀p∈X.pn++tu,p.1≠b)
 (keep:∀b o,b≠X.env.locals->b∉X.fs->b∉ch->s.heap.get? b=some o->H b=none->h'.get? b=some o)
 (slot:∀b o,b≠X.env.locals->b∈X.fs->b∉ch->s.heap.get? b=some o->H b=none->∃sl,h'.get? b=some { o with slots:=sl }) (free:∀b o,b∉ch->s.heap.get? b=some o->H b=none->H' b=none)
 (there:∀b o,b∉ch->s.heap.get? b=some o->∃o',h'.get? b=some o')
 (tups:∀b xs,H b=some (.tup xs)->H' b=some (.tup xs)) (frzs:∀b o u,H b=some (.frz o u)->H' b=some (.frz o u)) (tbls:∀b ps,H b=some (.tbl ps)->∃more,H' b=some (.tbl (ps++more)))
 (ns:∀m,s.heap.Ns X.env.locals m->h'.Ns X.env.locals m) (hok:HOk X.prog X.w H' h') (hg:AllBare g') :
 Inv X tu σ H' { s with heap:=h',gens:=g',drawn:=d',toks:=t' }:=by
 have neL:∀b o,X.s₀.heap.get? b=some o->b≠X.env.locals:=fun b o e=>Yp (Yl (Yr e) I.ok.above);have neC:∀b o,X.s₀.heap.get? b=some o->b∉X.ex->b∉ch:=fun b o e hx hb=>by
  rcases (hch b hb).1 with z | z
  . exact hx z
  . exact absurd (Yl (Yr e) z) (YZ _)
 have cellK:∀x c,X.env.cells.lookup x=some c->∀v,s.heap.IsCell c v->h'.IsCell c v:=fun x c e v ⟨o,ho,hd⟩=>by
  have nch:c∉ch:=fun z=>(hch c z).2.2.1 x c e rfl;by_cases hc:c∈X.fs
  . obtain ⟨sl,q⟩:=slot c o (I.cne x c e) hc nch ho (I.freeC x c e);exact ⟨_,q,hd⟩
  . exact ⟨o,keep c o (I.cne x c e) hc nch ho (I.freeC x c e),hd⟩
 refine ⟨I.ok,I.os,hg,⟨fun b o e n hb hx=>?_,fun b o e n hb hx=>?_,fun b o e n hx=>?_,fun b o e hx=>?_,fun b xs e=>tups b xs (I.base.tups b xs e),fun b o xs e=>frzs b o xs (I.base.frzs b o xs e),fun b ps e=>?_⟩,?_,fun x c e=>?_,?_,fun x c e=>?_,fun p hp=>?_,hok,I.len⟩
 . exact keep b o (neL b o e) hb (neC b o e hx) (I.base.keep b o e n hb hx) (I.base.free b o e n hx)
 . obtain ⟨sl,e1⟩:=I.base.slot b o e n hb hx;obtain ⟨sl',e2⟩:=slot b _ (neL b o e) hb (neC b o e hx) e1 (I.base.free b o e n hx);exact ⟨sl',e2⟩
 . obtain ⟨o',e1⟩:=I.base.there b o e hx;exact free b o' (neC b o e hx) e1 (I.base.free b o e n hx)
 . obtain ⟨o',e1⟩:=I.base.there b o e hx;exact there b o' (neC b o e hx) e1
 . obtain ⟨m1,e1⟩:=I.base.tbls b ps e;obtain ⟨m2,e2⟩:=tbls b _ e1;exact ⟨m1++m2,by rw [e2,Array.append_assoc]⟩
 . obtain ⟨m,hn,hl⟩:=I.loc;refine ⟨m,ns m hn,fun i x v e1 e2 e3=>?_⟩;obtain ⟨u,r,l⟩:=hl i x v e1 e2 e3;refine ⟨u,r,?_⟩;rcases l with l | ⟨k,c,e,z⟩
   . exact .inl l
   . exact .inr ⟨k,c,e,cellK x c e _ z⟩
 . obtain ⟨v,z⟩:=I.cell x c e;exact ⟨v,cellK x c e v z⟩
 . obtain ⟨m,⟨o,_,_,ho,_⟩,_⟩:=I.loc;exact free _ o (fun z=>(hch _ z).2.1 rfl) ho I.free
 . obtain ⟨v,o,ho,hd⟩:=I.cell x c e;exact free c o (fun z=>(hch c z).2.2.1 x c e rfl) ho (I.freeC x c e)
 . obtain ⟨e,n,ne,nf,d⟩:=I.pin p hp;have nch:p.1∉ch:=fun z=>(hch p.1 z).2.2.2 p hp rfl;exact ⟨keep p.1 p.2 ne nf nch e n,free p.1 p.2 nch e n,ne,nf,d⟩
theorem Inv.un {t':Nat} (I:Inv X tu σ H s) (u:Un X.fs [] H H' s.heap h') (hok:HOk X.prog X.w H' h'):Inv X tu σ H' { s with heap:=h',toks:=t' }:=by
 obtain ⟨m,⟨o,es,ep,ho,r⟩,_⟩:=id I.loc;obtain ⟨sl,hL⟩:=u.any ho I.free (by simp);exact I.step (g':=s.gens) (d':=s.drawn) (ch:=[]) (fun _ z=>nomatch z) (fun b o _ hb _ e n=>u.keep b o e n hb (by simp)) (fun b o _ hb _ e n=>u.slot b o e n hb (by simp)) (fun b o _ e n=>u.free b o e n (by simp)) (fun b o _ e=>u.there b o e (by simp)) u.tups u.frzs u.tbls (fun m' hm=>by obtain ⟨o',es',ep',ho',r'⟩:=hm;rw [ho] at ho';cases ho';exact ⟨_,es',ep',hL,r'⟩) hok I.bare
theorem Inv.call {g':Array GenState} {t':Nat} {d':Drawn} {ch:List Addr} (I:Inv X tu σ H s) (u:Un (frs X.stack) ch H H' s.heap h') (hok:HOk X.prog X.w H' h') (hg:AllBare g')
 (hch:∀b∈ch,(b∈X.ex\/X.s₀.heap.objs.size<=b)/\b≠X.env.locals/\(∀x c,X.env.cells.lookup x=some c->c≠b)/\∀p∈X.pn++tu,p.1≠b) :
 Inv X tu σ H' { s with heap:=h',gens:=g',drawn:=d',toks:=t' }:=by
 obtain ⟨m,⟨o,es,ep,ho,r⟩,_⟩:=id I.loc;obtain ⟨sl,hL⟩:=u.any ho I.free fun z=>(hch _ z).2.1 rfl;exact I.step (ch:=ch) hch (fun b o hL hb hc e n=>u.keep b o e n (fun z=>(Yk.mp (I.stkSub b z)).elim hL hb) hc) (fun b o _ _ hc e n=>u.any e n hc) (fun b o hc e n=>u.free b o e n hc) (fun b o hc e=>u.there b o e hc) u.tups u.frzs u.tbls (fun m' hm=>by obtain ⟨o',es',ep',ho',r'⟩:=hm;rw [ho] at ho';cases ho';exact ⟨_,es',ep',hL,r'⟩) hok hg
theorem Inv.turned {t':Nat} {it:Addr} (I:Inv X tu σ H s) (k:∀b o,b≠it->s.heap.get? b=some o->h'.get? b=some o) (hn:H it=none) (hL:it≠X.env.locals)
 (h1:it∈X.ex\/X.s₀.heap.objs.size<=it) (h2:∀x c,X.env.cells.lookup x=some c->c≠it) (h3:∀p∈X.pn++tu,p.1≠it):Inv X tu σ H { s with heap:=h',toks:=t' }:=by
 have nit:∀b u,H b=some u->b≠it:=fun b u e z=>by rw [z,hn] at e;cases e
 refine I.step (g':=s.gens) (d':=s.drawn) (ch:=[it]) (fun b hb=>?_) (fun b o _ _ hc e _=>k b o (fun z=>hc (by simp [z])) e) (fun b o _ _ hc e _=>⟨o.slots,k b o (fun z=>hc (by simp [z])) e⟩) (fun _ _ _ _ n=>n)
  (fun b o hc e=>⟨o,k b o (fun z=>hc (by simp [z])) e⟩) (fun _ _ e=>e) (fun _ _ _ e=>e) (fun b ps e=>⟨#[],by rw [e];simp⟩) (fun m hm=>?_) (fun b u e=>?_) I.bare
 . have e:b=it:=by simpa using hb
   subst e;exact ⟨h1,hL,h2,h3⟩
 . obtain ⟨o,es,ep,ho,r⟩:=hm;exact ⟨o,es,ep,k _ o (Ne.symm hL) ho,r⟩
 . refine (I.hok b u e).stay (fun c v hc q=>k c v ?_ q) (fun _ q=>q) fun _ _ q=>q;rcases hc with z | z
   . rw [z];exact nit b u e
   . exact nit c _ z
theorem Inv.tok (I:Inv X tu σ H s) (t:Nat):Inv X tu σ H { s with toks:=t }:=I.un (h':=s.heap) (t':=t) Un.refl I.hok
theorem Inv.kept {t':Nat} (I:Inv X tu σ H s) (k:∀b u,s.heap.get? b=some u->h'.get? b=some u):Inv X tu σ H { s with heap:=h',toks:=t' }:=I.un (Un.kept k) (I.hok.kept k)
theorem Inv.laid {a:Addr} {o:HO} {t':Nat} (I:Inv X tu σ H s) (k:∀b u,s.heap.get? b=some u->h'.get? b=some u) (hp:s.heap.objs.size<=a) (new:ObjOk X.prog X.w (upd H a o) h' a o) :
 Inv X tu σ (upd H a o) { s with heap:=h',toks:=t' }:=I.un (Un.laid k hp (I.hok.fresh hp)) (I.hok.laid k hp new)
theorem Inv.write {x e:Addr} {o:HO} {t':Nat} (I:Inv X tu σ H s) (mu:Mut (H x)) (he:e=x\/H e=some (.own x)) (k:∀b u,b≠e->s.heap.get? b=some u->h'.get? b=some u) (heo:∃u,h'.get? e=some u)
 (new:ObjOk X.prog X.w (upd H x o) h' x o):Inv X tu σ (upd H x o) { s with heap:=h',toks:=t' }:=I.un (Un.write mu he k heo) (I.hok.write mu he k heo new)
theorem Inv.weak {σ':List (Option V)} (I:Inv X tu σ H s) (hl:σ'.length=σ.length) (w:∀(i:Nat) v,σ'[i]?=some (some v)->σ[i]?=some (some v)):Inv X tu σ' H s:=⟨I.ok,I.os,I.bare,I.base,let ⟨m,hn,hl'⟩:=I.loc;⟨m,hn,fun i x v e1 e2 e3=>hl' i x v e1 (w i v e2) e3⟩,I.cell,I.free,I.freeC,I.pin,I.hok,hl.trans I.len⟩
theorem Inv.pins_of {pins':List (Addr×Obj)} (I:Inv X tu σ H s) (h:∀p∈pins',s.heap.get? p.1=some p.2/\H p.1=none/\p.1≠X.env.locals/\p.1∉X.fs/\∀v,p.2.data≠.cell v):Inv X pins' σ H s:=⟨I.ok,I.os,I.bare,I.base,I.loc,I.cell,I.free,I.freeC,fun p hp=>(YQ.mp hp).elim (fun z=>I.pin p (Yt _ z)) (h p),I.hok,I.len⟩
theorem Qw {N:List Str} (hN:N.Nodup) {i j:Nat} {x:Str} (a:N[i]?=some x) (b:N[j]?=some x):i=j:=by obtain ⟨h1,e1⟩:=Yj.mp a;obtain ⟨h2,e2⟩:=Yj.mp b;exact (KH hN).mp (e1.trans e2.symm)
theorem jdW {M:Model} {A:Around} {E:Value->Shared->Prop} {i:Nat} {x:Str} {v:V} {u:Value} {Q:Unit->Shared->Prop} (I:Inv X tu σ H s) (hN:X.N.Nodup) (hi:X.N[i]?=some x) (hx:Loc X.env.scope x) (r:RelV v u)
 (h:∀s',Inv X tu (σ.set i (some v)) H s'->(∃a,Heap.SameBut a s.heap s'.heap/\(a=X.env.locals\/X.env.cells.lookup x=some a))->Q () s') (hf:autoParam ‹"B"› QA.a0._auto_1):wpAny M A (storeName X.env x u) Q E s:=by
 obtain ⟨m,hn,hl⟩:=id I.loc;have hcls:(X.env.scope.kind == .class || (X.env.scope.kind == .module && X.env.locals != X.env.globals))=false:=by rw [I.ok.kind];rfl
 have hiσ:i<σ.length:=by rw [I.len];exact (Yj.mp hi).1
 have cne:=I.cne;have tracked:∀{a:Addr} {h':Heap},(∃o,s.heap.get? a=some o/\H a=none)->Heap.SameBut a s.heap h'->HOk X.prog X.w H h':=fun {a h'} ha hs b ob e=>by
  obtain ⟨_,_,hfree⟩:=ha;refine (I.hok b ob e).stay (fun c w' hc q=>(hs.2 c ?_).trans q) (fun _ q=>q) fun _ _ q=>q;rintro rfl;rcases hc with rfl | hc
  . rw [hfree] at e;cases e
  . rw [hfree] at hc;cases hc
 rcases hx with hk | hk
 . refine wpAny_storeName_local hk hn (fun h' hn' hs=>?_) hcls;obtain ⟨oL,_,_,hoL,_⟩:=id hn;refine h _ ⟨I.ok,I.os,I.bare,⟨fun b o e n hb hx=>?_,fun b o e n hb hx=>?_,I.base.free,fun b o e hx=>?_,I.base.tups,I.base.frzs,I.base.tbls⟩,⟨_,hn',fun j y v' e1 e2 e3=>?_⟩,fun y c e=>?_,I.free,I.freeC,fun p hp=>?_,tracked ⟨oL,hoL,I.free⟩ hs,by simpa using I.len⟩ ⟨_,hs,.inl rfl⟩
   . exact (hs.2 b (Yp (Yl (Yr e) I.ok.above))).trans (I.base.keep b o e n hb hx)
   . obtain ⟨sl,e1⟩:=I.base.slot b o e n hb hx;exact ⟨sl,(hs.2 b (Yp (Yl (Yr e) I.ok.above))).trans e1⟩
   . obtain ⟨o',e1⟩:=I.base.there b o e hx;exact ⟨o',(hs.2 b (Yp (Yl (Yr e) I.ok.above))).trans e1⟩
   . by_cases hj:j=i
     . subst hj;rw [hi] at e1;cases e1;rw [yo hiσ] at e2;cases e2;exact ⟨u,r,.inl ⟨hk,by simp⟩⟩
     . rw [YY (Ne.symm hj)] at e2;obtain ⟨u',r',q⟩:=hl j y v' e1 e2 e3;refine ⟨u',r',?_⟩;rcases q with ⟨k,e⟩ | ⟨k,c,e,z⟩
       . refine .inl ⟨k,?_⟩;have:y≠x:=fun e=>hj (Qw hN e1 (e ▸ hi));simp [this,e]
       . exact .inr ⟨k,c,e,z.sameBut hs (cne y c e)⟩
   . obtain ⟨w',z⟩:=I.cell y c e;exact ⟨w',z.sameBut hs (cne y c e)⟩
   . obtain ⟨e,n,ne,nf,d⟩:=I.pin p hp;exact ⟨(hs.2 p.1 ne).trans e,n,ne,nf,d⟩
 . have hfn:X.fn x=true:=by
    rcases hf with z | z
    . exact z
    . rw [z] at hk;cases hk
   obtain ⟨c,hc⟩:=I.ok.has x (.inl hk);obtain ⟨w',z⟩:=I.cell x c hc;refine wpAny_storeName_cell I.ok.kind hk hc z (fun h' hc' hs=>?_);obtain ⟨oc,hoc,hocd⟩:=id z;refine h { s with heap:=h' } ⟨I.ok,I.os,I.bare,⟨fun b o e n hb hx=>?_,fun b o e n hb hx=>?_,I.base.free,fun b o e hx=>?_,I.base.tups,I.base.frzs,I.base.tbls⟩,⟨m,hn.sameBut hs (Ne.symm (cne x c hc)),fun j y v' e1 e2 e3=>?_⟩,fun y c' e=>?_,I.free,I.freeC,fun p hp=>?_,tracked ⟨oc,hoc,I.freeC x c hc⟩ hs,by simpa using I.len⟩ ⟨c,hs,.inr hc⟩
   . exact (hs.2 b (Yp (Yl (Yr e) (I.ok.cab x c hfn hc)))).trans (I.base.keep b o e n hb hx)
   . obtain ⟨sl,e1⟩:=I.base.slot b o e n hb hx;exact ⟨sl,(hs.2 b (Yp (Yl (Yr e) (I.ok.cab x c hfn hc)))).trans e1⟩
   . obtain ⟨o',e1⟩:=I.base.there b o e hx;exact ⟨o',(hs.2 b (Yp (Yl (Yr e) (I.ok.cab x c hfn hc)))).trans e1⟩
   . by_cases hj:j=i
     . subst hj;rw [hi] at e1;cases e1;rw [yo hiσ] at e2;cases e2;exact ⟨u,r,.inr ⟨.inl hk,c,hc,hc'⟩⟩
     . rw [YY (Ne.symm hj)] at e2;obtain ⟨u',r',q⟩:=hl j y v' e1 e2 e3;refine ⟨u',r',?_⟩;rcases q with q | ⟨k,c',e,z'⟩
       . exact .inl q
       . refine .inr ⟨k,c',e,z'.sameBut hs ?_⟩;rintro rfl;exact hj (Qw hN e1 (I.ok.inj _ _ _ e hc ▸ hi))
   . by_cases hcc:c'=c
     . subst hcc;exact ⟨_,hc'⟩
     . obtain ⟨w2,z2⟩:=I.cell y c' e;exact ⟨w2,z2.sameBut hs hcc⟩
   . obtain ⟨e,n,ne,nf,d⟩:=I.pin p hp;refine ⟨(hs.2 p.1 ?_).trans e,n,ne,nf,d⟩;intro q;rw [q,hoc] at e;have q':oc=p.2:=Option.some.inj e;exact d w' (by rw [<-q'];exact hocd)
theorem jcN {M:Model} {A:Around} {E:Value->Shared->Prop} {i:Nat} {x:Str} {v:V} {u:Value} {Q:Unit->Shared->Prop} (I:Inv X tu σ H s) (hN:X.N.Nodup) (hi:X.N[i]?=some x) (hx:Loc X.env.scope x) (r:RelV v u)
 (h:∀s',Inv X tu (σ.set i (some v)) H s'->Q () s') (hf:autoParam ‹"B"› QA.a0._auto_1):wpAny M A (storeName X.env x u) Q E s:=
 jdW I hN hi hx r (fun s' I' _=>h s' I') hf
theorem Inv.call' {s':Shared} {ch:List Addr} (I:Inv X tu σ H s) (ho:s'.os=s.os) (u:Un (frs X.stack) ch H H' s.heap s'.heap) (hok:HOk X.prog X.w H' s'.heap) (hg:AllBare s'.gens)
 (hch:∀b∈ch,(b∈X.ex\/X.s₀.heap.objs.size<=b)/\b≠X.env.locals/\(∀x c,X.env.cells.lookup x=some c->c≠b)/\∀p∈X.pn++tu,p.1≠b):Inv X tu σ H' s':=by
 obtain ⟨h',g',d',t',o'⟩:=s';have e:o'=s.os:=ho;subst e;exact I.call (g':=g') (t':=t') (d':=d') u hok hg hch
end
abbrev XK:=Value->Option Addr->Hp->Prop
abbrev St:=List (Option V)
abbrev VK:=V->Hp->Prop
abbrev TE:=St->Hp->VK->Prop
abbrev TT:=St->Hp->(Bool->Hp->Prop)->Prop
abbrev TA:=St->Hp->(List V->Hp->Prop)->Prop
structure Ends where
 nx:St->Hp->Prop
 rt:VK
 bk:St->Hp->Prop:=fun _ _=>False
 ct:St->Hp->Prop:=fun _ _=>False
abbrev TS:=Ends->St->Hp->Prop
def EP (X:Cx) (tu:List (Addr×Obj)) (σ:St) (Q:VK) (u:Value) (s':Shared):Prop:=∃v H',Inv X tu σ H' s'/\RelV v u/\Q v H'
def TP (X:Cx) (tu:List (Addr×Obj)) (σ:St) (Q:Bool->Hp->Prop) (b:Bool) (s':Shared):Prop:=∃H',Inv X tu σ H' s'/\Q b H'
def AP (X:Cx) (tu:List (Addr×Obj)) (σ:St) (Q:List V->Hp->Prop) (us:List Value) (s':Shared):Prop:=∃vs H',Inv X tu σ H' s'/\Vals vs us/\Q vs H'
def SP (X:Cx) (tu:List (Addr×Obj)) (D:Ends) (f:Flow) (s':Shared):Prop:=
 match f with
 | .next=>∃σ' H',Inv X tu σ' H' s'/\D.nx σ' H'
 | .brk=>∃σ' H',Inv X tu σ' H' s'/\D.bk σ' H'
 | .cont=>∃σ' H',Inv X tu σ' H' s'/\D.ct σ' H'
 | .ret u=>∃v σ' H',Inv X tu σ' H' s'/\RelV v u/\D.rt v H'
def PE (X:Cx) (e:Expr) (t:TE):Prop:=∀(tu:List (Addr×Obj)) (s:Shared) (σ:St) (H:Hp) (Q:VK),Inv X tu σ H s->t σ H Q->wpAny ‹"b"› X.A (eval e X.env) (EP X tu σ Q) X.xe s
def PT (X:Cx) (e:Expr) (t:TT):Prop:=∀(tu:List (Addr×Obj)) (s:Shared) (σ:St) (H:Hp) (Q:Bool->Hp->Prop),Inv X tu σ H s->t σ H Q->wpAny ‹"b"› X.A (isTrue e X.env (eval e X.env)) (TP X tu σ Q) X.xe s
def PW (X:Cx) (e:Expr) (t:TT):Prop:=∀(whole:Sem Value) (tu:List (Addr×Obj)) (s:Shared) (σ:St) (H:Hp) (Q:Bool->Hp->Prop),Inv X tu σ H s->t σ H Q->wpAny ‹"b"› X.A (isTrue e X.env whole) (TP X tu σ Q) X.xe s
theorem PW.pt {X:Cx} {e:Expr} {t:TT} (h:PW X e t):PT X e t:=h _
def PA (X:Cx) (es:List Expr) (t:TA):Prop:=∀(pos:Pos) (tu:List (Addr×Obj)) (s:Shared) (σ:St) (H:Hp) (Q:List V->Hp->Prop),Inv X tu σ H s->t σ H Q->wpAny ‹"b"› X.A (spliced (backTo pos (starEach es X.env))) (AP X tu σ Q) X.xe s
def PS (X:Cx) (st:Stmt) (t:TS):Prop:=∀(tu:List (Addr×Obj)) (s:Shared) (σ:St) (H:Hp) (D:Ends),Inv X tu σ H s->t D σ H->wpAny ‹"b"› X.A (exec st X.env) (SP X tu D) X.xe s
def PSs (X:Cx) (st:List Stmt) (t:TS):Prop:=∀(tu:List (Addr×Obj)) (s:Shared) (σ:St) (H:Hp) (D:Ends),Inv X tu σ H s->t D σ H->wpAny ‹"b"› X.A (execs st X.env) (SP X tu D) X.xe s
theorem qu {α:Type} {t:Sem α} {Q Q':α->Shared->Prop} {M:Model} {A:Around} {E:Value->Shared->Prop} {s:Shared} (h:wpAny M A t Q E s) (hQ:∀a s,Q a s->Q' a s):wpAny M A t Q' E s:=yk h hQ fun _ _ x=>x
end L2
namespace L2
open PySem PySem.Spec PyProof.Rows
section
variable {X:Cx}
theorem bin {a b:Expr} {ta tb:TE} (ha:PE X a ta) (hb:PE X b tb) {tu:List (Addr×Obj)} {s:Shared} {σ:St} {H:Hp} {R:V->V->Hp->Prop} (I:Inv X tu σ H s) (h:ta σ H fun x H1=>tb σ H1 fun y H2=>R x y H2)
 {α:Type} {Q:α->Shared->Prop} {f:Value->Value->Sem α}
 (hf:∀v u s2 x y H2,Inv X tu σ H2 s2->RelV x v->RelV y u->R x y H2->wpAny ‹"b"› X.A (f v u) Q X.xe s2) :
 wpAny ‹"b"› X.A (eval a X.env) ‹"aO"› X.xe s:=by
 refine qu ‹"3"› fun v s1 zz=>?_;obtain ⟨x,H1,I1,r1,q1⟩:=zz;refine qu (hb tu s1 σ H1 _ I1 q1) fun u s2 zz=>?_;obtain ⟨y,H2,I2,r2,q2⟩:=zz;exact hf v u s2 x y H2 I2 r1 r2 q2
def je1 (i:Nat):TE:=fun σ H Q=>∃v,σ[i]?=some (some v)/\Q v H
def tC (v:V):TE:=fun _ H Q=>Q v H
theorem Zq {i:Nat} {x:Str} {pos:Pos} (hN:X.N[i]?=some x) (hv:Vis X.env.scope x) (hd:‹"l"›=false:=by decide) (hcd:(x == ("__classdict__":Str))=false:=by decide):PE X (.Name x pos) (je1 i):=by
 intro tu s σ H Q I h;obtain ⟨v,e,h⟩:=h;obtain ⟨m,hn,hl⟩:=I.loc;obtain ⟨u,r,l⟩:=hl i x v hN e hv;have fin:EP X tu σ Q u s:=⟨v,H,I,r,h⟩;rcases l with ⟨hk,hm⟩ | ⟨hk,c,hc,hcell⟩
 . exact wpAny_Name (wpAny_loadName_local I.ok.kind hk hn hm fin) hd
 . rcases hk with hk | hk
   . exact wpAny_Name (wpAny_loadName_cell I.ok.kind hk hc hcell fin) hd
   . exact wpAny_Name (wpAny_loadName_free I.ok.kind hk hc hcell fin hcd) hd
theorem jpG {i j pos}:PE X (.Constant (.int i) j pos) (tC (.int i)):=fun _ _ _ H _ I h=>wpAny_Constant_int ⟨.int i,H,I.tok _,⟨_,rfl⟩,h⟩
theorem jrc {b j pos}:PE X (.Constant (.bool b) j pos) (tC (.bl b)):=fun _ _ _ H _ I h=>Constant_bool ⟨.bl b,H,I,rfl,h⟩
theorem jp1 {j pos}:PE X (.Constant .none j pos) (tC .non):=fun _ _ _ H _ I h=>Constant_none ⟨.non,H,I,rfl,h⟩
def Gl (X:Cx) (x:Str):Prop:=X.env.kindOf x=some .globalImplicit
theorem jhL {E:Value->Shared->Prop} {tu:List (Addr×Obj)} {s:Shared} {σ:St} {H:Hp} {x:Str} {u:Value} {pos:Pos} {Q:Value->Shared->Prop} (I:Inv X tu σ H s) (hg:Gl X x) (hm:X.mg x=some u) (h:Q u s)
 (hd:‹"l"›=false:=by decide):wpAny ‹"b"› X.A (eval (.Name x pos) X.env) Q E s:=
 Calls.Name_function_global I.ok.kind hg (Calls.loadGlobal_global (by rw [I.ok.glob];exact I.mod.glob.keeps I.bk) hm h) hd
theorem Js {E:Value->Shared->Prop} {tu:List (Addr×Obj)} {s:Shared} {σ:St} {H:Hp} {x:Str} {u:Value} {pos:Pos} {Q:Value->Shared->Prop} (I:Inv X tu σ H s) (hg:Gl X x) (hm:X.mg x=none) (hv:bootBuiltins x=some u) (h:Q u s)
 (hn:x ≠ "__name__":=by decide) (hd:‹"l"›=false:=by decide):wpAny ‹"b"› X.A (eval (.Name x pos) X.env) Q E s:=by
 obtain ⟨mb,h1,h2⟩:=I.mod.blt;exact Calls.Name_function_global I.ok.kind hg (Calls.loadGlobal_builtin (by rw [I.ok.glob];exact I.mod.glob.keeps I.bk) hm (by rw [I.ok.blt];exact h1.keeps I.bk) ((h2 x hn).trans hv) h) hd
theorem jmK {x:Str} {v:V} {u:Value} {pos:Pos} (hg:Gl X x) (hm:X.mg x=some u) (r:RelV v u) (hd:‹"l"›=false:=by decide):PE X (.Name x pos) (tC v):=fun _ _ _ H _ I h=>jhL I hg hm ⟨v,H,I,r,h⟩ hd
theorem jmX {x:Str} {v:V} {u:Value} {pos:Pos} (hg:Gl X x) (hm:X.mg x=none) (hv:bootBuiltins x=some u) (r:RelV v u) (hn:x ≠ "__name__":=by decide) (hd:‹"l"›=false:=by decide):PE X (.Name x pos) (tC v):=fun _ _ _ H _ I h=>Js I hg hm hv ⟨v,H,I,r,h⟩ hn hd
variable {a b:Expr} {ta tb:TE} {pos:Pos}
def PC (X:Cx) (op:CmpOp) (a b:Expr) (t:TE):Prop:=
 ∀(tu:List (Addr×Obj)) (s:Shared) (σ:St) (H:Hp) (Q:VK),Inv X tu σ H s->t σ H Q->
   wpAny ‹"b"› X.A (eval a X.env) (fun v s₁=>wpAny ‹"b"› X.A (eval b X.env) (fun u s₂=>wpAny ‹"b"› X.A (compareOp op v u) (EP X tu σ Q) X.xe s₂) X.xe s₁) X.xe s
theorem nobehind (b:Expr) {op:CmpOp} (h:op≠.In) (h2:op≠.NotIn):behindInMarks op b=false:=by
 have e1:(op == CmpOp.In)=false:=by cases op <;> first | rfl | exact absurd rfl h
 have e2:(op == CmpOp.NotIn)=false:=by cases op <;> first | rfl | exact absurd rfl h2
 cases b <;> simp [behindInMarks,e1,e2]
def jn2 (ta:TE):TE:=fun σ H Q=>ta σ H fun x H1=>Q (.bl (!decide (x=.non))) H1
theorem RelV.none_iff {x:V} {v:Value} (r:RelV x v):(v == Value.none)=decide (x=.non):=by
 cases x with
 | non=>cases r;rfl
 | bl _=>cases r;rfl
 | int _=>obtain ⟨t,rfl⟩:=r;rfl
 | str _=>obtain ⟨t,rfl⟩:=r;rfl
 | byt _=>obtain ⟨t,rfl⟩:=r;rfl
 | flt _=>obtain ⟨t,rfl⟩:=r;rfl
 | ref _=>cases r;rfl
 | ty _=>cases r;rfl
theorem jnN {j pos'} (ha:PE X a ta):PC X .IsNot a (.Constant .none j pos') (jn2 ta):=by intro tu s σ H Q I h;refine qu ‹"3"› fun v s1 zz=>?_;obtain ⟨x,H1,I1,r1,q1⟩:=zz;exact Constant_none (isnot_none_gen ⟨.bl _,H1,I1,by rw [r1.none_iff];rfl,q1⟩)
def tB (t:TE):TT:=fun σ H Q=>t σ H fun x H1=>∃c,x=.bl c/\Q c H1
theorem jqj {op:CmpOp} {t:TE} (h:PC X op a b t) (h1:autoParam (behindInMarks op b=false) QA.a2._auto_1):PT X (.Compare a [op] [b] pos) (tB t):=by intro tu s σ H Q I hw;refine wpAny_isTrue_Compare1 (qu (h tu s σ H _ I hw) fun v s1 h1=>qu h1 fun u s2 h2=>qu h2 fun c s3 zz=>?_) h1;obtain ⟨x,H1,I1,r1,q1⟩:=zz;obtain ⟨d,rfl,q⟩:=q1;cases r1;exact yD ⟨H1,I1,q⟩
theorem jpr {e:Expr} {t:TE} (h:PE X e t) (he:∀whole,isTrue e X.env whole=(do let v <- whole;standAt e.pos;holding [v] (truthy v)):=by intro _;rfl):PT X e (tB t):=by intro tu s σ H Q I hw;refine isTrue_plain (qu (h tu s σ H _ I hw) fun v s1 zz=>?_) (he _);obtain ⟨x,H1,I1,r1,q1⟩:=zz;obtain ⟨d,rfl,q⟩:=q1;cases r1;exact yD ⟨H1,I1,q⟩
variable {tA tB':TT} {rest:List Expr}
def jru (t u:TT):TT:=fun σ H Q=>t σ H fun c H1=>if c=true then u σ H1 Q else Q false H1
def tOr (t u:TT):TT:=fun σ H Q=>t σ H fun c H1=>if c=true then Q true H1 else u σ H1 Q
def jry (t:TT):TT:=fun σ H Q=>t σ H fun c H1=>Q (!c) H1
theorem jmy (ha:PT X a tA):PW X (.BoolOp .And [a] pos) tA:=by
 intro wh tu s σ H Q I h;refine isTrue_and (qu (ha tu s σ H Q I h) fun c s1 e=>?_);cases c with
 | true=>exact isTrue_and_nil e
 | false=>exact e
theorem jo7 (ha:PT X a tA):PW X (.BoolOp .Or [a] pos) tA:=by
 intro wh tu s σ H Q I h;refine isTrue_or (qu (ha tu s σ H Q I h) fun c s1 e=>?_);cases c with
 | false=>exact isTrue_or_nil e
 | true=>exact e
theorem jqs (ha:PT X a tA) (hb:PW X (.BoolOp .And (b::rest) pos) tB'):PW X (.BoolOp .And (a::b::rest) pos) (jru tA tB'):=by
 intro wh tu s σ H Q I h;refine isTrue_and (qu ‹"3"› fun c s1 zz=>?_);obtain ⟨H1,I1,q1⟩:=zz;cases c with
 | true=>exact hb wh tu s1 σ H1 Q I1 q1
 | false=>exact ⟨H1,I1,q1⟩
theorem jrm (ha:PT X a tA) (hb:PW X (.BoolOp .Or (b::rest) pos) tB'):PW X (.BoolOp .Or (a::b::rest) pos) (tOr tA tB'):=by
 intro wh tu s σ H Q I h;refine isTrue_or (qu ‹"3"› fun c s1 zz=>?_);obtain ⟨H1,I1,q1⟩:=zz;cases c with
 | true=>exact ⟨H1,I1,q1⟩
 | false=>exact hb wh tu s1 σ H1 Q I1 q1
theorem jpH (ha:PT X a tA):PT X (.UnaryOp .Not a pos) (jry tA):=by intro tu s σ H Q I h;exact isTrue_not (ha tu s σ H (fun c H1=>Q (!c) H1) I h)
def jot (ta tb:TE):TE:=fun σ H Q=>ta σ H fun x H1=>∃c,x=.bl c/\if c=true then tb σ H1 Q else Q (.bl false) H1
def jn6 (ta:TE):TE:=fun σ H Q=>ta σ H fun x H1=>∃c,x=.bl c/\Q (.bl (!c)) H1
theorem joJ {op} {t:TE} (h:PE X a t):PE X (.BoolOp op [a] pos) t:=fun tu s σ H Q I hw=>BoolOp_one (h tu s σ H Q I hw)
theorem jpT (ha:PE X a ta) (hb:PE X (.BoolOp .And (b::rest) pos) tb):PE X (.BoolOp .And (a::b::rest) pos) (jot ta tb):=by
 intro tu s σ H Q I h;refine BoolOp_and (qu ‹"3"› fun v s1 zz=>?_);obtain ⟨x,H1,I1,r1,q1⟩:=zz;obtain ⟨c,rfl,q1⟩:=q1;cases r1;refine yD ?_;cases c with
 | true=>exact hb tu s1 σ H1 Q I1 q1
 | false=>exact ⟨.bl false,H1,I1,rfl,q1⟩
theorem jpL (ha:PE X a ta):PE X (.UnaryOp .Not a pos) (jn6 ta):=by intro tu s σ H Q I h;refine UnaryOp_ (qu ‹"3"› fun v s1 zz=>?_);obtain ⟨x,H1,I1,r1,q1⟩:=zz;obtain ⟨c,rfl,q1⟩:=q1;cases r1;exact not_of (yD ⟨.bl (!c),H1,I1,rfl,q1⟩)
def tIf (t:TT) (ta tb:TE):TE:=fun σ H Q=>t σ H fun c H1=>if c=true then ta σ H1 Q else tb σ H1 Q
theorem jk3 {c:Expr} (hc:PT X c tA) (ha:PE X a ta) (hb:PE X b tb):PE X (.IfExp c a b pos) (tIf tA ta tb):=by
 intro tu s σ H Q I h;refine wpAny_IfExp (qu (hc tu s σ H _ I h) fun d s1 zz=>?_);obtain ⟨H1,I1,q1⟩:=zz;cases d with
 | true=>exact ha tu s1 σ H1 Q I1 q1
 | false=>exact hb tu s1 σ H1 Q I1 q1
end
end L2
namespace L2
open PySem PySem.Spec PyProof.Rows
def Jf (K:PySem.W.Frag) (H:Hp) (a:Addr) (xs:List V):Prop:=
 Rd H a (.lst xs) \/
   ∃(o:Obj) (its:Array Value) (n:Nat),K.lookup a=some o ∧ o.cls=.type "list" ∧ o.dict=none ∧ o.data=.seq its n ∧ its.size ≤ sizeLine ∧ Vals xs its.toList
def SqT (K:PySem.W.Frag) (H:Hp) (a:Addr) (xs:List V):Prop:=
 Rd H a (.tup xs) \/
   ∃(o:Obj) (its:Array Value) (n:Nat),K.lookup a=some o ∧ o.cls=.type "tuple" ∧ o.data=.seq its n ∧ its.size ≤ sizeLine ∧ Vals xs its.toList
def jsN:Value->Option V
 | .none=>some .non
 | .bool b=>some (.bl b)
 | .int i _=>some (.int i)
 | .str x _=>some (.str x)
 | .bytes b _=>some (.byt b)
 | .float b _=>some (.flt b)
 | .ref a=>some (.ref a)
 | .type n=>some (.ty n)
 | _=>none
theorem RelV.abs {x:V} {u:Value} (r:RelV x u):jsN u=some x:=by
 cases x with
 | non=>cases r;rfl
 | bl _=>cases r;rfl
 | int _=>obtain ⟨t,rfl⟩:=r;rfl
 | str _=>obtain ⟨t,rfl⟩:=r;rfl
 | byt _=>obtain ⟨t,rfl⟩:=r;rfl
 | flt _=>obtain ⟨t,rfl⟩:=r;rfl
 | ref _=>cases r;rfl
 | ty _=>cases r;rfl
theorem RelV.inj {x y:V} {u:Value} (r:RelV x u) (q:RelV y u):x=y:=Option.some.inj (r.abs.symm.trans q.abs)
theorem Vals.inj:∀{xs ys:List V} {us:List Value},Vals xs us->Vals ys us->xs=ys:=fun {xs ys us} h=>by
 induction h generalizing ys with
 | nil=>intro h;cases h;rfl
 | cons r _ ih=>intro h;cases h with | cons q t=>rw [r.inj q,ih t]
section
variable {X:Cx} {tu:List (Addr×Obj)} {σ:St} {H:Hp} {s:Shared} {a:Addr} {xs ys:List V}
theorem SqT.of {K:PySem.W.Frag} (h:H a=some (.tup xs)):SqT K H a xs:=.inl (.inl h)
theorem Inv.list (I:Inv X tu σ H s) (h:Jf X.K H a xs):∃its:List Value,Vals xs its/\PlainL s.heap a its.toArray/\xs.length<=sizeLine:=by
 rcases h with h | ⟨o,its,n,hk,hc,hd,hs,hz,r⟩
 . obtain ⟨z,its,n,r,e⟩:=h.ok I.hok;exact ⟨its,r,⟨_,n,e,rfl,rfl,rfl⟩,z⟩
 . refine ⟨its.toList,r,⟨o,n,I.kIn a o hk,hc,hd,by simpa using hs⟩,?_⟩;have e:=r.length;simp only [YJ] at e;omega
theorem Inv.tuple (I:Inv X tu σ H s) (h:SqT X.K H a xs):∃its:List Value,Vals xs its/\IsTup s.heap a its.toArray/\xs.length<=sizeLine:=by
 rcases h with h | ⟨o,its,n,hk,hc,hs,hz,r⟩
 . obtain ⟨z,its,r,p⟩:=h.ok I.hok;exact ⟨its,r,p,z⟩
 . refine ⟨its.toList,r,⟨o,I.kIn a o hk,hc,n,by simpa using hs⟩,?_⟩;have e:=r.length;simp only [YJ] at e;omega
theorem Inv.list_inj (I:Inv X tu σ H s) (h:Jf X.K H a xs) (h':Jf X.K H a ys):xs=ys:=by
 obtain ⟨its,r,⟨o,n,e,_,_,d⟩,_⟩:=I.list h;obtain ⟨its',r',⟨o',n',e',_,_,d'⟩,_⟩:=I.list h';rw [e] at e';cases e';rw [d] at d';injection d' with d1 _;have:its=its':=by simpa using congrArg Array.toList d1
 subst this;exact r.inj r'
theorem Inv.tuple_inj (I:Inv X tu σ H s) (h:SqT X.K H a xs) (h':SqT X.K H a ys):xs=ys:=by
 obtain ⟨its,r,⟨o,e,_,n,d⟩,_⟩:=I.tuple h;obtain ⟨its',r',⟨o',e',_,n',d'⟩,_⟩:=I.tuple h';rw [e] at e';cases e';rw [d] at d';injection d' with d1 _;have:its=its':=by simpa using congrArg Array.toList d1
 subst this;exact r.inj r'
end
abbrev Cx.wish (X:Cx) (E:Value->Shared->Prop):Cx:={ X with xe:=E }
abbrev Cx.nox (X:Cx):Cx:=X.wish fun _ _=>False
theorem Cx.Ok.wish {X:Cx} (ok:X.Ok) (E:Value->Shared->Prop):(X.wish E).Ok:=⟨ok.mod,ok.kind,ok.glob,ok.blt,ok.above,ok.inj,ok.has,ok.cab,ok.hd,ok.frames,ok.stk,ok.exf,ok.bs,ok.bsz,ok.noex,ok.exfs,ok.funs,ok.frf⟩
theorem Cx.Ok.unwish {X:Cx} {E:Value->Shared->Prop} (ok:(X.wish E).Ok):X.Ok:=⟨ok.mod,ok.kind,ok.glob,ok.blt,ok.above,ok.inj,ok.has,ok.cab,ok.hd,ok.frames,ok.stk,ok.exf,ok.bs,ok.bsz,ok.noex,ok.exfs,ok.funs,ok.frf⟩
section
variable {X:Cx} {tu:List (Addr×Obj)} {σ:St} {H:Hp} {s:Shared} {E:Value->Shared->Prop}
theorem Inv.wish (I:Inv X tu σ H s) (E:Value->Shared->Prop):Inv (X.wish E) tu σ H s:=⟨I.ok.wish E,I.os,I.bare,I.base,I.loc,I.cell,I.free,I.freeC,I.pin,I.hok,I.len⟩
theorem Inv.unwish (I:Inv (X.wish E) tu σ H s):Inv X tu σ H s:=⟨I.ok.unwish,I.os,I.bare,I.base,I.loc,I.cell,I.free,I.freeC,I.pin,I.hok,I.len⟩
theorem SP.unwish {D:Ends} {f:Flow} {s':Shared} (h:SP (X.wish E) tu D f s'):SP X tu D f s':=by
 cases f with
 | next=>obtain ⟨σ',H',I,q⟩:=h;exact ⟨σ',H',I.unwish,q⟩
 | brk=>obtain ⟨σ',H',I,q⟩:=h;exact ⟨σ',H',I.unwish,q⟩
 | cont=>obtain ⟨σ',H',I,q⟩:=h;exact ⟨σ',H',I.unwish,q⟩
 | ret u=>obtain ⟨v,σ',H',I,r,q⟩:=h;exact ⟨v,σ',H',I.unwish,r,q⟩
theorem PSs.nox {st:List Stmt} {t:TS} (h:PSs X.nox st t):PSs X st t:=fun tu s σ H D I hw=>yk (h tu s σ H D (I.wish _) hw) (fun _ _ q=>q.unwish) fun _ _ z=>False.elim z
end
section
variable {X:Cx} {st:Stmt} {rest:List Stmt} {t u:TS} {e:Expr} {te:TE} {pos:Pos}
def job:TS:=fun D σ H=>D.nx σ H
def jqL (t u:TS):TS:=fun D σ H=>t { D with nx:=u D } σ H
theorem jm7:PSs X [] job:=fun _ _ σ H _ I h=>kB ⟨σ,H,I,h⟩
theorem jkX (h1:PS X st t) (h2:PSs X rest u):PSs X (st::rest) (jqL t u):=by
 intro tu s σ H D I h;refine wpAny_execs_cons (qu (h1 tu s σ H { D with nx:=u D } I h) fun f s1 q=>?_);cases f with
 | next=>obtain ⟨σ',H',I',q⟩:=q;exact h2 tu s1 σ' H' D I' q
 | ret v=>exact q
 | brk=>exact q
 | cont=>exact q
theorem jnk (h1:PS X st t):PSs X [st] t:=by
 intro tu s σ H D I h;refine wpAny_execs_cons (qu (h1 tu s σ H D I h) fun f s1 q=>?_);cases f with
 | next=>exact kB q
 | ret v=>exact q
 | brk=>exact q
 | cont=>exact q
theorem Inv.quiet {tu:List (Addr×Obj)} {σ:St} {H:Hp} {s:Shared} (I:Inv X tu σ H s):interactive X.env=false:=by simp [interactive,I.ok.kind]
def jk2 (te:TE):TS:=fun D σ H=>te σ H fun _ H1=>D.nx σ H1
theorem jiC (he:PE X e te) (hs:swapsWith e none pos.line X.env=pure false:=by rfl):PS X (.Expr e pos) (jk2 te):=by intro tu s σ H D I h;exact wpAny_Expr_any (qu (he tu s σ H _ I h) fun v s1 ⟨x,H1,I1,r1,q1⟩=>⟨σ,H1,I1,q1⟩) I.quiet hs
def jmv (te:TE):TS:=fun D σ H=>te σ H D.rt
theorem jhn (he:PE X e te):PS X (.Return (some e) pos) (jmv te):=by intro tu s σ H D I h;exact wpAny_Return_some (qu (he tu s σ H _ I h) fun v s1 ⟨x,H1,I1,r1,q1⟩=>⟨x,σ,H1,I1,r1,q1⟩)
def jr4 (c:TT) (t u:TS):TS:=fun D σ H=>c σ H fun b H1=>if b=true then t D σ H1 else u D σ H1
theorem jrZ {c:Expr} {a b:List Stmt} {tc:TT} (hc:PT X c tc) (ha:PSs X a t) (hb:PSs X b u):PS X (.If c a b pos) (jr4 tc t u):=by
 intro tu s σ H D I h;refine wpAny_If (qu (hc tu s σ H _ I h) fun d s1 zz=>?_);obtain ⟨H1,I1,q1⟩:=zz;cases d with
 | true=>exact ha tu s1 σ H1 D I1 q1
 | false=>exact hb tu s1 σ H1 D I1 q1
end
abbrev TG:=V->St->Hp->(St->Hp->Prop)->Prop
abbrev TGs:=List V->St->Hp->(St->Hp->Prop)->Prop
def PG (X:Cx) (target:Expr) (t:TG):Prop:=
 ∀(tu:List (Addr×Obj)) (s:Shared) (σ:St) (H:Hp) (v:V) (u:Value) (Q:St->Hp->Prop),Inv X tu σ H s->RelV v u->t v σ H Q->
   wpAny ‹"b"› X.A (assign target X.env u) (fun _ s'=>∃σ' H',Inv X tu σ' H' s'/\Q σ' H') X.xe s
def PGs (X:Cx) (ts:List Expr) (t:TGs):Prop:=
 ∀(tu:List (Addr×Obj)) (s:Shared) (σ:St) (H:Hp) (vs:List V) (us:List Value) (Q:St->Hp->Prop),Inv X tu σ H s->Vals vs us->t vs σ H Q->
   wpAny ‹"b"› X.A (assignInOrder ((assignEach ts X.env).map (·.2)) us) (fun _ s'=>∃σ' H',Inv X tu σ' H' s'/\Q σ' H') X.xe s
abbrev jlk:=V->V->V->Hp->(Hp->Prop)->Prop
def joU (X:Cx) (t:jlk):Prop:=
 ∀(tu:List (Addr×Obj)) (s:Shared) (σ:St) (H:Hp) (o i v:V) (ov iv u:Value) (Q:Hp->Prop),Inv X tu σ H s->RelV o ov->RelV i iv->RelV v u->t o i v H Q->
   wpAny ‹"b"› X.A (setItem ov iv u) (fun _ s'=>∃H',Inv X tu σ H' s'/\Q H') X.xe s
abbrev TIp:=V->V->Hp->VK->Prop
def PIp (X:Cx) (op:Operator) (t:TIp):Prop:=
 ∀(tu:List (Addr×Obj)) (s:Shared) (σ:St) (H:Hp) (x y:V) (v u:Value) (Q:VK),Inv X tu σ H s->RelV x v->RelV y u->t x y H Q->
   wpAny ‹"b"› X.A (inplaceOp op v u) (EP X tu σ Q) X.xe s
section
variable {X:Cx} {pos:Pos}
def jaa (i:Nat):TG:=fun v σ H Q=>Q (σ.set i (some v)) H
theorem jez {i:Nat} {x:Str} (hN:X.N.Nodup) (hi:X.N[i]?=some x) (hx:Loc X.env.scope x) (hf:autoParam ‹"B"› QA.a0._auto_1):PG X (.Name x pos) (jaa i):=by intro tu s σ H v u Q I r h;exact wpAny_assign_Name (jcN I hN hi hx r (fun s' I'=>⟨_,H,I',h⟩) hf)
def joS:TGs:=fun vs σ H Q=>vs=[]/\Q σ H
def jn5 (t:TG) (u:TGs):TGs:=fun vs σ H Q=>∃v r,vs=v::r/\t v σ H fun σ' H'=>u r σ' H' Q
theorem jhT:PGs X [] joS:=by intro tu s σ H vs us Q I r h;obtain ⟨e,h⟩:=h;subst e;cases r;exact assignInOrder_nil ⟨σ,H,I,h⟩
theorem jgn {e:Expr} {es:List Expr} {t:TG} {u:TGs} (h1:PG X e t) (h2:PGs X es u)
 (hs:(assignEach (e::es) X.env).map (·.2)=assign e X.env::(assignEach es X.env).map (·.2):=by rfl):PGs X (e::es) (jn5 t u):=by
 intro tu s σ H vs us Q I r h;obtain ⟨v,vr,e1,h⟩:=h;subst e1;cases r with
 | cons r rr=>rw [hs];refine assignInOrder_cons (qu (h1 tu s σ H _ _ _ I r h) fun _ s1 zz=>?_);obtain ⟨σ1,H1,I1,q1⟩:=zz;exact h2 tu s1 σ1 H1 _ _ Q I1 rr q1
def jnJ (K:PySem.W.Frag) (n:Nat) (t:TGs):TG:=fun v σ H Q=>∃a xs,v=.ref a/\SqT K H a xs/\xs.length=n/\t xs σ H Q
theorem jlK {es:List Expr} {k:Nat} {t:TGs} {n:Nat} (hc:X.calm=true) (h:PGs X es t)
 (hn:(assignEach es X.env).length=n:=by rfl) (hst:(assignEach es X.env).findIdx? (·.1)=none:=by rfl):PG X (.Tuple es k pos) (jnJ X.K n t):=by
 intro tu s σ H v u Q I r hw;obtain ⟨a,xs,e1,hq,hl,hw⟩:=hw;subst e1;cases r;obtain ⟨its,rv,ht,hz⟩:=I.tuple hq;refine assign_Tuple_tuple (I.ok.hd hc) ht (by simp [hn,<- hl,rv.length]) hst fun h' hx=>?_;have I1:Inv X tu σ H { s with heap:=h' }:=I.kept (t':=s.toks) fun b o e=>hx b o (Yp (Yr e)) e;exact h tu _ σ H xs _ Q I1 (by simpa using rv) hw
def jsb (to ti:TE) (t:jlk):TG:=fun v σ H Q=>to σ H fun o H1=>ti σ H1 fun i H2=>t o i v H2 fun H3=>Q σ H3
theorem jo9 {o i:Expr} {to ti:TE} {t:jlk} (ho:PE X o to) (hi:PE X i ti) (hs:joU X t)
 (ha:autoParam (∀v,assign (.Subscript o i pos) X.env v=(do
  let ov <- holding [v] (eval o X.env)
  let iv <- holding [v,ov] (eval i X.env)
  standAt pos
  holding [v,ov,iv] (setItem ov iv v)
  release [v,ov,iv] [])) QA.a3._auto_1):PG X (.Subscript o i pos) (jsb to ti t):=by
 intro tu s σ H v u Q I r h;rw [ha];refine Ya (Y4 (qu (ho tu s σ H _ I h) fun ov s1 zz=>?_));obtain ⟨x,H1,I1,r1,q1⟩:=zz;refine Ya (Y4 (qu (hi tu s1 σ H1 _ I1 q1) fun iv s2 zz=>?_));obtain ⟨y,H2,I2,r2,q2⟩:=zz;refine Ya (wpAny_standAt (Ya (Y4 (qu (hs tu s2 σ H2 x y v ov iv u _ I2 r1 r2 r q2) fun _ s3 zz=>?_))));obtain ⟨H3,I3,q3⟩:=zz;exact wpAny_release ⟨σ,H3,I3,q3⟩
def jds (te:TE) (g:TG):TS:=fun D σ H=>te σ H fun x H1=>g x σ H1 D.nx
theorem jkl {tg e:Expr} {te:TE} {g:TG} (he:PE X e te) (hg:PG X tg g) (hs:swapsWithSole [tg] e pos.line X.env=pure false:=by rfl) (hw:swappedStores [tg] e X.env=pure none:=by rfl)
 (h1:(assignEach [tg] X.env).map (·.2)=[assign tg X.env]:=by rfl):PS X (.Assign [tg] e pos) (jds te g):=by
 intro tu s σ H D I h;refine wpAny_Assign_stores (qu (he tu s σ H _ I h) fun v s1 zz=>?_) hs hw;obtain ⟨x,H1,I1,r1,q1⟩:=zz;rw [h1];exact qu (hg tu s1 σ H1 x v _ I1 r1 q1) fun _ s2 q=>q
theorem jhv {i:Nat} {x:Str} {e:Expr} {te:TE} {pos':Pos} (hN:X.N.Nodup) (hi:X.N[i]?=some x) (hx:Loc X.env.scope x) (he:PE X e te) (hs:swapsWith e (some (.Name x pos')) pos.line X.env=pure false:=by rfl) (hf:autoParam ‹"B"› QA.a0._auto_1) :
 PS X (.Assign [.Name x pos'] e pos) (jds te (jaa i)):=by
 intro tu s σ H D I h;refine wpAny_Assign_Name (qu (he tu s σ H _ I h) fun v s1 zz=>?_) hs;obtain ⟨y,H1,I1,r1,q1⟩:=zz;exact jcN I1 hN hi hx r1 (fun s2 I2=>⟨_,H1,I2,q1⟩) hf
def jr7 (i:Nat) (te:TE) (ti:TIp):TS:=fun D σ H=>∃x,σ[i]?=some (some x)/\te σ H fun y H1=>ti x y H1 fun z H2=>D.nx (σ.set i (some z)) H2
theorem jpa {i:Nat} {x:Str} {e:Expr} {te:TE} {op:Operator} {ti:TIp} {pos':Pos} (hN:X.N.Nodup) (hi:X.N[i]?=some x) (hx:Loc X.env.scope x) (he:PE X e te) (ho:PIp X op ti) (hf:autoParam ‹"B"› QA.a0._auto_1) :
 PS X (.AugAssign (.Name x pos') op e pos) (jr7 i te ti):=by
 intro tu s σ H D I h;obtain ⟨v,e1,h⟩:=h;obtain ⟨m,hn,hl⟩:=I.loc;have vis:Vis X.env.scope x:=by rcases hx with k | k;exact .inl k;exact .inr (.inl k)
 obtain ⟨u,r,l⟩:=hl i x v hi e1 vis;refine wpAny_AugAssign_Name ?_;have go:wpAny ‹"b"› X.A (eval e X.env) (fun w s₂=>wpAny ‹"b"› X.A (inplaceOp op u w) (fun r s₃=>wpAny ‹"b"› X.A (storeName X.env x r) (fun _=>SP X tu D .next) X.xe s₃) X.xe s₂) X.xe s:=by refine qu (he tu s σ H _ I h) fun w s1 zz=>?_;obtain ⟨y,H1,I1,r1,q1⟩:=zz;refine qu (ho tu s1 σ H1 v y u w _ I1 r r1 q1) fun z s2 zz=>?_;obtain ⟨zv,H2,I2,r2,q2⟩:=zz;exact jcN I2 hN hi hx r2 (fun s3 I3=>⟨_,H2,I3,q2⟩) hf
 rcases l with ⟨hk,hm⟩ | ⟨hk,c,hc,hcell⟩
 . exact wpAny_loadName_local I.ok.kind hk hn hm go
 . rcases hk with hk | hk
   . exact wpAny_loadName_cell I.ok.kind hk hc hcell go
   . rcases hx with k | k
     . have:X.env.scope.names.lookup x=some .free:=hk;rw [k] at this;cases this
     . have:X.env.scope.names.lookup x=some .free:=hk;rw [k] at this;cases this
def jnO (to ti te:TE) (tget:V->V->Hp->VK->Prop) (tip:TIp) (tset:jlk):TS:=fun D σ H=>to σ H fun o H1=>ti σ H1 fun i H2=>tget o i H2 fun x H3=>te σ H3 fun y H4=>tip x y H4 fun z H5=>tset o i z H5 fun H6=>D.nx σ H6
def jq8 (X:Cx) (t:V->V->Hp->VK->Prop):Prop:=
 ∀(tu:List (Addr×Obj)) (s:Shared) (σ:St) (H:Hp) (o i:V) (ov iv:Value) (Q:VK),Inv X tu σ H s->RelV o ov->RelV i iv->t o i H Q->
   wpAny ‹"b"› X.A (getItem ov iv) (EP X tu σ Q) X.xe s
theorem jms {o i e:Expr} {to ti te:TE} {tget:V->V->Hp->VK->Prop} {tip:TIp} {tset:jlk} {op:Operator} {tpos:Pos} (ho:PE X o to) (hi:PE X i ti) (hg:jq8 X tget) (he:PE X e te) (hp:PIp X op tip) (hs:joU X tset)
 (ha:∀ov iv new,augStore i ov iv new=(do holding [new,ov,iv] (setItem ov iv new);release [new,ov,iv] [];pure .next):=by intros;rfl):PS X (.AugAssign (.Subscript o i tpos) op e pos) (jnO to ti te tget tip tset):=by
 intro tu s σ H D I h;refine wpAny_AugAssign_SubscriptAny (qu (ho tu s σ H _ I h) fun ov s1 zz=>?_) ha;obtain ⟨x1,H1,I1,r1,q1⟩:=zz;refine qu (hi tu s1 σ H1 _ I1 q1) fun iv s2 zz=>?_;obtain ⟨x2,H2,I2,r2,q2⟩:=zz;refine qu (hg tu s2 σ H2 x1 x2 ov iv _ I2 r1 r2 q2) fun old s3 zz=>?_;obtain ⟨x3,H3,I3,r3,q3⟩:=zz;refine qu (he tu s3 σ H3 _ I3 q3) fun v s4 zz=>?_;obtain ⟨x4,H4,I4,r4,q4⟩:=zz;refine qu (hp tu s4 σ H4 x3 x4 old v _ I4 r3 r4 q4) fun new s5 zz=>?_;obtain ⟨x5,H5,I5,r5,q5⟩:=zz;exact qu (hs tu s5 σ H5 x1 x2 x5 ov iv new _ I5 r1 r2 r5 q5) fun _ s6 ⟨H6,I6,q6⟩=>⟨σ,H6,I6,q6⟩
def ipI (f:Int->Int->Int):TIp:=fun x y H Q=>∃i j,x=.int i/\y=.int j/\Q (.int (f i j)) H
theorem jpx:PIp X .Add (ipI fun i j=>i+j):=by intro tu s σ H x y v u Q I r1 r2 h;obtain ⟨i,j,e1,e2,q⟩:=h;subst e1;subst e2;obtain ⟨t,rfl⟩:=r1;obtain ⟨t',rfl⟩:=r2;exact iadd_int ⟨.int _,H,I.tok _,⟨_,rfl⟩,q⟩
theorem jpI:PIp X .Sub (ipI fun i j=>i-j):=by intro tu s σ H x y v u Q I r1 r2 h;obtain ⟨i,j,e1,e2,q⟩:=h;subst e1;subst e2;obtain ⟨t,rfl⟩:=r1;obtain ⟨t',rfl⟩:=r2;exact isub_int ⟨.int _,H,I.tok _,⟨_,rfl⟩,q⟩
end
section
variable {X:Cx} {pos:Pos}
def jhb (c:TT) (tb:TS):TS:=fun D σ H=>∃W:Nat->St->Hp->Prop,(∃m,W m σ H)/\∀m σ H,W m σ H->
 c σ H fun b H1=>if b=true then ∃N:St->Hp->Prop,(∀σ' H',N σ' H'->∃m',m'<m/\W m' σ' H')/\tb { D with nx:=N,ct:=N,bk:=D.nx } σ H1 else D.nx σ H1
theorem jlb {c:Expr} {body:List Stmt} {tc:TT} {tb:TS} (hp:PassesOwn ‹"b"› X.A X.env X.xe) (hc:PT X c tc) (hb:PSs X body tb):PS X (.While c body [] pos) (jhb tc tb):=by
 intro tu s σ H D I h;obtain ⟨W,⟨m0,w0⟩,turn⟩:=h;refine wpAny_While (codeAny_whileLoop (fun n s'=>∃σ' H',Inv X tu σ' H' s'/\W n σ' H') ?_ m0 ⟨σ,H,I,w0⟩);rintro n s1 ⟨σ1,H1,I1,w1⟩;refine Ki hp (qu (hc tu s1 σ1 H1 _ I1 (turn n σ1 H1 w1)) fun b s2 zz=>?_);obtain ⟨H2,I2,q2⟩:=zz;cases b with
 | true=>
   obtain ⟨N,hN,q2⟩:=q2;rw [if_pos rfl];refine Ki hp (qu (hb tu s2 σ1 H2 _ I2 q2) fun f s3 q3=>?_);cases f with
   | next=>obtain ⟨σ3,H3,I3,n3⟩:=q3;obtain ⟨m',hm,w3⟩:=hN σ3 H3 n3;exact ⟨m',hm,σ3,H3,I3,w3⟩
   | cont=>obtain ⟨σ3,H3,I3,n3⟩:=q3;obtain ⟨m',hm,w3⟩:=hN σ3 H3 n3;exact ⟨m',hm,σ3,H3,I3,w3⟩
   | brk=>exact q3
   | ret v=>exact q3
 | false=>rw [if_neg Yh];exact kB ⟨σ1,H2,I2,q2⟩
end
structure It where
 go:Nat->Hp->Prop
 yld:Nat->Hp->V->Hp->Prop
 stop:Nat->Hp->Prop
def jdb (X:Cx) (tu:List (Addr×Obj)) (H:Hp) (b:Addr):Prop:=H b=none/\b≠X.env.locals/\b∉X.fs/\(b∈X.ex\/X.s₀.heap.objs.size<=b)/\(∀x c,X.env.cells.lookup x=some c->c≠b)/\∀p∈X.pn++tu,p.1≠b
theorem Inv.fpOk {X:Cx} {tu:List (Addr×Obj)} {σ:St} {H H':Hp} {s:Shared} {b:Addr} (I:Inv X tu σ H s) (hb:s.heap.objs.size<=b) (hn:H' b=none):jdb X tu H' b:=by
 refine ⟨hn,ym (Yl I.lt hb),I.nofs hb,.inr (YW I.sz hb),fun x c e z=>?_,fun p hp z=>?_⟩
 . obtain ⟨v,q⟩:=I.cell x c e;exact absurd (Yl q.lt (by rw [z];exact hb)) (YZ _)
 . exact absurd (Yl (Yr (I.pin p hp).1) (by rw [z];exact hb)) (YZ _)
structure Turn (P:Program) (w:World) (K:PySem.W.Frag) (tg:Expr) (J:It) (fp:List Addr) (it:Addr) (tn:Nat->Heap->Prop):Prop where
 mem:it∈fp
 obj:∀i h,tn i h->∀b∈fp,∃o,h.get? b=some o/\∀v,o.data≠.cell v
 keep:∀i h h',tn i h->(∀b∈fp,∀o,h.get? b=some o->h'.get? b=some o)->tn i h'
 item:∀(X:Cx),X.prog=P->X.w=w->X.K=K->X.calm=true->∀(i:Nat) (tu:List (Addr×Obj)) (s:Shared) (σ:St) (H:Hp) (E:Value->Shared->Prop),Inv X tu σ H s->(∀b∈fp,jdb X tu H b)->tn i s.heap->J.go i H->
  wpAny (model P w) X.A (pyNext (.ref it)) (fun r s1=>∃u,r=some u /\
   wpAny (model P w) X.A (letOwnedTupleGo tg (.ref it) u) (fun _ s2=>∃x H',Inv X tu σ H' s2/\RelV x u/\J.yld i H x H'/\tn (i+1) s2.heap/\∀b∈fp,H' b=none) E s1) E s
 done:∀(X:Cx),X.prog=P->X.w=w->X.K=K->X.calm=true->∀(i:Nat) (tu:List (Addr×Obj)) (s:Shared) (σ:St) (H:Hp) (E:Value->Shared->Prop),Inv X tu σ H s->(∀b∈fp,jdb X tu H b)->tn i s.heap->J.stop i H->
  wpAny (model P w) X.A (pyNext (.ref it)) (fun r s1=>r=none/\Inv X tu σ H s1) E s
 self:∀(A:Around) (i:Nat) (s:Shared) (Q:Value->Shared->Prop) (E:Value->Shared->Prop),tn i s.heap->Q (.ref it) s->wpAny (model P w) A (pyIter (.ref it)) Q E s
abbrev TI:=St->Hp->(It->Hp->Prop)->Prop
def PIE (X:Cx) (tu:List (Addr×Obj)) (σ:St) (tg:Expr) (R:It->Hp->Prop) (itv:Value) (s2:Shared):Prop:=∃(it:Addr) (fp:List Addr) (tn:Nat->Heap->Prop) (J:It) (H':Hp),itv=.ref it/\Inv X tu σ H' s2/\Turn X.prog X.w X.K tg J fp it tn/\tn 0 s2.heap/\(∀b∈fp,jdb X tu H' b)/\R J H'
def PI (X:Cx) (tg iter:Expr) (wi:TI):Prop:=
 ∀(tu:List (Addr×Obj)) (s:Shared) (σ:St) (H:Hp) (R:It->Hp->Prop),Inv X tu σ H s->wi σ H R->
   wpAny ‹"b"› X.A (eval iter X.env) (fun v s1=>wpAny ‹"b"› X.A (pyIter v) (PIE X tu σ tg R) X.xe s1) X.xe s
theorem jh7 {M:Model} {A:Around} {E:Value->Shared->Prop} {s:Shared} {tg:Expr} {it:Addr} {u:Value} {o:Obj} {n:String} {vs:Array Value} {Q:Unit->Shared->Prop} (ho:s.heap.get? it=some o) (hc:o.cls=.type n) (hd:o.data=.fields vs)
 (hn:["enumerate","zip","dict_itemiterator","dict_reverseitemiterator","odict_iterator","itertools.zip_longest","itertools.pairwise"].contains n=false) (hQ:Q () s):wpAny M A (letOwnedTupleGo tg (.ref it) u) Q E s:=by
 unfold letOwnedTupleGo;cases tg <;> first
  | exact Yi hQ
  | (cases u <;> first
      | exact Yi hQ
      | (refine Ya (wpAny_load ho ?_)
         rw [hc,hd];show wpAny M A (if (["enumerate","zip","dict_itemiterator","dict_reverseitemiterator","odict_iterator","itertools.zip_longest","itertools.pairwise"].contains n && vs[0]? == some (rawInt _))=true then _ else _) Q E s;rw [if_neg (by intro h;rw [hn,Bool.false_and] at h;cases h)];exact Yi hQ))
def Itl (K:PySem.W.Frag) (a:Addr):It:=⟨fun i H=>∃xs x,Jf K H a xs/\xs[i]?=some x,fun i H x H'=>H'=H/\∀xs,Jf K H a xs->xs[i]?=some x,fun i H=>∃xs,Jf K H a xs/\xs.length<=i⟩
def Itt (K:PySem.W.Frag) (a:Addr):It:=⟨fun i H=>∃xs x,SqT K H a xs/\xs[i]?=some x,fun i H x H'=>H'=H/\∀xs,SqT K H a xs->xs[i]?=some x,fun i H=>∃xs,SqT K H a xs/\xs.length<=i⟩
def Itr (lo:Int) (n:Nat):It:=⟨fun i _=>i<n,fun i H x H'=>H'=H/\x=.int (lo+i),fun i _=>n<=i⟩
theorem jjz {P:Program} {w:World} {K:PySem.W.Frag} {tg:Expr} (a it:Addr):Turn P w K tg (Itl K a) [it] it (fun i h=>h.IsListIter it a i) where
 mem:=by simp
 obj:=fun i h st b hb=>by
  have e:b=it:=by simpa using hb
  subst e;obtain ⟨o,e,c,d⟩:=st;exact ⟨o,e,fun v z=>by rw [d] at z;cases z⟩
 keep:=fun i h h' st k=>st.at fun o e=>k it (by simp) o e
 item:=by intro X hP hw hK hc i tu s σ H E I hf st hg;subst hP hw hK;obtain ⟨xs,x,hq,hx⟩:=hg;obtain ⟨its,rv,p,hz⟩:=I.list hq;obtain ⟨u,hu,ru⟩:=rv.get hx;obtain ⟨f0,f1,f2,f3,f4,f5⟩:=hf it (by simp);refine wpAny_pyNext_list_item st p.isList (x:=u) (by simpa using hu) fun h' st' sb=>?_;have I1:Inv X tu σ H { s with heap:=h' }:=I.turned (t':=s.toks) (fun b o hb e=>(sb.2 b hb).trans e) f0 f1 f3 f4 f5;obtain ⟨o,e,c,d⟩:=id st';exact ⟨u,rfl,jh7 (s:={ s with heap:=h' }) e c d (by decide) ⟨x,H,I1,ru,⟨rfl,fun ys hy=>by rw [I.list_inj hy hq];exact hx⟩,st',fun b hb=>(hf b hb).1⟩⟩
 done:=by intro X hP hw hK hc i tu s σ H E I hf st hg;subst hP hw hK;obtain ⟨xs,hq,hx⟩:=hg;obtain ⟨its,rv,p,hz⟩:=I.list hq;obtain ⟨f0,f1,f2,f3,f4,f5⟩:=hf it (by simp);have hl:=rv.length;exact wpAny_pyNext_list_end (I.ok.hd hc) st p.isList (by simp;omega) fun h' eb=>⟨rfl,I.turned (t':=s.toks) (fun b o hb e=>eb b o hb e) f0 f1 f3 f4 f5⟩
 self:=fun _ _ _ _ _ st h=>wpAny_pyIter_listiter st h
theorem jho {P:Program} {w:World} {K:PySem.W.Frag} {tg:Expr} (a it:Addr):Turn P w K tg (Itt K a) [it] it (fun i h=>h.IsTupleIter it a i) where
 mem:=by simp
 obj:=fun i h st b hb=>by
  have e:b=it:=by simpa using hb
  subst e;obtain ⟨o,e,c,d⟩:=st;exact ⟨o,e,fun v z=>by rw [d] at z;cases z⟩
 keep:=fun i h h' st k=>st.at fun o e=>k it (by simp) o e
 item:=by intro X hP hw hK hc i tu s σ H E I hf st hg;subst hP hw hK;obtain ⟨xs,x,hq,hx⟩:=hg;obtain ⟨its,rv,p,hz⟩:=I.tuple hq;obtain ⟨u,hu,ru⟩:=rv.get hx;obtain ⟨f0,f1,f2,f3,f4,f5⟩:=hf it (by simp);refine wpAny_pyNext_tuple_item st (show s.heap.IsTuple a its.toArray from p) (x:=u) (by simpa using hu) fun h' st' sb=>?_;have I1:Inv X tu σ H { s with heap:=h' }:=I.turned (t':=s.toks) (fun b o hb e=>(sb.2 b hb).trans e) f0 f1 f3 f4 f5;obtain ⟨o,e,c,d⟩:=id st';exact ⟨u,rfl,jh7 (s:={ s with heap:=h' }) e c d (by decide) ⟨x,H,I1,ru,⟨rfl,fun ys hy=>by rw [I.tuple_inj hy hq];exact hx⟩,st',fun b hb=>(hf b hb).1⟩⟩
 done:=by intro X hP hw hK hc i tu s σ H E I hf st hg;subst hP hw hK;obtain ⟨xs,hq,hx⟩:=hg;obtain ⟨its,rv,p,hz⟩:=I.tuple hq;obtain ⟨f0,f1,f2,f3,f4,f5⟩:=hf it (by simp);have hl:=rv.length;exact wpAny_pyNext_tuple_end (I.ok.hd hc) st (show s.heap.IsTuple a its.toArray from p) (by simp;omega) fun h' eb=>⟨rfl,I.turned (t':=s.toks) (fun b o hb e=>eb b o hb e) f0 f1 f3 f4 f5⟩
 self:=fun _ _ _ _ _ st h=>wpAny_pyIter_tupleiter st h
theorem jgY {P:Program} {w:World} {K:PySem.W.Frag} {tg:Expr} (it:Addr) (lo:Int) (n:Nat):Turn P w K tg (Itr lo n) [it] it (fun i h=>IsRangeIter h it (lo+(i:Nat)*1) ((n:Int)-(i:Nat)) 1) where
 mem:=by simp
 obj:=fun i h st b hb=>by
  have e:b=it:=by simpa using hb
  subst e;exact ⟨_,st,fun v z=>by have z':Data.fields _=Data.cell v:=z;cases z'⟩
 keep:=fun i h h' st k=>k it (by simp) _ st
 item:=by intro X hP hw hK hc i tu s σ H E I hf st hg;subst hP hw hK;obtain ⟨f0,f1,f2,f3,f4,f5⟩:=hf it (by simp);have W:=Walks.range (prog:=X.prog) (w:=X.w) (I.ok.hd hc) it lo 1 n;refine W.item i s _ _ hg st fun v h' tk hv st' kk=>?_;obtain ⟨t,rfl⟩:=hv;have I1:Inv X tu σ H { s with heap:=h',toks:=tk }:=I.turned (fun b o hb e=>kk b o (by simpa using hb) e) f0 f1 f3 f4 f5;refine ⟨_,rfl,jh7 (s:={ s with heap:=h',toks:=tk }) (n := "range_iterator") st' rfl rfl (by decide) ⟨.int (lo+i),H,I1,⟨t,?_⟩,⟨rfl,rfl⟩,st',fun b hb=>(hf b hb).1⟩⟩;rw [Int.mul_one]
 done:=by intro X hP hw hK hc i tu s σ H E I hf st hg;subst hP hw hK;obtain ⟨f0,f1,f2,f3,f4,f5⟩:=hf it (by simp);exact wpAny_pyNext_range_end (I.ok.hd hc) st (by have:n<=i:=hg;omega) fun h' eb=>⟨rfl,I.turned (t':=s.toks) (fun b o hb e=>eb b o hb e) f0 f1 f3 f4 f5⟩
 self:=fun _ _ _ _ _ st h=>wpAny_pyIter_rangeiter st h
end L2
namespace L2
open PySem PySem.Spec PyProof.Rows
section
variable {X:Cx} {tg:Expr}
def jgh (K:PySem.W.Frag) (tl:TE):TI:=fun σ H R=>tl σ H fun x H1=>∃a,x=.ref a/\(∃xs,Jf K H1 a xs)/\R (Itl K a) H1
def jqe (K:PySem.W.Frag) (tl:TE):TI:=fun σ H R=>tl σ H fun x H1=>∃a,x=.ref a/\(∃xs,SqT K H1 a xs)/\R (Itt K a) H1
theorem jii {l:Expr} {tl:TE} (hl:PE X l tl):PI X tg l (jgh X.K tl):=by
 intro tu s σ H R I h;refine qu (hl tu s σ H _ I h) fun v s1 zz=>?_;obtain ⟨x,H1,I1,r1,q1⟩:=zz;obtain ⟨a,e,⟨xs,hq⟩,q⟩:=q1;subst e;cases r1;obtain ⟨its,rv,p,hz⟩:=I1.list hq;refine wpAny_pyIter_list p.isList ?_;refine ⟨s1.heap.objs.size,[s1.heap.objs.size],_,_,H1,rfl,I1.kept (t':=s1.toks) fun b o e=>Yg _ e,jjz a _,⟨_,Ys _ rfl,rfl,rfl⟩,fun b hb=>?_,q⟩;have e:b=s1.heap.objs.size:=by simpa using hb
 subst e;exact I1.fpOk (Ym _) (I1.hok.fresh (Ym _))
theorem jqx {l:Expr} {tl:TE} (hl:PE X l tl):PI X tg l (jqe X.K tl):=by
 intro tu s σ H R I h;refine qu (hl tu s σ H _ I h) fun v s1 zz=>?_;obtain ⟨x,H1,I1,r1,q1⟩:=zz;obtain ⟨a,e,⟨xs,hq⟩,q⟩:=q1;subst e;cases r1;obtain ⟨its,rv,p,hz⟩:=I1.tuple hq;refine wpAny_pyIter_tuple (show s1.heap.IsTuple a its.toArray from p) ?_;refine ⟨s1.heap.objs.size,[s1.heap.objs.size],_,_,H1,rfl,I1.kept (t':=s1.toks) fun b o e=>Yg _ e,jho a _,⟨_,Ys _ rfl,rfl,rfl⟩,fun b hb=>?_,q⟩;have e:b=s1.heap.objs.size:=by simpa using hb
 subst e;exact I1.fpOk (Ym _) (I1.hok.fresh (Ym _))
theorem jkm {tu:List (Addr×Obj)} {σ:St} {H:Hp} {s:Shared} {R:It->Hp->Prop} {E:Value->Shared->Prop} {lo hi:Int} {t u v:Tok} {tk:Nat} (I:Inv X tu σ H s) (h1:-(2 ^ 62)<=lo) (h2:lo<2 ^ 62) (h3:-(2 ^ 62)<=hi) (h4:hi<2 ^ 62)
 (q:R (Itr lo (hi-lo).toNat) H):wpAny ‹"b"› X.A (pyIter (.ref s.heap.objs.size)) (PIE X tu σ tg R) E { s with heap:=s.heap.push { cls:=.type "range",data:=.fields #[.int lo t,.int hi u,.int 1 v] },toks:=tk }:=by
 refine wpAny_pyIter_range (IsRange.new ..) (small_one h1 h2 h3 h4) ?_;have I1:Inv X tu σ H { s with heap:=s.heap.push { cls:=.type "range",data:=.fields #[.int lo t,.int hi u,.int 1 v] },toks:=tk }:=I.kept fun b o e=>Yg _ e;refine ⟨‹"N"›.objs.size,[‹"N"›.objs.size],_,_,H,rfl,
  I1.kept (t':=tk) fun b o e=>Yg _ e,jgY _ lo (hi-lo).toNat,?_,fun b hb=>?_,q⟩
 . have e1:lo+((0:Nat):Int)*1=lo:=by simp
   have e2:(((hi-lo).toNat:Nat):Int)-((0:Nat):Int)=Builtin.Range.rangeSize lo hi 1:=by rw [rangeSize_one];split <;> omega
   show IsRangeIter _ _ (lo+((0:Nat):Int)*1) ((((hi-lo).toNat:Nat):Int)-((0:Nat):Int)) 1;rw [e1,e2];exact Ys _ rfl
 . have e:b=‹"N"›.objs.size:=by simpa using hb
   subst e;exact I1.fpOk (Ym _) (I1.hok.fresh (Ym _))
def jnR (ta:TA):TI:=fun σ H R=>ta σ H fun vs H1=>∃j:Int,vs=[.int j] /\ -(2 ^ 62)<=j/\j<2 ^ 62/\R (Itr 0 j.toNat) H1
theorem jjL {a:Expr} {ta:TA} {p pos:Pos} (hg:Gl X "range") (hm:X.mg "range"=none) (ha:PA X [a] ta) (hs:starEach [a] X.env=[(false,eval a X.env)]:=by rfl):PI X tg (.Call (.Name "range" p) [a] [] pos) (jnR ta):=by
 intro tu s σ H R I h;refine Call_ (Js I hg hm boot_range (Y3 (qu (ha pos tu s σ H _ I h) fun us s1 zz=>?_) hs rfl));obtain ⟨vs,H1,I1,r1,q1⟩:=zz;obtain ⟨j,e,q1,q2,q⟩:=q1;subst e;cases r1 with
 | cons r rr=>cases rr;obtain ⟨t,rfl⟩:=r;exact call_range_1 (jkm I1 (by omega) (by omega) q1 q2 (by simpa using q))
def jrN (wi:TI) (g:TG) (tb:TS):TS:=fun D σ H=>wi σ H fun J H1=>∃W:Nat->Nat->St->Hp->Prop,(∃m,W 0 m σ H1)/\∀i m σ H,W i m σ H->
 (J.stop i H/\D.nx σ H)\/(J.go i H/\∃N:St->Hp->Prop,(∀σ' H',N σ' H'->∃m',m'<m/\W (i+1) m' σ' H')/\∀x H',J.yld i H x H'->g x σ H' fun σ2 H2=>tb { D with nx:=N,ct:=N,bk:=D.nx } σ2 H2)
def jcs (fp:List Addr) (h:Heap):List (Addr×Obj):=fp.filterMap fun b=>(h.get? b).map fun o=>(b,o)
theorem Q1 {fp:List Addr} {h:Heap} {b:Addr} {o:Obj} (hb:b∈fp) (e:h.get? b=some o):(b,o)∈jcs fp h:=List.mem_filterMap.mpr ⟨b,hb,by rw [e];rfl⟩
theorem jjx {fp:List Addr} {h:Heap} {p:Addr×Obj} (hp:p∈jcs fp h):p.1∈fp/\h.get? p.1=some p.2:=by
 obtain ⟨b,hb,e⟩:=List.mem_filterMap.mp hp;cases q:h.get? b with
 | none=>rw [q] at e;cases e
 | some o=>rw [q] at e;have e':(b,o)=p:=Option.some.inj e;subst e';exact ⟨hb,q⟩
theorem Inv.pinned {tu:List (Addr×Obj)} {σ:St} {H:Hp} {s:Shared} {fp:List Addr} (I:Inv X tu σ H s) (hf:∀b∈fp,jdb X tu H b) (ho:∀b∈fp,∃o,s.heap.get? b=some o/\∀v,o.data≠.cell v):Inv X (tu++jcs fp s.heap) σ H s:=
 I.pins_of fun p hp=>(YQ.mp hp).elim (fun z=>I.pin p (YF _ z)) fun z=>by obtain ⟨hb,e⟩:=jjx z;obtain ⟨f0,f1,f2,_⟩:=hf p.1 hb;obtain ⟨o,e',d⟩:=ho p.1 hb;rw [e] at e';cases e';exact ⟨e,f0,f1,f2,d⟩
theorem Inv.unpinned {tu pl:List (Addr×Obj)} {σ:St} {H:Hp} {s:Shared} (I:Inv X (tu++pl) σ H s):Inv X tu σ H s:=I.pins_of fun p hp=>I.pin p (YF _ (Yt _ hp))
theorem jp6 {iter:Expr} {body:List Stmt} {wi:TI} {g:TG} {tb:TS} {pos:Pos} (hp:PassesOwn ‹"b"› X.A X.env X.xe) (hc:X.calm=true) (hi:PI X tg iter wi) (hg:PG X tg g) (hb:PSs X body tb)
 (hs:∀x,foldedSetIterable iter X.env x=pure x:=by intro _;rfl):PS X (.For tg iter body [] pos) (jrN wi g tb):=by
 intro tu s σ H D I h;refine wpAny_For (qu (hi tu s σ H _ I h) fun v s1 h1=>qu h1 fun itv s2 h2=>?_) hs;obtain ⟨it,fp,tn,J,H2,e,I2,T,st2,f2,W,⟨m0,w0⟩,turn⟩:=h2;subst e
 -- what stays true of the iterator's objects through the loop
 have stat:∀{H':Hp},(∀b∈fp,H' b=none)->∀b∈fp,jdb X tu H' b:=fun hn b hb=>⟨hn b hb,(f2 b hb).2⟩;refine codeAny_forLoop_any (fun n s'=>∃i σ' H',Inv X tu σ' H' s'/\tn i s'.heap/\(∀b∈fp,H' b=none)/\W i n σ' H') ?_ m0 ⟨0,σ,H2,I2,st2,fun b hb=>(f2 b hb).1,w0⟩;rintro n s3 ⟨i,σ3,H3,I3,st3,fr3,w3⟩;rcases turn i n σ3 H3 w3 with ⟨stop,qn⟩ | ⟨go,N,hN,step⟩
 . refine Ki hp (qu (T.done X rfl rfl rfl hc i tu s3 σ3 H3 X.xe I3 (stat fr3) st3 stop) fun r s4 zz=>?_);obtain ⟨hr,I4⟩:=zz;subst hr;exact kB ⟨σ3,H3,I4,qn⟩
 . refine Ki hp (qu (T.item X rfl rfl rfl hc i tu s3 σ3 H3 X.xe I3 (stat fr3) st3 go) fun r s4 zz=>?_);obtain ⟨u,hr,h4⟩:=zz;subst hr;refine Ki hp (qu h4 fun _ s5 zz=>?_);obtain ⟨x,H5,I5,r5,y5,st5,fr5⟩:=zz;have I5':=I5.pinned (stat fr5) (T.obj _ _ st5);refine Ki hp (qu (hg _ s5 σ3 H5 x u _ I5' r5 (step x H5 y5)) fun _ s6 zz=>?_);obtain ⟨σ6,H6,I6,q6⟩:=zz;refine Ki hp (qu (hb _ s6 σ6 H6 _ I6 q6) fun f s7 q7=>?_);have again:∀{σ7:St} {H7:Hp},Inv X (tu++jcs fp s5.heap) σ7 H7 s7->N σ7 H7->∃m,m<n/\∃i σ' H',Inv X tu σ' H' s7/\tn i s7.heap/\(∀b∈fp,H' b=none)/\W i m σ' H':=fun {σ7 H7} I7 n7=>by obtain ⟨m',hm,w7⟩:=hN σ7 H7 n7;refine ⟨m',hm,i+1,σ7,H7,I7.unpinned,T.keep _ _ _ st5 fun b hb o e=>(I7.pin (b,o) (YF _ (YF _ (Q1 hb e)))).1,fun b hb=>?_,w7⟩;obtain ⟨o,e,d⟩:=T.obj _ _ st5 b hb;exact (I7.pin (b,o) (YF _ (YF _ (Q1 hb e)))).2.1
   cases f with
   | next=>obtain ⟨σ7,H7,I7,n7⟩:=q7;exact again I7 n7
   | cont=>obtain ⟨σ7,H7,I7,n7⟩:=q7;exact again I7 n7
   | brk=>obtain ⟨σ7,H7,I7,q7⟩:=q7;exact ⟨σ7,H7,I7.unpinned,q7⟩
   | ret v=>obtain ⟨x7,σ7,H7,I7,r7,q7⟩:=q7;exact ⟨x7,σ7,H7,I7.unpinned,r7,q7⟩
end
theorem jcd {c:TT} {tb:TS} {D:Ends} {σ:St} {H:Hp} (Pv:St->Hp->Prop) (μ:St->Hp->Nat) (h0:Pv σ H)
 (hs:∀σ H,Pv σ H->c σ H fun b H1=>if b=true then tb { D with nx:=fun σ' H'=>Pv σ' H'/\μ σ' H'<μ σ H,ct:=fun σ' H'=>Pv σ' H'/\μ σ' H'<μ σ H,bk:=D.nx } σ H1 else D.nx σ H1)
 (mono:∀σ H Q Q',(∀b H1,Q b H1->Q' b H1)->c σ H Q->c σ H Q'):jhb c tb D σ H:=by
 refine ⟨fun m σ H=>m=μ σ H/\Pv σ H,⟨_,rfl,h0⟩,?_⟩;rintro m σ H ⟨rfl,p⟩;refine mono σ H _ _ (fun b H1 q=>?_) (hs σ H p);cases b with
 | true=>exact ⟨_,fun σ' H' ⟨p',l⟩=>⟨_,l,rfl,p'⟩,q⟩
 | false=>exact q
end L2
namespace L2
open PySem PySem.Spec PyProof.Rows
abbrev R2:=V->V->Hp->VK->Prop
def OpR (X:Cx) (f:Value->Value->Sem Value) (r:R2):Prop:=
 ∀(tu:List (Addr×Obj)) (s:Shared) (σ:St) (H:Hp) (x y:V) (v u:Value) (Q:VK),Inv X tu σ H s->RelV x v->RelV y u->r x y H Q->
   wpAny ‹"b"› X.A (f v u) (EP X tu σ Q) X.xe s
def UnR (X:Cx) (f:Value->Sem Value) (r:V->Hp->VK->Prop):Prop:=
 ∀(tu:List (Addr×Obj)) (s:Shared) (σ:St) (H:Hp) (x:V) (v:Value) (Q:VK),Inv X tu σ H s->RelV x v->r x H Q->
   wpAny ‹"b"› X.A (f v) (EP X tu σ Q) X.xe s
def CallR (X:Cx) (f:Value) (r:List V->Hp->VK->Prop):Prop:=
 ∀(tu:List (Addr×Obj)) (s:Shared) (σ:St) (H:Hp) (xs:List V) (us:List Value) (Q:VK),Inv X tu σ H s->Vals xs us->r xs H Q->
   wpAny ‹"b"› X.A (call f us) (EP X tu σ Q) X.xe s
def tOp (r:R2) (ta tb:TE):TE:=fun σ H Q=>ta σ H fun x H1=>tb σ H1 fun y H2=>r x y H2 Q
def tUn (r:V->Hp->VK->Prop) (ta:TE):TE:=fun σ H Q=>ta σ H fun x H1=>r x H1 Q
def rI (C:Int->Int->Prop) (g:Int->Int->V):R2:=fun x y H Q=>∃i j,x=.int i/\y=.int j/\C i j/\Q (g i j) H
def rI0 (g:Int->Int->V):R2:=fun x y H Q=>∃i j,x=.int i/\y=.int j/\Q (g i j) H
def rU (g:Int->V):V->Hp->VK->Prop:=fun x H Q=>∃i,x=.int i/\Q (g i) H
section
variable {X:Cx} {a b c:Expr} {ta tb tc:TE} {pos:Pos}
theorem jpM (ha:PE X a ta) (hb:PE X b tb) {tu:List (Addr×Obj)} {s:Shared} {σ:St} {H:Hp} {R:V->V->Hp->Prop} (I:Inv X tu σ H s)
 (h:ta σ H fun x H1=>tb σ H1 fun y H2=>R x y H2) {Q:Value->Shared->Prop} {f:Value->Value->Sem Value}
 (hf:∀v u s2 x y H2,Inv X tu σ H2 s2->RelV x v->RelV y u->R x y H2->wpAny ‹"b"› X.A (f v u) Q X.xe s2) :
 wpAny ‹"b"› X.A (eval a X.env) ‹"aO"› X.xe s:=by
 refine qu ‹"3"› fun v s1 zz=>?_;obtain ⟨x,H1,I1,r1,q1⟩:=zz;refine qu (hb tu s1 σ H1 _ I1 q1) fun u s2 zz=>?_;obtain ⟨y,H2,I2,r2,q2⟩:=zz;exact hf v u s2 x y H2 I2 r1 r2 q2
theorem jkP {op:Operator} {r:R2} (ho:OpR X (binaryOp op) r) (ha:PE X a ta) (hb:PE X b tb):PE X (.BinOp a op b pos) (tOp r ta tb):=by intro tu s σ H Q I h;exact wpAny_BinOp (jpM ha hb I h fun v u s2 x y H2 I2 rx ry q=>ho tu s2 σ H2 x y v u Q I2 rx ry q)
theorem jqQ {op:UnaryOp} {r:V->Hp->VK->Prop} (ho:UnR X (unaryOp op) r) (ha:PE X a ta):PE X (.UnaryOp op a pos) (tUn r ta):=by intro tu s σ H Q I h;exact UnaryOp_ (qu ‹"3"› fun v s1 ⟨x,H1,I1,r1,q1⟩=>ho tu s1 σ H1 x v Q I1 r1 q1)
theorem opI {f:Value->Value->Sem Value} {C:Int->Int->Prop} {g:Int->Int->Int}
 (rule:∀(i j:Int) (t u:Tok) (s:Shared) (Q:Value->Shared->Prop) (E:Value->Shared->Prop),C i j->Q (.int (g i j) s.toks) { s with toks:=s.toks+1 }->wpAny ‹"b"› X.A (f (.int i t) (.int j u)) Q E s) :
 OpR X f (rI C fun i j=>.int (g i j)):=by
 intro tu s σ H x y v u Q I rx ry h;obtain ⟨i,j,rfl,rfl,hc,q⟩:=h;obtain ⟨t,rfl⟩:=rx;obtain ⟨t',rfl⟩:=ry;exact rule i j t t' s _ _ hc ⟨.int (g i j),H,I.tok _,⟨_,rfl⟩,q⟩
theorem jsi {f:Value->Value->Sem Value} {g:Int->Int->Int}
 (rule:∀(i j:Int) (t u:Tok) (s:Shared) (Q:Value->Shared->Prop) (E:Value->Shared->Prop),Q (.int (g i j) s.toks) { s with toks:=s.toks+1 }->wpAny ‹"b"› X.A (f (.int i t) (.int j u)) Q E s) :
 OpR X f (rI0 fun i j=>.int (g i j)):=by
 intro tu s σ H x y v u Q I rx ry h;obtain ⟨i,j,rfl,rfl,q⟩:=h;obtain ⟨t,rfl⟩:=rx;obtain ⟨t',rfl⟩:=ry;exact rule i j t t' s _ _ ⟨.int (g i j),H,I.tok _,⟨_,rfl⟩,q⟩
theorem jmI {f:Value->Value->Sem Value} {g:Int->Int->Bool}
 (rule:∀(i j:Int) (t u:Tok) (s:Shared) (Q:Value->Shared->Prop) (E:Value->Shared->Prop),Q (.bool (g i j)) s->wpAny ‹"b"› X.A (f (.int i t) (.int j u)) Q E s) :
 OpR X f (rI0 fun i j=>.bl (g i j)):=by
 intro tu s σ H x y v u Q I rx ry h;obtain ⟨i,j,rfl,rfl,q⟩:=h;obtain ⟨t,rfl⟩:=rx;obtain ⟨t',rfl⟩:=ry;exact rule i j t t' s _ _ ⟨.bl (g i j),H,I,rfl,q⟩
def jeH (i j:Int):Prop:=0<=j/\j<=1000000/\i.natAbs<2 ^ 64
def CMul (i j:Int):Prop:=(-(2 ^ 64)<i/\i<2 ^ 64)\/(-(2 ^ 64)<j/\j<2 ^ 64)
theorem CMul.ok {i j:Int} (h:CMul i j):IntMulOk i j:=by
 rcases h with ⟨h1,h2⟩ | ⟨h1,h2⟩
 . exact .of_left (intBits_le_64 h1 h2)
 . exact .of_right (intBits_le_64 h1 h2)
theorem jp4:OpR X (binaryOp .Add) (rI0 fun i j=>.int (i+j)):=jsi fun _ _ _ _ _ _ _ q=>add_int q
theorem jpq:OpR X (binaryOp .Sub) (rI0 fun i j=>.int (i-j)):=jsi fun _ _ _ _ _ _ _ q=>sub_int q
theorem jpJ:OpR X (binaryOp .Mod) (rI (fun _ j=>0<j) fun i j=>.int (i%j)):=opI fun i j _ _ _ _ _ hc q=>by have h1:(0:Int)<j:=hc;exact mod_int' (by omega) (by rw [Int.fmod_eq_emod_of_nonneg i (by omega)];exact q)
theorem joM:OpR X (binaryOp .Pow) (rI jeH fun i j=>.int (i ^ j.toNat)):=opI fun _ _ _ _ _ _ _ hc q=>pow_int_small hc.1 hc.2.1 hc.2.2 q
theorem unI {f:Value->Sem Value} {g:Int->Int}
 (rule:∀(i:Int) (t:Tok) (s:Shared) (Q:Value->Shared->Prop) (E:Value->Shared->Prop),Q (.int (g i) s.toks) { s with toks:=s.toks+1 }->wpAny ‹"b"› X.A (f (.int i t)) Q E s) :
 UnR X f (rU fun i=>.int (g i)):=by
 intro tu s σ H x v Q I rx h;obtain ⟨i,rfl,q⟩:=h;obtain ⟨t,rfl⟩:=rx;exact rule i t s _ _ ⟨.int (g i),H,I.tok _,⟨_,rfl⟩,q⟩
theorem joA:UnR X (unaryOp .USub) (rU fun i=>.int (-i)):=unI fun _ _ _ _ _ q=>neg_int q
end
def jpV:V->V->Bool
 | .non,.non=>true | .non,.int _=>true | .int _,.non=>true | .non,.bl _=>true | .bl _,.non=>true | .non,.str _=>true | .str _,.non=>true
 | .int _,.int _=>true | .bl _,.bl _=>true | .str _,.str _=>true | .byt _,.byt _=>true
 | .int _,.str _=>true | .str _,.int _=>true | .bl _,.str _=>true | .str _,.bl _=>true
 | _,_=>false
def rEq:R2:=fun x y H Q=>jpV x y=true/\Q (.bl (decide (x=y))) H
def rNe:R2:=fun x y H Q=>jpV x y=true/\Q (.bl (!decide (x=y))) H
theorem jhN {i j:Int}:decide (V.int i=V.int j)=(i == j):=by rw [kK];simp
theorem jka {i j:Bool}:decide (V.bl i=V.bl j)=(i == j):=by rw [kK];simp
theorem jiu {i j:Str}:decide (V.str i=V.str j)=(i == j):=by rw [kK];simp
theorem jh6 {i j:Array UInt8}:decide (V.byt i=V.byt j)=(i.toList == j.toList):=by rw [kK];cases i;cases j;simp
section
variable {X:Cx} {a b c:Expr} {ta tb tc:TE} {pos:Pos}
theorem j4 {tu:List (Addr×Obj)} {σ:St} {H:Hp} {s:Shared} {Q:VK} {k k':Bool} (I:Inv X tu σ H s) (q:Q (.bl k) H) (e:k=k'):EP X tu σ Q (.bool k') s:=by subst e;exact ⟨.bl k,H,I,rfl,q⟩
theorem jqK:OpR X (compareOp .Eq) rEq:=by
 intro tu s σ H x y v u Q I rx ry h;obtain ⟨hs,q⟩:=h;cases x with
 | non=>
   cases rx;cases y with
   | non=>cases ry;exact PySem.EqNone.eq_none_none ‹"w"›
   | bl j=>cases ry;exact PySem.EqNone.eq_none_bool ‹"w"›
   | int j=>obtain ⟨t',rfl⟩:=ry;exact PySem.EqNone.eq_none_int ‹"w"›
   | str j=>obtain ⟨t',rfl⟩:=ry;exact PySem.EqNone.eq_none_str ‹"w"›
   | _=>exact absurd (show false=true from hs) Yh
 | bl i=>
   cases rx;cases y with
   | non=>cases ry;exact PySem.EqNone.eq_bool_none ‹"w"›
   | bl j=>cases ry;exact eq_bool (j4 I q jka)
   | str j=>obtain ⟨t',rfl⟩:=ry;exact PySem.EqMixed.eq_bool_str ‹"w"›
   | _=>exact absurd (show false=true from hs) Yh
 | int i=>
   obtain ⟨t,rfl⟩:=rx;cases y with
   | non=>cases ry;exact PySem.EqNone.eq_int_none ‹"w"›
   | int j=>obtain ⟨t',rfl⟩:=ry;exact eq_int (j4 I q jhN)
   | str j=>obtain ⟨t',rfl⟩:=ry;exact PySem.EqMixed.eq_int_str ‹"w"›
   | _=>exact absurd (show false=true from hs) Yh
 | str i=>
   obtain ⟨t,rfl⟩:=rx;cases y with
   | non=>cases ry;exact PySem.EqNone.eq_str_none ‹"w"›
   | bl j=>cases ry;exact PySem.EqMixed.eq_str_bool ‹"w"›
   | int j=>obtain ⟨t',rfl⟩:=ry;exact PySem.EqMixed.eq_str_int ‹"w"›
   | str j=>obtain ⟨t',rfl⟩:=ry;exact eq_str (j4 I q jiu)
   | _=>exact absurd (show false=true from hs) Yh
 | byt i=>
   obtain ⟨t,rfl⟩:=rx;cases y with
   | byt j=>obtain ⟨t',rfl⟩:=ry;exact PySem.W.eq_bytes (j4 I q jh6)
   | _=>exact absurd (show false=true from hs) Yh
 | _=>cases y <;> exact absurd (show false=true from hs) Yh
theorem jrF:OpR X (compareOp .NotEq) rNe:=by
 intro tu s σ H x y v u Q I rx ry h;obtain ⟨hs,q⟩:=h;cases x with
 | non=>
   cases rx;cases y with
   | non=>cases ry;exact PySem.EqNone.ne_none_none ‹"w"›
   | bl j=>cases ry;exact PySem.EqNone.ne_none_bool ‹"w"›
   | int j=>obtain ⟨t',rfl⟩:=ry;exact PySem.EqNone.ne_none_int ‹"w"›
   | str j=>obtain ⟨t',rfl⟩:=ry;exact PySem.EqNone.ne_none_str ‹"w"›
   | _=>exact absurd (show false=true from hs) Yh
 | bl i=>
   cases rx;cases y with
   | non=>cases ry;exact PySem.EqNone.ne_bool_none ‹"w"›
   | bl j=>cases ry;exact ne_bool (j4 I q (congrArg not jka))
   | str j=>obtain ⟨t',rfl⟩:=ry;exact PySem.EqMixed.ne_bool_str ‹"w"›
   | _=>exact absurd (show false=true from hs) Yh
 | int i=>
   obtain ⟨t,rfl⟩:=rx;cases y with
   | non=>cases ry;exact PySem.EqNone.ne_int_none ‹"w"›
   | int j=>obtain ⟨t',rfl⟩:=ry;exact ne_int (j4 I q (congrArg not jhN))
   | str j=>obtain ⟨t',rfl⟩:=ry;exact PySem.EqMixed.ne_int_str ‹"w"›
   | _=>exact absurd (show false=true from hs) Yh
 | str i=>
   obtain ⟨t,rfl⟩:=rx;cases y with
   | non=>cases ry;exact PySem.EqNone.ne_str_none ‹"w"›
   | bl j=>cases ry;exact PySem.EqMixed.ne_str_bool ‹"w"›
   | int j=>obtain ⟨t',rfl⟩:=ry;exact PySem.EqMixed.ne_str_int ‹"w"›
   | str j=>obtain ⟨t',rfl⟩:=ry;exact ne_str (j4 I q (congrArg not jiu))
   | _=>exact absurd (show false=true from hs) Yh
 | byt i=>
   obtain ⟨t,rfl⟩:=rx;cases y with
   | byt j=>obtain ⟨t',rfl⟩:=ry;exact PySem.W.ne_bytes (j4 I q (congrArg not jh6))
   | _=>exact absurd (show false=true from hs) Yh
 | _=>cases y <;> exact absurd (show false=true from hs) Yh
theorem jrU:OpR X (compareOp .Lt) (rI0 fun i j=>.bl (decide (i<j))):=jmI fun _ _ _ _ _ _ _ q=>lt_int q
theorem jrb:OpR X (compareOp .LtE) (rI0 fun i j=>.bl (decide (i<=j))):=jmI fun _ _ _ _ _ _ _ q=>le_int q
theorem jq4:OpR X (compareOp .Gt) (rI0 fun i j=>.bl (decide (j<i))):=jmI fun _ _ _ _ _ _ _ q=>gt_int q
theorem jqU:OpR X (compareOp .GtE) (rI0 fun i j=>.bl (decide (j<=i))):=jmI fun _ _ _ _ _ _ _ q=>ge_int q
theorem nomark (b:Expr) {op:CmpOp} (h:op≠.In:=by decide) (h2:op≠.NotIn:=by decide):behindInMarks op b=false:=by
 have e1:(op == CmpOp.In)=false:=by cases op <;> first | rfl | exact absurd rfl h
 have e2:(op == CmpOp.NotIn)=false:=by cases op <;> first | rfl | exact absurd rfl h2
 cases b <;> simp [behindInMarks,e1,e2]
theorem jm6 {op:CmpOp} {r:R2} (ho:OpR X (compareOp op) r) (ha:PE X a ta) (hb:PE X b tb) (hm:behindInMarks op b=false):PE X (.Compare a [op] [b] pos) (tOp r ta tb):=by intro tu s σ H Q I h;exact wpAny_Compare1 (jpM ha hb I h fun v u s2 x y H2 I2 rx ry q=>ho tu s2 σ H2 x y v u Q I2 rx ry q) hm
def jog (t:TE):TT:=fun σ H Q=>t σ H fun x H'=>∃k,x=.bl k/\Q k H'
theorem jma {op:CmpOp} {r:R2} (ho:OpR X (compareOp op) r) (ha:PE X a ta) (hb:PE X b tb) (hm:behindInMarks op b=false):PT X (.Compare a [op] [b] pos) (jog (tOp r ta tb)):=by
 intro tu s σ H Q I h;refine wpAny_isTrue_Compare1 (qu ‹"3"› fun v s1 ⟨x,H1,I1,r1,q1⟩=>qu (hb tu s1 σ H1 _ I1 q1) fun u s2 ⟨y,H2,I2,r2,q2⟩=>qu (ho tu s2 σ H2 x y v u _ I2 r1 r2 q2) fun c s3 ⟨z,H3,I3,r3,k,e,q3⟩=>?_) hm
 subst e;cases r3;exact yD ⟨H3,I3,q3⟩
def jkw (r r':R2) (ta tb tc:TE):TE:=fun σ H Q=>ta σ H fun x H1=>tb σ H1 fun y H2=>r x y H2 fun z H3=>∃k,z=.bl k /\
 (if k=true then tc σ H3 fun w' H4=>r' y w' H4 Q else Q (.bl false) H3)
theorem jlN {op op':CmpOp} {r r':R2} (ho:OpR X (compareOp op) r) (ho':OpR X (compareOp op') r') (ha:PE X a ta) (hb:PE X b tb) (hc:PE X c tc)
 (hm:autoParam (lastMarks [op,op'] [b,c]=false) QA.a6._auto_1):PE X (.Compare a [op,op'] [b,c] pos) (jkw r r' ta tb tc):=by
 intro tu s σ H Q I h;refine Compare_chain (qu ‹"3"› fun v s1 ⟨x,H1,I1,r1,q1⟩=>chain_link (qu (hb tu s1 σ H1 _ I1 q1) fun u s2 ⟨y,H2,I2,r2,q2⟩=>qu (ho tu s2 σ H2 x y v u _ I2 r1 r2 q2) fun d s3 ⟨z,H3,I3,r3,k,e,q3⟩=>?_)) hm
 subst e;cases r3;refine yD ?_;cases k with
 | false=>exact ite_ff ⟨.bl false,H3,I3,rfl,q3⟩
 | true=>exact ite_tt (chain_last (qu (hc tu s3 σ H3 _ I3 q3) fun w' s4 ⟨z',H4,I4,r4,q4⟩=>ho' tu s4 σ H4 y z' u w' Q I4 r2 r4 q4))
theorem jae:(sizeLine:Nat)<2 ^ 63:=by rw [KJ];decide
theorem jbz {x:V} {us:List Value} (r:Vals [x] us):∃u,us=[u]/\RelV x u:=by
 cases r with
 | cons r1 r2=>cases r2;exact ⟨_,rfl,r1⟩
theorem jk9 {x y:V} {us:List Value} (r:Vals [x,y] us):∃u w',us=[u,w']/\RelV x u/\RelV y w':=by
 cases r with
 | cons r1 r2=>
   cases r2 with
   | cons r3 r4=>cases r4;exact ⟨_,_,rfl,r1,r3⟩
theorem jiT (hc:X.calm=true):CallR X (.builtin "max") (fun xs H Q=>∃i j,xs=[.int i,.int j] ∧ Q (.int (if j>i then j else i)) H):=by
 intro tu s σ H xs us Q I r h;obtain ⟨i,j,rfl,q⟩:=h;obtain ⟨u,w',rfl,⟨t,rfl⟩,⟨t',rfl⟩⟩:=jk9 r;refine max_two_ints (I.ok.hd hc) fun h' tk k=>⟨_,H,I.kept k,?_,q⟩;by_cases hj:j>i
 . rw [if_pos hj,if_pos hj];exact ⟨_,rfl⟩
 . rw [if_neg hj,if_neg hj];exact ⟨_,rfl⟩
theorem jiP (hc:X.calm=true):CallR X (.builtin "min") (fun xs H Q=>∃i j,xs=[.int i,.int j] ∧ Q (.int (if j<i then j else i)) H):=by
 intro tu s σ H xs us Q I r h;obtain ⟨i,j,rfl,q⟩:=h;obtain ⟨u,w',rfl,⟨t,rfl⟩,⟨t',rfl⟩⟩:=jk9 r;refine min_two_ints (I.ok.hd hc) fun h' tk k=>⟨_,H,I.kept k,?_,q⟩;by_cases hj:j<i
 . rw [if_pos hj,if_pos hj];exact ⟨_,rfl⟩
 . rw [if_neg hj,if_neg hj];exact ⟨_,rfl⟩
theorem jjG:CallR X (.type "int") (fun xs H Q=>(∃i,xs=[.int i] ∧ Q (.int i) H) ∨ ∃k,xs=[.bl k] ∧ Q (.int (if k then 1 else 0)) H):=by
 intro tu s σ H xs us Q I r h;rcases h with ⟨i,rfl,q⟩ | ⟨k,rfl,q⟩
 . obtain ⟨u,rfl,t,rfl⟩:=jbz r;exact call_int_int ⟨.int i,H,I,⟨_,rfl⟩,q⟩
 . obtain ⟨u,rfl,r1⟩:=jbz r;cases r1;exact call_int_bool ⟨.int (if k then 1 else 0),H,I.tok _,⟨_,rfl⟩,q⟩
end
end L2
namespace L2
open PySem PySem.Spec PyProof.Rows
structure ObjM (h:Heap) (x dx C:Addr) (mA:Str->Option Value):Prop where
 obj:h.get? x=some (PySem.W.instObj C dx)
 ns:h.Ns1 dx mA
 ne:dx≠x
theorem jju {h:Heap} {dx:Addr} {mA:Str->Option Value} (n:h.Ns1 dx mA):∃od,h.get? dx=some od/\∀name,PySem.W.lookIn name od=some (mA name):=by
 obtain ⟨o,es,ep,ho,hd,hk,_,hm⟩:=n;refine ⟨o,ho,fun name=>?_⟩;have e:=hm name;unfold nsFind findBy at e;rw [<-Array.find?_toList] at e;unfold PySem.W.lookIn;rw [hd];dsimp only;split
 . rename_i y q;rw [q] at e;exact congrArg some e
 . rename_i q;rw [q] at e;have a:es.toList.any (·.refKey)=false:=by rw [List.any_eq_false];intro y hy;obtain ⟨z,t,hkey⟩:=hk y (Array.mem_toList_iff.mp hy);simp [DictEntry.refKey,hkey]
   have a':¬es.toList.any (·.refKey)=true:=by rw [a];exact Yh
   rw [if_neg a'];exact congrArg some e
theorem ObjM.look {h:Heap} {x dx C:Addr} {mA:Str->Option Value} (I:ObjM h x dx C mA):∃od,PySem.W.InstAt h x (PySem.W.instObj C dx) C (some od)/\∀name,PySem.W.lookIn name od=some (mA name):=
 let ⟨od,ho,hl⟩:=jju I.ns
 ⟨od,⟨I.obj,rfl,rfl,ho⟩,hl⟩
section
variable {prog:Program} {w:World} {A:Around} {E:Value->Shared->Prop} {s:Shared} {K:PySem.W.Frag} {x dx C f:Addr} {mA:Str->Option Value} {name:Str} {v:Value}
end
theorem RelO.some_of {v:V} {o:Option Value} (r:RelO (some v) o):∃u,o=some u/\RelV v u:=by
 cases o with
 | none=>exact (show False from r).elim
 | some u=>exact ⟨u,rfl,r⟩
section
variable {P:Program} {w:World} {H H':Hp} {h h':Heap} {a C dx:Addr} {fs fs':List (Str×V)}
theorem jmC (hok:HOk P w H h) (e:H a=some (.ins C dx fs)):∃mA,ObjM h a dx C mA/\(∀f,RelO (fs.lookup f) (mA f))/\PySem.Within mA (fs.map (·.1))/\fs.length<=1000/\H dx=some (.own a):=by obtain ⟨d,z,ne,ob,mA,n,r,q⟩:=(show ObjOk P w H h a (.ins C dx fs) from hok a _ e);exact ⟨mA,⟨ob,n,ne⟩,r,q,z,d⟩
end
structure Cls (K:PySem.W.Frag) (C:Addr):Prop where
 pg:PySem.W.plainGet K C Str.empty=true
 hd:PySem.W.hasDictIn K C=true
 po:PySem.W.plainOver K C=true
 sa:PySem.W.findIn K (.ref C) "__setattr__"=some (some (.builtin "object.__setattr__"))
theorem Cls.get {K:PySem.W.Frag} {C:Addr} (c:Cls K C) (f:Str):PySem.W.plainGet K C f=true:=c.pg
section
variable {X:Cx} {tu:List (Addr×Obj)} {σ:St} {H:Hp} {s:Shared} {a C dx:Addr} {fs:List (Str×V)} {f:Str} {v:V} {A:Around} {E:Value->Shared->Prop}
end
section
variable {X:Cx} {o e value:Expr} {f:Str} {pos pos' tpos:Pos} {ta tv:TE}
end
section
variable {X:Cx} {tu:List (Addr×Obj)} {σ:St} {H:Hp} {s:Shared} {A:Around} {E:Value->Shared->Prop} {Q:Value->Shared->Prop} {c:Value} {b:Bool}
inductive TyOf (K:PySem.W.Frag) (H:Hp):V->Value->Prop where
 | non:TyOf K H .non (.type "NoneType")
 | bl (x:Bool):TyOf K H (.bl x) (.type "bool")
 | int (i:Int):TyOf K H (.int i) (.type "int")
 | str (x:Str):TyOf K H (.str x) (.type "str")
 | flt (x:UInt64):TyOf K H (.flt x) (.type "float")
 | lst {a:Addr} {xs:List V} (e:H a=some (.lst xs)):TyOf K H (.ref a) (.type "list")
 | frz {a:Addr} {o:Obj} {xs:List V} (e:H a=some (.frz o (.lst xs))):TyOf K H (.ref a) (.type "list")
 | tup {a:Addr} {xs:List V} (e:H a=some (.tup xs)):TyOf K H (.ref a) (.type "tuple")
 | dK {a:Addr} {kvs:List (zj×V)} (e:H a=some (.dK kvs)):TyOf K H (.ref a) (.type "dict")
 | dT {a:Addr} {kvs:List (List zj×V)} (e:H a=some (.dT kvs)):TyOf K H (.ref a) (.type "dict")
 | ins {a C dx:Addr} {fs:List (Str×V)} (e:H a=some (.ins C dx fs)) (cl:Cls K C) (ha:PySem.W.findIn K (.ref C) "__class__"=some (some (.builtin "object.__class__")))
  (hn:PySem.W.specialIn K (.builtin "object.__class__") "__get__"=some (some (.builtin "getset_descriptor.__get__"))) (htk:PySem.W.takesIn K (.builtin "object.__class__")=some true)
  (hm:PySem.W.mroIn K C (.type "object")=some true):TyOf K H (.ref a) (.ref C)
theorem jjn {x:V} {u t:Value} (I:Inv X tu σ H s) (rx:RelV x u) (ty:TyOf X.K H x t) (e:PySem.W.kitOne X.K t c=some b) (h:∀tk,Q (.bool b) { s with toks:=tk }) :
 wpAny ‹"b"› A (call (.builtin "isinstance") [u,c]) Q E s:=by
 cases ty with
 | non=>cases (show u=Value.none from rx);exact yr PySem.W.kitx_none I.kIn True.intro e (fun z=>nomatch z) h
 | bl y=>cases (show u=Value.bool y from rx);exact yr PySem.W.kitx_bool I.kIn True.intro e (fun z=>nomatch z) h
 | int i=>obtain ⟨t,q⟩:=(show ∃t,u=Value.int i t from rx);cases q;exact yr PySem.W.kitx_int I.kIn True.intro e (fun z=>nomatch z) h
 | str y=>obtain ⟨t,q⟩:=(show ∃t,u=Value.str y t from rx);cases q;exact yr PySem.W.kitx_str I.kIn True.intro e (fun z=>nomatch z) h
 | flt y=>obtain ⟨t,q⟩:=(show ∃t,u=Value.float y t from rx);cases q;exact yr PySem.W.kitx_float I.kIn True.intro e (fun z=>nomatch z) h
 | @lst a xs ea=>cases (show u=Value.ref a from rx);obtain ⟨_,_,n,_,h1⟩:=(show ObjOk X.prog X.w H s.heap a (.lst xs) from I.hok a _ ea);exact yr PySem.W.kitx_list I.kIn ⟨_,h1,rfl⟩ e (fun z=>nomatch z) h
 | @frz a ob xs ea=>cases (show u=Value.ref a from rx);obtain ⟨_,_,_,n,_,h1⟩:=(show ObjOk X.prog X.w H s.heap a (.frz ob (.lst xs)) from I.hok a _ ea);exact yr PySem.W.kitx_list I.kIn ⟨_,h1,rfl⟩ e (fun z=>nomatch z) h
 | @tup a xs ea=>cases (show u=Value.ref a from rx);obtain ⟨_,_,_,p⟩:=(show ObjOk X.prog X.w H s.heap a (.tup xs) from I.hok a _ ea);obtain ⟨o,h1,h2,_⟩:=p;exact yr PySem.W.kitx_tuple I.kIn ⟨o,h1,h2⟩ e (fun z=>nomatch z) h
 | @dK a kvs ea=>cases (show u=Value.ref a from rx);obtain ⟨_,_,vs,_,p⟩:=(show ObjOk X.prog X.w H s.heap a (.dK kvs) from I.hok a _ ea);obtain ⟨o,es,ep,h1,h2,_⟩:=p;exact yr PySem.W.kitx_dict I.kIn ⟨o,h1,h2.1⟩ e (fun z=>nomatch z) h
 | @dT a kvs ea=>cases (show u=Value.ref a from rx);obtain ⟨_,_,xs,_,o,es,ep,h1,h2,_⟩:=(show ObjOk X.prog X.w H s.heap a (.dT kvs) from I.hok a _ ea);exact yr PySem.W.kitx_dict I.kIn ⟨o,h1,h2.1⟩ e (fun z=>nomatch z) h
 | @ins a C dx fs ea cl ha hn htk hm=>cases (show u=Value.ref a from rx);obtain ⟨mA,O,_⟩:=jmC I.hok ea;obtain ⟨od,J,_⟩:=O.look;exact yr (PySem.W.kitx_own (cl.get _) cl.hd ha hn htk hm) I.kIn J e (fun z=>nomatch z) h
end
end L2
namespace L2
open PySem PySem.Spec PyProof.Rows
structure Room (k:Nat) (A:Around):Prop where
 hd:A.handled=none
 dp:A.depth+3*k+5<recursionLimit
 un:A.units+16*k+200<cLine
theorem Room.mono {j k:Nat} {A:Around} (r:Room k A) (h:j<=k):Room j A:=⟨r.hd,by have:=r.dp;omega,by have:=r.un;omega⟩
theorem Room.deeper {k:Nat} {A:Around} (r:Room (k+1) A) (env:Env):Room k (A.deeper env):=⟨r.hd,by have:=r.dp;show A.depth+1+3*k+5<_;omega,by have:=r.un;show A.units+3+16*k+200<_;omega⟩
theorem Room.depth {k:Nat} {A:Around} (r:Room k A):A.depth<recursionLimit:=by have:=r.dp;omega
theorem Room.units {k:Nat} {A:Around} (r:Room k A):A.units+64<cLine:=by have:=r.un;omega
def jjI:TA:=fun _ H Q=>Q [] H
def jda (ta:TE) (tr:TA):TA:=fun σ H Q=>ta σ H fun x H1=>tr σ H1 fun xs H2=>Q (x::xs) H2
section
variable {X:Cx} {e:Expr} {es:List Expr} {te:TE} {t:TA} {pos:Pos}
theorem jba:PA X [] jjI:=fun _ _ _ _ H Q I h=>yS ⟨[],H,I,.nil,h⟩
theorem QK (ha:PE X e te) (hr:PA X es t) (hs:starEach (e::es) X.env=(false,eval e X.env)::starEach es X.env:=by rfl):PA X (e::es) (jda te t):=by intro pos tu s σ H Q I h;rw [hs];show wpAny _ _ (spliced ((false,eval e X.env)::backTo pos (starEach es X.env))) _ _ s;refine yA (qu ‹"3"› fun u s1 zz=>?_);obtain ⟨x,H1,I1,r1,q1⟩:=zz;exact qu (hr pos tu s1 σ H1 _ I1 q1) fun us s2 ⟨xs,H2,I2,r2,q2⟩=>⟨x::xs,H2,I2,.cons r1 r2,q2⟩
def jqJ (t:TA):TE:=fun σ H Q=>t σ H fun xs H1=>xs.length<=sizeLine/\∀p,H1 p=none->Q (.ref p) (upd H1 p (.tup xs))
def jri (t:TA):TE:=fun σ H Q=>t σ H fun xs H1=>xs.length<=sizeLine/\∀p,H1 p=none->Q (.ref p) (upd H1 p (.lst xs))
theorem jpj {x1} (h:PA X es t):PE X (.Tuple es x1 pos) (jqJ t):=by intro tu s σ H Q I hq;refine wpAny_Tuple_spliced ‹"ao"›;have hf:H1 s1.heap.objs.size=none:=I1.hok.fresh (Ym _);refine ⟨.ref s1.heap.objs.size,upd H1 s1.heap.objs.size (.tup xs),I1.laid (t':=s1.toks) (fun b u e=>Yg _ e) (Ym _) ?_,rfl,q _ hf⟩;exact ⟨z,us,r,⟨_,Ys _ rfl,rfl,_,rfl⟩⟩
theorem joZ (h:PA X es t):PE X (.List es pos) (jri t):=by intro tu s σ H Q I hq;refine wpAny_List_spliced ‹"ao"›;have hf:H1 s1.heap.objs.size=none:=I1.hok.fresh (Ym _);refine ⟨.ref s1.heap.objs.size,upd H1 s1.heap.objs.size (.lst xs),I1.laid (t':=s1.toks) (fun b u e=>Yg _ e) (Ym _) ?_,rfl,q _ hf⟩;exact ⟨z,us,0,r,Ys _ rfl⟩
end
abbrev Sp:=List V->Hp->VK->XK->Prop
abbrev CXT:=List Env->Hp->Shared->XK->Value->Shared->Prop
structure Env0 (P:Program) (w:World) (K:PySem.W.Frag) (mg:Str->Option Value) (base:Heap) (A:Around) (outer:List Env) (s:Shared) (H:Hp):Prop where
 frames:A.frames=some outer
 mod:Mod K mg base
 bs:∀b o,base.get? b=some o->s.heap.get? b=some o/\H b=none
 bsz:base.objs.size<=s.heap.objs.size
 funs:s.heap.FunFrames base outer
 frf:∀b∈frs outer,H b=none
 hok:HOk P w H s.heap
 bare:AllBare s.gens
def CE (outer:List Env) (P:Program) (w:World) (H:Hp) (s:Shared) (Q:VK) (u:Value) (s':Shared):Prop:=∃v H',s'.os=s.os/\AllBare s'.gens/\Un (frs outer) [] H H' s.heap s'.heap/\HOk P w H' s'.heap/\RelV v u/\Q v H'
def CR (CX:CXT) (outer:List Env) (P:Program) (w:World) (H:Hp) (s:Shared) (Q:VK) (E:XK) (r:Result) (s':Shared):Prop:=
 match r with
 | .ok (.ret u)=>CE outer P w H s Q u s'
 | .ok _=>False
 | .error e=>CX outer H s E e s'
structure FnOk (P:Program) (w:World) (K:PySem.W.Frag) (mg:Str->Option Value) (base:Heap) (CX:CXT) (k:Nat) (f:Addr) (fd:FuncData) (ps:List Str) (sp:Sp):Prop where
 len:∀vs H Q E,sp vs H Q E->vs.length=ps.length
 run:∀(A:Around) (outer:List Env) (s:Shared) (H:Hp) (args:Args) (us:List Value) (vs:List V) (Q:VK) (E:XK),Room k A->Env0 P w K mg base A outer s H->BindsTo s fd args (ps.zip us)->Vals vs us->sp vs H Q E->
  codeAny (model P w) A (.call (.ref f) args) (CR CX outer P w H s Q E) s
theorem FnOk.mono {P:Program} {w:World} {K:PySem.W.Frag} {mg:Str->Option Value} {base:Heap} {CX:CXT} {j k:Nat} {f:Addr} {fd:FuncData} {ps:List Str} {sp:Sp} (F:FnOk P w K mg base CX j f fd ps sp) (h:j<=k) :
 FnOk P w K mg base CX k f fd ps sp:=⟨F.len,fun A outer s H args us vs Q E hr=>F.run A outer s H args us vs Q E (hr.mono h)⟩
theorem FnOk.imp {P:Program} {w:World} {K:PySem.W.Frag} {mg:Str->Option Value} {base:Heap} {CX:CXT} {k:Nat} {f:Addr} {fd:FuncData} {ps:List Str} {sp sp':Sp} (F:FnOk P w K mg base CX k f fd ps sp)
 (h:∀vs H Q E,sp' vs H Q E->sp vs H Q E):FnOk P w K mg base CX k f fd ps sp':=
 ⟨fun vs H Q E q=>F.len vs H Q E (h _ _ _ _ q),fun A outer s H args us vs Q E hr he hb hv hs=>F.run A outer s H args us vs Q E hr he hb hv (h _ _ _ _ hs)⟩
section
variable {X:Cx} {tu:List (Addr×Obj)} {σ:St} {H:Hp} {s s':Shared}
theorem Inv.env0 (I:Inv X tu σ H s):Env0 X.prog X.w X.K X.mg X.base X.A X.stack s H:=⟨I.ok.frames,I.ok.mod,I.bs,YW I.ok.bsz I.sz,I.stack,I.stkFree,I.hok,I.bare⟩
theorem Inv.after {Q:VK} {u:Value} (I:Inv X tu σ H s) (h:CE X.stack X.prog X.w H s Q u s'):EP X tu σ Q u s':=by obtain ⟨v,H',os,bare,un,hok,r,q⟩:=h;obtain ⟨hh,g,d,t,os'⟩:=s';obtain rfl:os'=s.os:=os;exact ⟨v,H',I.call (h':=hh) (g':=g) (d':=d) (t':=t) (ch:=[]) un hok bare (fun b z=>absurd z (by simp)),r,q⟩
end
def jj3 (sp:Sp) (dvs:List V) (E:XK) (t:TA):TE:=fun σ H Q=>t σ H fun vs H1=>sp (vs++dvs) H1 Q E
def Binds (K:PySem.W.Frag) (fd:FuncData) (ps:List Str) (ds:List Value):Prop:=∀(s:Shared) (us:List Value),K.In s.heap->(us++ds).length=ps.length->BindsTo s fd ⟨us,[]⟩ (ps.zip (us++ds))
theorem Binds.all {K:PySem.W.Frag} {fd:FuncData} {ps:List Str} (h:∀us:List Value,us.length=ps.length->bindArgs fd ⟨us,[]⟩=pure (ps.zip us)):Binds K fd ps []:=fun s us _ hl=>by rw [yW] at hl ⊢;exact .of_eq (h us hl)
def jhf (CX:CXT) (X:Cx) (E:XK):Prop:=∀(tu:List (Addr×Obj)) (σ:St) (H:Hp) (s:Shared) (e:Value) (s':Shared),Inv X tu σ H s->CX X.stack H s E e s'->X.xe e s'
section
variable {X:Cx} {CX:CXT} {k:Nat} {f C:Addr} {fd:FuncData} {ps:List Str} {sp:Sp} {dvs:List V} {ds:List Value} {E:XK} {x m:Str} {p pos apos:Pos} {e o:Expr} {es:List Expr} {ta:TE} {t:TA}
theorem jqb {tu:List (Addr×Obj)} {σ:St} {H:Hp} {s:Shared} {Q:VK} {us:List Value} {vs:List V} (F:FnOk X.prog X.w X.K X.mg X.base CX k f fd ps sp) (hr:Room k X.A) (hb:Binds X.K fd ps ds) (hd:Vals dvs ds) (hx:jhf CX X E)
 (I:Inv X tu σ H s) (r:Vals vs us) (h:sp (vs++dvs) H Q E):wpAny ‹"b"› X.A (call (.ref f) us) (EP X tu σ Q) X.xe s:=by
 have r2:Vals (vs++dvs) (us++ds):=r.append hd;have hl:(us++ds).length=ps.length:=by rw [<-r2.length];exact F.len _ _ _ _ h
 refine wpAny_call (kM (F.run X.A X.stack s H ⟨us,[]⟩ (us++ds) (vs++dvs) Q E hr I.env0 (hb s us I.kIn hl) r2 h) fun r s' hq=>?_);cases r with
 | error e=>exact hx tu σ H s e s' I hq
 | ok fl=>
   cases fl with
   | ret u=>exact I.after hq
   | next=>exact False.elim hq
   | brk=>exact False.elim hq
   | cont=>exact False.elim hq
theorem jiH (F:FnOk X.prog X.w X.K X.mg X.base CX k f fd ps sp) (hr:Room k X.A) (hg:Gl X x) (hm:X.mg x=some (.ref f)) (hk:PySem.W.keepIn X.K (.ref f)=true) (hb:Binds X.K fd ps ds) (hd:Vals dvs ds) (hx:jhf CX X E)
 (ha:PA X (e::es) t) (hdb:‹"l"›=false:=by decide) (he:starEach (e::es) X.env=(false,eval e X.env)::starEach es X.env:=by rfl) (hpl:(backTo pos (starEach es X.env)).any (·.1)=false:=by rfl) :
 PE X ‹"K"› (jj3 sp dvs E t):=by
 intro tu s σ H Q I h;refine Kv (jhL I hg hm ?_ hdb);refine PySem.W.callWith_K (h₀:=X.base) I.ok.mod.kin hk (qu (ha pos tu s σ H _ I h) fun us s1 ⟨vs,H1,I1,r,q⟩=>⟨I1.kIn,?_⟩) he hpl;exact jqb F hr hb hd hx I1 r q
end
section
variable {X:Cx} {CX:CXT} {k:Nat} {f C:Addr} {fd:FuncData} {ps ks:List Str} {sp:Sp} {E:XK} {x m:Str} {p pos apos kpos:Pos} {e o:Expr} {es:List Expr} {kws:List Keyword} {te ta:TE} {t tk:TA} {nm:Option Str}
variable {g:List Value->List Value->List Value} {gV:List V->List V->List V}
end
structure FnScope (N P:List Str) (sc:Scope):Prop where
 kind:sc.kind=.function
 co:sc.isCoroutine=false
 gen:sc.isGenerator=false
 nd:N.Nodup
 pre:N.take P.length=P
 par:∀x∈P,sc.names.lookup x=some .local\/sc.names.lookup x=some .cell
 nofree:∀y∈sc.names,y.2≠.free
theorem jdH {kindOf:Str->Option NameKind} {x:Str}:∀{binds:List (Str×Value)} {m:Str->Option Value},(∀v,(x,v)∉binds)->bindL kindOf binds m x=m x
 | [],_,_=>rfl
 | (n,v)::r,m,h=>by
   unfold bindL;rw [jdH fun w hw=>h w (Yf _ hw)];split
   . have:x≠n:=by rintro rfl;exact h v Ye
     simp [this]
   . rfl
theorem jdB {kindOf:Str->Option NameKind} {x:Str}:∀{binds:List (Str×Value)} {m:Str->Option Value},(∀v,(x,v)∉binds)->bindC kindOf binds m x=m x
 | [],_,_=>rfl
 | (n,v)::r,m,h=>by
   unfold bindC;rw [jdB fun w hw=>h w (Yf _ hw)];split
   . rfl
   . have:x≠n:=by rintro rfl;exact h v Ye
     simp [this]
theorem jdx {kindOf:Str->Option NameKind} {x:Str} {v:Value}:∀{P:List Str} {vs:List Value} {i:Nat} {m:Str->Option Value},P.Nodup->P[i]?=some x->vs[i]?=some v->kindOf x=some .local->
 bindL kindOf (P.zip vs) m x=some v
 | [],_,_,_,_,h,_,_=>by simp at h
 | _::_,[],_,_,_,_,h,_=>by simp at h
 | p::P,w::vs,0,m,nd,h1,h2,hk=>by simp at h1 h2;subst h1;subst h2;show bindL kindOf ((p,w)::P.zip vs) m p=_;unfold bindL;rw [jdH fun v hv=>(Y9.mp nd).1 (Km hv).1,if_pos hk];simp
 | p::P,w::vs,i+1,m,nd,h1,h2,hk=>by show bindL kindOf ((p,w)::P.zip vs) m x=_;unfold bindL;exact jdx (i:=i) (Y9.mp nd).2 (by simpa using h1) (by simpa using h2) hk
theorem jdP {kindOf:Str->Option NameKind} {x:Str} {v:Value}:∀{P:List Str} {vs:List Value} {i:Nat} {m:Str->Option Value},P.Nodup->P[i]?=some x->vs[i]?=some v->kindOf x≠some .local->
 bindC kindOf (P.zip vs) m x=some v
 | [],_,_,_,_,h,_,_=>by simp at h
 | _::_,[],_,_,_,_,h,_=>by simp at h
 | p::P,w::vs,0,m,nd,h1,h2,hk=>by simp at h1 h2;subst h1;subst h2;show bindC kindOf ((p,w)::P.zip vs) m p=_;unfold bindC;rw [jdB fun v hv=>(Y9.mp nd).1 (Km hv).1,if_neg hk];simp
 | p::P,w::vs,i+1,m,nd,h1,h2,hk=>by show bindC kindOf ((p,w)::P.zip vs) m x=_;unfold bindC;exact jdP (i:=i) (Y9.mp nd).2 (by simpa using h1) (by simpa using h2) hk
def Z7 (N:List Str) (vs:List V):St:=vs.map some++List.replicate (N.length-vs.length) none
def jgE (CX:CXT) (P:Program) (w:World) (K:PySem.W.Frag) (mg:Str->Option Value) (base:Heap) (N:List Str) (qual:Str) (scope:Scope) (f:Addr) (cd:Value) (A:Around) (outer:List Env) (s:Shared) (H:Hp) (E:XK):Cx where
 prog:=P
 w:=w
 K:=K
 mg:=mg
 base:=base
 A:=A.deeper ‹"S"›
 N:=N
 s₀:=s
 H₀:=H
 env:=envOfC qual scope s.heap.objs.size f cd
 outer:=outer
 stack:=envOfC qual scope s.heap.objs.size f cd::outer
 ex:=[]
 calm:=true
 fn:=fun _=>true
 pn:=[]
 xe:=fun e s'=>wpAny (model P w) (A.deeper ‹"S"›) (leaving ‹"S"› e) (fun _ s''=>CX outer H s E e s'') (fun e' s''=>CX outer H s E e' s'') s'
theorem jfe {sc:Scope} {n:Nat} {x:Str} (h:sc.names.lookup x=some .cell):∃c,(cellsFrom n sc.names []).lookup x=some c:=by have q:=PySem.W.cellsFrom_some sc.names n [] (.inl h);exact Option.isSome_iff_exists.mp q
theorem jjH {CX:CXT} {P:Program} {w:World} {K:PySem.W.Frag} {mg:Str->Option Value} {base:Heap} {N ps:List Str} {qual:Str} {scope:Scope} {f:Addr} {cd:Value} {A:Around} {outer:List Env} {s s1:Shared} {H:Hp} {E:XK} {us:List Value} {vs:List V}
 (S:FnScope N ps scope) (hd:A.handled=none) (e0:Env0 P w K mg base A outer s H) (hl:vs.length=ps.length) (r:Vals vs us)
 (x:InCallC s s.heap.objs.size (bindL ‹"S"›.kindOf (ps.zip us) fun _=>none) (cellsFrom (s.heap.objs.size+1) scope.names []) (bindC ‹"S"›.kindOf (ps.zip us) fun _=>none) s1) :
 Inv (jgE CX P w K mg base N qual scope f cd A outer s H E) [] (Z7 N vs) H s1:=by
 have hpl:ps.length<=N.length:=by have:=congrArg List.length S.pre;rw [Kt] at this;omega
 obtain ⟨h1,tk,rfl,hk⟩:=x.done;have noA:∀b:Addr,b∉(jgE CX P w K mg base N qual scope f cd A outer s H E).ex:=fun b z=>absurd (show b∈([]:List Addr) from z) (by simp);refine ⟨⟨e0.mod,S.kind,rfl,rfl,Ym _,fun y z c h1 h2=>?_,fun y hy=>?_,fun y c _ h=>?_,fun _=>hd,Around.frames_deeper e0.frames,.inr ⟨rfl,rfl⟩,fun b z=>absurd z (noA b),e0.bs,e0.bsz,fun b _ _=>noA b,fun b z=>absurd z (noA b),e0.funs,e0.frf⟩,
  rfl,e0.bare,Un.kept hk,⟨_,x.toInCall.ns,fun i y v h1 h2 h3=>?_⟩,fun y c h=>⟨_,x.cell y c h⟩,e0.hok.fresh (Ym _),fun y c h=>?_,fun p hp=>absurd (show p∈([]:List (Addr×Obj)) from hp) (by simp),e0.hok.kept hk,?_⟩
 . exact name_of_addr x.apart (Kr h1) (Kr h2)
 . have hy:scope.names.lookup y=some .cell\/scope.names.lookup y=some .free:=hy;rcases hy with hy | hy
   . exact jfe hy
   . exact absurd rfl (S.nofree _ (Kr hy))
 . exact yP (x.above y c (Kr h))
 . have hi:i<vs.length:=by
    unfold Z7 at h2;by_cases hi:i<vs.length
    . exact hi
    . rw [YH ‹"ab"›] at h2;rw [List.getElem?_replicate] at h2;split at h2 <;> cases h2
   have ha:vs[i]?=some v:=by
    unfold Z7 at h2;rw [YD ‹"ab"›,List.getElem?_map] at h2;cases e:vs[i]? with
    | none=>rw [e] at h2;cases h2
    | some a=>rw [e] at h2;cases h2;rfl
   obtain ⟨u,hu,rv⟩:=r.get ha;have hp:ps[i]?=some y:=by rw [<-S.pre,List.getElem?_take_of_lt (by omega)];exact h1
   have ndP:ps.Nodup:=by rw [<-S.pre];exact S.nd.sublist (List.take_sublist _ _)
   refine ⟨u,rv,?_⟩;rcases S.par y (Yz hp) with k | k
   . exact .inl ⟨k,jdx ndP hp hu k⟩
   . obtain ⟨c,e⟩:=jfe (n:=s.heap.objs.size+1) k;refine .inr ⟨.inl k,c,e,?_⟩;have q:=x.cell y c e;rw [jdP ndP hp hu (by show scope.names.lookup y≠_;rw [k];decide)] at q;exact q
 . exact e0.hok.fresh (yP (x.above y c (Kr h)))
 . unfold Z7;show _=N.length;rw [YG,Yd,List.length_replicate];omega
theorem jrY {CX:CXT} {P:Program} {w:World} {K:PySem.W.Frag} {mg:Str->Option Value} {base:Heap} {k:Nat} {f:Addr} {name qual:Str} {params:Arguments} {body:List Stmt} {scope:Scope} {dV kV doc pm cdv ct oc:Value} {an od:Option Addr}
 {osl:Array (Option Value)} {N ps:List Str} {sp:Sp} (lk:K.lookup f=some ⟨oc,od,.func (PySem.W.fnOf name qual params body scope dV kV doc pm an cdv ct),osl⟩) (hcd:PySem.W.codeIn K cdv qual=true) (S:FnScope N ps scope)
 (len:∀vs H Q E,sp vs H Q E->vs.length=ps.length)
 (hbody:∀(A:Around) (outer:List Env) (s:Shared) (H:Hp) (vs:List V) (Q:VK) (E:XK),Room k (A.deeper (envOfC qual scope s.heap.objs.size f cdv))->sp vs H Q E->
  ∃t,PSs (jgE CX P w K mg base N qual scope f cdv A outer s H E) body t/\t { nx:=fun _ H'=>Q .non H',rt:=Q } (Z7 N vs) H) :
 FnOk P w K mg base CX (k+1) f (PySem.W.fnOf name qual params body scope dV kV doc pm an cdv ct) ps sp:=by
 refine ⟨len,fun A outer s H args us vs Q E hr e0 hb r hsp=>?_⟩;have hl:=len _ _ _ _ hsp;have KX:K.In s.heap:=e0.mod.kin.keeps fun b o e=>(e0.bs b o e).1;have lim:s.heap.NoLimit:=e0.mod.nolimit.keeps fun b o e=>(e0.bs b o e).1;have hkind:∀y∈ps.zip us,scope.names.lookup y.1=some .local\/(scope.names.lookup y.1=some .cell/\((cellsFrom (s.heap.objs.size+1) scope.names []).lookup y.1).isSome=true):=fun ⟨n,v⟩ hy=>by
  rcases S.par n (Km hy).1 with q | q
  . exact .inl q
  . exact .inr ⟨q,PySem.W.cellsFrom_some _ _ _ (.inl q)⟩
 refine codeAny_call_function hr.depth (KX _ _ lk) rfl S.co S.gen rfl (PySem.W.codeRec_of KX hcd) (hb _ _ _ _ ?_);refine wpAny_newFunctionEnv_cells S.kind hkind fun env he s1 x=>?_;subst he;refine ⟨lim.keeps x.toInCall.keep,codeAny_func ?_⟩;obtain ⟨t,ht,hq⟩:=hbody A outer s H vs Q E (hr.deeper _) hsp;have I:Inv (jgE CX P w K mg base N qual scope f cdv A outer s H E) [] (Z7 N vs) H s1:=jjH S hr.hd e0 hl r x;refine yk (ht [] s1 (Z7 N vs) H _ I hq) (fun fl s' hs=>?_) fun e s' hs=>hs;have fin:∀{σ':St} {H':Hp} {v:V} {u:Value},Inv (jgE CX P w K mg base N qual scope f cdv A outer s H E) [] σ' H' s'->RelV v u->Q v H'->CE outer P w H s Q u s':=fun {σ' H' v u} J rv q=>⟨v,H',J.os,J.bare,J.base,J.hok,rv,q⟩
 cases fl with
 | ret u=>obtain ⟨v,σ',H',J,rv,q⟩:=hs;exact fin J rv q
 | next=>obtain ⟨σ',H',J,q⟩:=hs;exact fin (v:=V.non) (u:=Value.none) J rfl q
 | brk=>obtain ⟨_,_,_,q⟩:=hs;exact False.elim q
 | cont=>obtain ⟨_,_,_,q⟩:=hs;exact False.elim q
end L2
namespace L2
open PySem PySem.Spec PyProof.Rows
section
variable {X:Cx} {x:Str} {p pos:Pos} {e:Expr} {es:List Expr} {t:TA} {id T:String} {r:List V->Hp->VK->Prop}
def tCB (r:List V->Hp->VK->Prop) (t:TA):TE:=fun σ H Q=>t σ H fun vs H1=>r vs H1 Q
theorem jcF (hc:CallR X (.builtin id) r) (hg:Gl X x) (hm:X.mg x=none) (hv:bootBuiltins x=some (.builtin id)) (ha:PA X (e::es) t) (hn:x ≠ "__name__":=by decide) (hdb:‹"l"›=false:=by decide)
 (he:starEach (e::es) X.env=(false,eval e X.env)::starEach es X.env:=by rfl) (hpl:(backTo pos (starEach es X.env)).any (·.1)=false:=by rfl):PE X ‹"K"› (tCB r t):=by
 intro tu s σ H Q I h;refine Kv (Js I hg hm hv ?_ hn hdb);exact PyProof.Rows.callWith_builtin1 ‹"av"› he hpl
theorem jbd (hc:CallR X (.type T) r) (hg:Gl X x) (hm:X.mg x=none) (hv:bootBuiltins x=some (.type T)) (ha:PA X (e::es) t) (hn:x ≠ "__name__":=by decide) (hdb:‹"l"›=false:=by decide)
 (he:starEach (e::es) X.env=(false,eval e X.env)::starEach es X.env:=by rfl) (hpl:(backTo pos (starEach es X.env)).any (·.1)=false:=by rfl):PE X ‹"K"› (tCB r t):=by
 intro tu s σ H Q I h;refine Kv (Js I hg hm hv ?_ hn hdb);exact Y3 ‹"av"› he hpl
end
end L2
namespace HT
open PySem PyProof.Rows
section
open PySem.SeqAt
open PySem.AutoSeq1 (wpAny_loadPart')
open PySem.MeetsSeq PySem.MeetsSeq2 PySem.MeetsSeq3
end
section
variable {prog:Program} {w:World} {A:Around} {E:Value->Shared->Prop} {s:Shared}
def sIx (n d:Nat):Option Int->Nat
 | none=>d
 | some v=>if v<0 then (v+(n:Int)).toNat else min v.toNat n
theorem sIx_none (n d:Nat):sIx n d none=d:=rfl
theorem sIx_nat (n d k:Nat):sIx n d (some (k:Int))=min k n:=by show (if (k:Int)<0 then ((k:Int)+(n:Int)).toNat else min (k:Int).toNat n)=min k n;rw [if_neg (by omega),Yv]
end
end HT
namespace L2
open PySem PySem.Spec PyProof.Rows
abbrev TO:=St->Hp->(Option Int->Hp->Prop)->Prop
def PO (X:Cx) (e:Option Expr) (t:TO):Prop:=
 ∀(tu:List (Addr×Obj)) (s:Shared) (σ:St) (H:Hp) (Q:Option Int->Hp->Prop),Inv X tu σ H s->t σ H Q->
   wpAny ‹"b"› X.A (evalPart e X.env) (fun u s'=>∃o H',Inv X tu σ H' s'/\IsPart u o/\Q o H') X.xe s
def jiE:TO:=fun _ H Q=>Q none H
def jnW (t:TE):TO:=fun σ H Q=>t σ H fun x H1=>∃i,x=.int i/\Q (some i) H1
theorem QI {ns:List Int}:∀{us:List Value},Vals (ns.map V.int) us->IntsAre us ns:=by
 induction ns with
 | nil=>intro us r;rw [Kw] at r;cases r;exact .nil
 | cons n ns ih=>
   intro us r;rw [List.map_cons] at r;cases r with
   | cons r1 r2=>obtain ⟨t,e⟩:=r1;subst e;exact .cons n t (ih r2)
section
variable {X:Cx} {e:Expr} {te:TE} {lo hi:Option Expr} {tl th:TO} {pos p2:Pos}
theorem jmw:PO X none jiE:=by intro tu s σ H Q I h;rw [evalPart_none];exact Yi ⟨none,H,I,.none,h⟩
theorem jmj (h:PE X e te):PO X (some e) (jnW te):=by intro tu s σ H Q I hw;rw [evalPart_some];refine qu (h tu s σ H _ I hw) fun u s1 zz=>?_;obtain ⟨x,H1,I1,r1,q1⟩:=zz;obtain ⟨i,rfl,q⟩:=q1;obtain ⟨t,rfl⟩:=r1;exact ⟨some i,H1,I1,.int i t,q⟩
def SlR (X:Cx) (r:V->Option Int->Option Int->Hp->VK->Prop):Prop:=
 ∀(tu:List (Addr×Obj)) (s:Shared) (σ:St) (H:Hp) (x:V) (v vl vu:Value) (lo hi:Option Int) (sl:Addr) (Q:VK),Inv X tu σ H s->RelV x v->s.heap.IsSliceOf sl vl vu .none->IsPart vl lo->IsPart vu hi->r x lo hi H Q->
   ∃T id,typeLookup (.type T) "__getitem__"=pure (some (.builtin id)) ∧ s.TypeIs v T ∧ wpAny ‹"b"› X.A (getItem v (.ref sl)) (EP X tu σ Q) X.xe s
def tSl (r:V->Option Int->Option Int->Hp->VK->Prop) (te:TE) (tl th:TO):TE:=fun σ H Q=>te σ H fun x H1=>tl σ H1 fun l H2=>th σ H2 fun u H3=>r x l u H3 Q
theorem jkq {r:V->Option Int->Option Int->Hp->VK->Prop} (hr:SlR X r) (he:PE X e te) (hl:PO X lo tl) (hu:PO X hi th):PE X (.Subscript e (.Slice lo hi none p2) pos) (tSl r te tl th):=by intro tu s σ H Q I h;refine Subscript_ (qu (he tu s σ H _ I h) fun v s1 zz=>?_);obtain ⟨x,H1,I1,r1,q1⟩:=zz;refine wpAny_Slice (qu (hl tu s1 σ H1 _ I1 q1) fun vl s2 ⟨l,H2,I2,pl,q2⟩=>qu (hu tu s2 σ H2 _ I2 q2) fun vu s3 zz=>?_);obtain ⟨u,H3,I3,pu,q3⟩:=zz;rw [evalPart_none];refine Yi ?_;have I4:Inv X tu σ H3 { s3 with heap:=s3.heap.push { cls:=.type "slice",data:=.fields #[vl,vu,.none] } }:=I3.kept (t':=s3.toks) fun b ob q=>Yg _ q;obtain ⟨T,id,hT,ht,hg⟩:=hr tu { s3 with heap:=s3.heap.push { cls:=.type "slice",data:=.fields #[vl,vu,.none] } } σ H3 x v vl vu l u s3.heap.objs.size Q I4 r1 (Heap.IsSliceOf.new ..) pl pu q3;show wpAny ‹"b"› X.A (subscriptTail e (.Slice lo hi none p2) v (.ref s3.heap.objs.size)) (EP X tu σ Q) X.xe { s3 with heap:=s3.heap.push { cls:=.type "slice",data:=.fields #[vl,vu,.none] } };exact tail_any (ops:=[.ref s3.heap.objs.size,v]) ht hT hg (by with_unfolding_all rfl)
def jiQ (xs:List V) (lo hi:Option Int):List V:=(xs.drop (HT.sIx xs.length 0 lo)).take ‹"aq"›
theorem jfY (xs:List V) (lo hi:Option Int):(jiQ xs lo hi).length<=xs.length:=by unfold jiQ;rw [Kt,KF];omega
end
end L2
namespace L2
open PySem PySem.Spec PyProof.Rows
def ixN (n:Nat) (i:Int):Option Nat:=if 0<=i then (if i<n then some i.toNat else none) else if -(n:Int)<=i then some (i+n).toNat else none
def atI {α:Type} (xs:List α) (i:Int):Option α:=(ixN xs.length i).bind fun j=>xs[j]?
theorem jiF {n:Nat} {i:Int} {j:Nat} (h:ixN n i=some j):seqIndex? i n=some j/\j<n /\ -(n:Int)<=i/\i<n:=by
 unfold ixN at h;by_cases h0:0<=i
 . rw [if_pos h0] at h;by_cases h1:i<n
   . rw [if_pos h1] at h;have e:i.toNat=j:=Option.some.inj h;exact ⟨by rw [seqIndex_of h0 h1,e],by omega,by omega,h1⟩
   . rw [if_neg h1] at h;cases h
 . rw [if_neg h0] at h;by_cases h1:-(n:Int)<=i
   . rw [if_pos h1] at h;have e:(i+n).toNat=j:=Option.some.inj h;exact ⟨by rw [seqIndex_neg (by omega) h1,e],by omega,h1,by omega⟩
   . rw [if_neg h1] at h;cases h
theorem jew {α:Type} {xs:List α} {i:Int} {v:α} (h:atI xs i=some v):∃j,seqIndex? i xs.length=some j/\xs[j]?=some v/\j<xs.length /\ -(xs.length:Int)<=i/\i<xs.length:=by
 unfold atI at h;cases e:ixN xs.length i with
 | none=>rw [e] at h;cases h
 | some j=>rw [e] at h;obtain ⟨h1,h2,h3,h4⟩:=jiF e;exact ⟨j,h1,h,h2,h3,h4⟩
def jeD (b:Expr):Prop:=∀o i,subscripted b false o i=operate [o,i] (getItem o i)
def IxR (X:Cx) (r:R2):Prop:=
 ∀(value slice:Expr) (tu:List (Addr×Obj)) (s:Shared) (σ:St) (H:Hp) (x y:V) (v u:Value) (Q:VK),Inv X tu σ H s->RelV x v->RelV y u->r x y H Q->
   subscripted slice false v u=operate [v,u] (getItem v u)->wpAny ‹"b"› X.A (subscriptTail value slice v u) (EP X tu σ Q) X.xe s
def MtR (X:Cx) (id:String) (r:V->List V->Hp->VK->Prop):Prop:=
 ∀(tu:List (Addr×Obj)) (s:Shared) (σ:St) (H:Hp) (x:V) (xs:List V) (v:Value) (us:List Value) (Q:VK),Inv X tu σ H s->RelV x v->Vals xs us->r x xs H Q->
   wpAny ‹"b"› X.A (call (.builtin id) (v::us)) (EP X tu σ Q) X.xe s
section
variable {X:Cx} {a b:Expr} {ta tb:TE} {pos:Pos}
theorem IxR.or {r r':R2} (h:IxR X r) (h':IxR X r'):IxR X (fun x y H Q=>r x y H Q\/r' x y H Q):=by
 intro value slice tu s σ H x y v u Q I rx ry q hs;rcases q with q | q
 . exact h value slice tu s σ H x y v u Q I rx ry q hs
 . exact h' value slice tu s σ H x y v u Q I rx ry q hs
theorem jnS {r:R2} (hr:IxR X r) (ha:PE X a ta) (hb:PE X b tb) (hs:jeD b):PE X (.Subscript a b pos) (tOp r ta tb):=by intro tu s σ H Q I h;exact Subscript_ (jpM ha hb I h fun v u s2 x y H2 I2 rx ry q=>hr a b tu s2 σ H2 x y v u Q I2 rx ry q (hs _ _))
def jrq (K:PySem.W.Frag):R2:=fun x y H Q=>∃p xs i v,x=.ref p/\y=.int i/\Jf K H p xs/\atI xs i=some v/\Q v H
def jrS (K:PySem.W.Frag):R2:=fun x y H Q=>∃p xs i v,x=.ref p/\y=.int i/\SqT K H p xs/\atI xs i=some v/\Q v H
def jqW:R2:=fun x y H Q=>∃z i c,x=.str z/\y=.int i/\z.length<=sizeLine/\atI z.cps.toList i=some c/\Q (.str ⟨#[c]⟩) H
theorem ix_list:IxR X (jrq X.K):=by
 intro value slice tu s σ H x y v u Q I rx ry h hs;obtain ⟨p,xs,i,z,rfl,rfl,hq,he,q⟩:=h;cases rx;obtain ⟨t,rfl⟩:=ry;obtain ⟨its,r,pl,hz⟩:=I.list hq;obtain ⟨j,h1,h2,h3,h4,h5⟩:=jew he;obtain ⟨w,ew,rw'⟩:=r.get h2;have hl:=r.length;have hn:=jae;have fin:EP X tu σ Q w s:=⟨z,H,I,rw',q⟩;by_cases h0:0<=i
 . have hj:i.toNat=j:=by rw [seqIndex_of h0 h5] at h1;exact Option.some.inj h1
   exact item_listR pl.isList h0 (by omega) (by rw [hj];simpa using ew) fin hs
 . have hj:(i+(its.toArray.size:Int)).toNat=j:=by rw [seqIndex_neg (by omega) h4] at h1;rw [YA,<- hl];exact Option.some.inj h1
   exact subscriptTail_builtinR (x:=w) pl.isList.typeIs slot_list_getitem.lookup
    (wpAny_getItem_list_neg (Q:=fun r s'=>r=w/\EP X tu σ Q r s') pl.isList (by omega) (by rw [YA] <;> omega) (by omega) (by rw [hj];simpa using ew) ⟨rfl,fin⟩) hs
theorem ix_tup:IxR X (jrS X.K):=by
 intro value slice tu s σ H x y v u Q I rx ry h hs;obtain ⟨p,xs,i,z,rfl,rfl,hq,he,q⟩:=h;cases rx;obtain ⟨t,rfl⟩:=ry;obtain ⟨its,r,pl,hz⟩:=I.tuple hq;obtain ⟨j,h1,h2,h3,h4,h5⟩:=jew he;obtain ⟨w,ew,rw'⟩:=r.get h2;have hl:=r.length;have hn:=jae;have fin:EP X tu σ Q w s:=⟨z,H,I,rw',q⟩;exact subscriptTail_builtinR (x:=w) pl.typeIs slot_tuple_getitem.lookup
  (getItem_tuple (j:=j) (Q:=fun r s'=>r=w/\EP X tu σ Q r s') pl (by omega) (by omega) (by rw [YA,<- hl];exact h1) (by simpa using ew) ⟨rfl,fin⟩) hs
theorem jqA:IxR X jqW:=by
 intro value slice tu s σ H x y v u Q I rx ry h hs;obtain ⟨z,i,c,rfl,rfl,hz,he,q⟩:=h;obtain ⟨t,rfl⟩:=rx;obtain ⟨t',rfl⟩:=ry;obtain ⟨j,h1,h2,h3,h4,h5⟩:=jew he;have hl:z.cps.toList.length=z.length:=by simp [Str.length]
 rw [hl] at h1 h4 h5;have hn:=jae;exact tail_any (typeIs_str s z t) slot_str_getitem.lookup (getItem_str (c:=c) (by have e1:decide (i < -(2 ^ 63:Int))=false:=YU (by omega);have e2:decide (i>=2 ^ 63)=false:=YU (by omega);rw [e1,e2,Bool.or_false]) (by rw [h1];simpa using h2) ⟨.str ⟨#[c]⟩,H,I.tok _,⟨_,rfl⟩,q⟩) hs
def rIx (K:PySem.W.Frag):R2:=fun x y H Q=>jrq K x y H Q\/jrS K x y H Q\/jqW x y H Q
theorem jlQ:IxR X (rIx X.K):=ix_list.or (ix_tup.or jqA)
theorem jgP (its:List Value) (n j:Nat) (u:Value):Obj.mapSeq (·.setIfInBounds j u) { cls:=.type "list",data:=.seq its.toArray n }={ cls:=.type "list",data:=.seq (its.set j u).toArray n }:=by simp [Obj.mapSeq]
theorem Inv.lst {tu:List (Addr×Obj)} {σ:St} {H:Hp} {s:Shared} {p:Addr} {xs:List V} (I:Inv X tu σ H s) (h:H p=some (.lst xs)) :
 ∃(its:List Value) (n:Nat),Vals xs its ∧ s.heap.get? p=some { cls:=.type "list",data:=.seq its.toArray n } ∧ xs.length ≤ sizeLine:=by
 obtain ⟨z,its,n,r,e⟩:=I.hok p _ h;exact ⟨its,n,r,e,z⟩
theorem Inv.lstUpd {tu:List (Addr×Obj)} {σ:St} {H:Hp} {s:Shared} {p:Addr} {xs ys:List V} {its its':List Value} {n n':Nat} {f:Obj->Obj} (I:Inv X tu σ H s) (h:H p=some (.lst xs))
 (ho:s.heap.get? p=some { cls:=.type "list",data:=.seq its.toArray n }) (hf:f { cls:=.type "list",data:=.seq its.toArray n }={ cls:=.type "list",data:=.seq its'.toArray n' }) (r:Vals ys its') (hz:ys.length ≤ sizeLine) (t:Nat) :
 Inv X tu σ (upd H p (.lst ys)) { s with heap:=s.heap.update p f,toks:=t }:=by
 have e:(s.heap.update p f).get? p=some { cls:=.type "list",data:=.seq its'.toArray n' }:=by rw [YT f ho (by rw [hf] <;> rfl),hf]
 refine I.write (x:=p) (e:=p) (by rw [h];trivial) (.inl rfl) (fun b u hb q=>(yp _ _ (Ne.symm hb)).trans q) ⟨_,e⟩ ?_;exact ⟨hz,its',n',r,e⟩
def jlV:V->V->V->Hp->(Hp->Prop)->Prop:=fun o i v H Q=>∃p xs k j,o=.ref p/\i=.int k/\H p=some (.lst xs)/\ixN xs.length k=some j/\Q (upd H p (.lst (xs.set j v)))
theorem jfy:joU X jlV:=by
 intro tu s σ H o i v ov iv u Q I ro ri rv h;obtain ⟨p,xs,k,j,rfl,rfl,hp,hj,q⟩:=h;cases ro;obtain ⟨t,rfl⟩:=ri;obtain ⟨its,n,r,ho,hz⟩:=I.lst hp;obtain ⟨h1,h2,h3,h4⟩:=jiF hj;have hl:=r.length;have hn:=jae;have I':Inv X tu σ (upd H p (.lst (xs.set j v))) { s with heap:=s.heap.update p (Obj.mapSeq (·.setIfInBounds j u)) }:=I.lstUpd hp ho (jgP its n j u) (r.set rv j) (by rw [List.length_set];exact hz) s.toks
 by_cases h0:0<=k
 . have hk:k.toNat=j:=by rw [seqIndex_of h0 h4] at h1;exact Option.some.inj h1
   exact PySem.W.ki_setAt ho h0 (by omega) (by rw [YA,<- hl];exact h4) (by rw [hk];exact ⟨_,I',q⟩)
 . have hk:(k+(its.toArray.size:Int)).toNat=j:=by rw [seqIndex_neg (by omega) h3] at h1;rw [YA,<- hl];exact Option.some.inj h1
   exact PySem.W.ki_setBack ho (by omega) (by rw [YA,<- hl];exact h3) (by omega) (by rw [hk];exact ⟨_,I',q⟩)
theorem jep (lo hi:Option Int) (n:Nat):(sliceBounds lo hi none n).1=((HT.sIx n 0 lo:Nat):Int)/\(sliceBounds lo hi none n).2.1=((HT.sIx n n hi:Nat):Int)/\(sliceBounds lo hi none n).2.2=1:=by
 refine ⟨?_,?_,rfl⟩
 . cases lo with
   | none=>simp [sliceBounds,HT.sIx]
   | some i=>
     simp only [sliceBounds,HT.sIx,Option.getD_none,show (1:Int)>0 by decide,Kl];by_cases h:i<0
     . simp only [h,Kl] <;> omega
     . simp only [h,yL] <;> omega
 . cases hi with
   | none=>simp [sliceBounds,HT.sIx]
   | some i=>
     simp only [sliceBounds,HT.sIx,Option.getD_none,show (1:Int)>0 by decide,Kl];by_cases h:i<0
     . simp only [h,Kl] <;> omega
     . simp only [h,yL] <;> omega
theorem jdn (its:List Value) (lo hi:Option Int):slicePick its.toArray lo hi none=((its.drop (HT.sIx its.length 0 lo)).take (HT.sIx its.length its.length hi-HT.sIx its.length 0 lo)).toArray:=by obtain ⟨h1,h2,h3⟩:=jep lo hi its.toArray.size;unfold slicePick;rw [h1,h2,h3];simp only [sliceRange_one,pick_run,YA] <;> rfl
def jpA (K:PySem.W.Frag):V->Option Int->Option Int->Hp->VK->Prop:=fun x lo hi H Q=>∃a xs,x=.ref a/\Jf K H a xs/\∀p,H p=none->Q (.ref p) (upd H p (.lst (jiQ xs lo hi)))
theorem jnl:SlR X (jpA X.K):=by intro tu s σ H x v vl vu lo hi sl Q I rx hs pl pu h;obtain ⟨a,xs,rfl,hx,q⟩:=h;cases rx;obtain ⟨its,r,ht,hz⟩:=I.list hx;have tL:=r.length;refine ⟨"list",_,slot_list_getitem.lookup,ht.isList.typeIs,?_⟩;refine wpAny_getItem_list_slice ht.isList hs pl pu .none (by simp) ?_ (by rw [YA] <;> omega);rw [jdn,<- tL];refine ⟨.ref s.heap.objs.size,_,I.laid (t':=s.toks) (o:=.lst (jiQ xs lo hi)) (fun b ob q=>Yg _ q) (Ym _) ?_,rfl,q _ (I.hok.fresh (Ym _))⟩;exact ⟨YW (jfY xs lo hi) hz,_,0,(r.drop (HT.sIx xs.length 0 lo)).take ‹"aq"›,Ys _ rfl⟩
def jfR:V->Bool
 | .non=>true
 | .bl _=>true
 | .int _=>true
 | .str _=>true
 | _=>false
def eqV:V->V->Bool
 | .non,.non=>true
 | .bl a,.bl b=>a == b
 | .bl a,.int b=>(if a then 1 else 0) == b
 | .int a,.bl b=>a == (if b then 1 else 0)
 | .int a,.int b=>a == b
 | .str a,.str b=>a == b
 | _,_=>false
theorem jej {A:Around} {s:Shared} {y x:V} {u v:Value} (ry:RelV y u) (rx:RelV x v) (fy:jfR y=true) (fx:jfR x=true):SeqAt.EqAt A s u v (eqV y x):=by
 cases y with
 | non=>
   cases ry;cases x with
   | non=>cases rx;exact SeqAt.EqAt.same _
   | bl b=>cases rx;exact SeqAt.EqAt.none_bool b
   | int b=>obtain ⟨t,rfl⟩:=rx;exact SeqAt.EqAt.none_int b t
   | str b=>obtain ⟨t,rfl⟩:=rx;exact SeqAt.EqAt.none_str b t
   | _=>exact absurd (show false=true from fx) Yh
 | bl a=>
   cases ry;cases x with
   | non=>cases rx;exact SeqAt.EqAt.bool_none a
   | bl b=>cases rx;exact SeqAt.EqAt.bool_bool a b
   | int b=>obtain ⟨t,rfl⟩:=rx;exact SeqAt.EqAt.bool_int a b t
   | str b=>obtain ⟨t,rfl⟩:=rx;exact SeqAt.EqAt.bool_str a b t
   | _=>exact absurd (show false=true from fx) Yh
 | int a=>
   obtain ⟨t',rfl⟩:=ry;cases x with
   | non=>cases rx;exact SeqAt.EqAt.int_none a t'
   | bl b=>cases rx;exact SeqAt.EqAt.int_bool a t' b
   | int b=>obtain ⟨t,rfl⟩:=rx;exact SeqAt.EqAt.int_int a t' b t
   | str b=>obtain ⟨t,rfl⟩:=rx;exact SeqAt.EqAt.int_str a t' b t
   | _=>exact absurd (show false=true from fx) Yh
 | str a=>
   obtain ⟨t',rfl⟩:=ry;cases x with
   | non=>cases rx;exact SeqAt.EqAt.str_none a t'
   | bl b=>cases rx;exact SeqAt.EqAt.str_bool a t' b
   | int b=>obtain ⟨t,rfl⟩:=rx;exact SeqAt.EqAt.str_int a t' b t
   | str b=>obtain ⟨t,rfl⟩:=rx;exact SeqAt.EqAt.str_str a t' b t
   | _=>exact absurd (show false=true from fx) Yh
 | _=>exact absurd (show false=true from fy) Yh
theorem call_len_seq:CallR X (.builtin "len") (fun xs H Q=>∃p ys,xs=[.ref p] ∧ (Jf X.K H p ys ∨ SqT X.K H p ys) ∧ Q (.int ys.length) H):=by
 intro tu s σ H xs us Q I r h;obtain ⟨p,ys,rfl,hq,q⟩:=h;obtain ⟨u,rfl,rx⟩:=jbz r;cases rx;have hn:=jae;rcases hq with hq | hq
 . obtain ⟨its,r',pl,hz⟩:=I.list hq;have tL:=r'.length;exact Calls.call_len_list pl.isList (by simp only [YA] <;> omega) ⟨.int ys.length,H,I.tok _,⟨s.toks+1,by rw [YA,tL]⟩,q⟩
 . obtain ⟨its,r',pl,hz⟩:=I.tuple hq;have tL:=r'.length;exact len_tuple pl (by simp only [YA] <;> omega) ⟨.int ys.length,H,I.tok _,⟨s.toks+1,by rw [YA,tL]⟩,q⟩
theorem jek:CallR X (.builtin "len") (fun xs H Q=>∃z,xs=[.str z] ∧ z.length ≤ sizeLine ∧ Q (.int z.length) H):=by intro tu s σ H xs us Q I r h;obtain ⟨z,rfl,hz,q⟩:=h;obtain ⟨u,rfl,t,rfl⟩:=jbz r;have hn:=jae;exact len_str (by omega) ⟨.int z.length,H,I.tok _,⟨_,rfl⟩,q⟩
theorem CallR.or {f:Value} {r r':List V->Hp->VK->Prop} (h:CallR X f r) (h':CallR X f r'):CallR X f (fun xs H Q=>r xs H Q\/r' xs H Q):=by
 intro tu s σ H xs us Q I rs q;rcases q with q | q
 . exact h tu s σ H xs us Q I rs q
 . exact h' tu s σ H xs us Q I rs q
theorem jd9:CallR X (.type "list") (fun xs H Q=>∃p ys,xs=[.ref p] ∧ (Jf X.K H p ys ∨ SqT X.K H p ys) ∧ ∀l,H l=none → Q (.ref l) (upd H l (.lst ys))):=by
 intro tu s σ H xs us Q I r h;obtain ⟨p,ys,rfl,hq,q⟩:=h;obtain ⟨u,rfl,rx⟩:=jbz r;cases rx;have fin:∀(its:List Value),Vals ys its->ys.length<=sizeLine->∀(h':Heap) (c':Nat),(∀b o',s.heap.get? b=some o'->h'.get? b=some o')->
  h'.get? s.heap.objs.size=some { cls:=.type "list",dict:=none,data:=.seq its.toArray c',slots:=#[] } → EP X tu σ Q (.ref s.heap.objs.size) { s with heap:=h' }:=fun its r' hz h' c' kp e=>
  ⟨.ref s.heap.objs.size,_,I.laid (t':=s.toks) kp (Ym _) (show ObjOk X.prog X.w _ h' _ (.lst ys) from ⟨hz,its,c',r',e⟩),rfl,q _ (I.hok.fresh (Ym _))⟩
 rcases hq with hq | hq
 . obtain ⟨its,r',pl,hz⟩:=I.list hq;have tL:=r'.length;obtain ⟨o,ho,hc,n,hd⟩:=pl.isList;exact call_list_seq p (.inl rfl) ho hc hd (fun h' c' kp e=>fin its r' hz h' c' kp e) (by simp only [YA] <;> omega)
 . obtain ⟨its,r',pl,hz⟩:=I.tuple hq;have tL:=r'.length;obtain ⟨o,ho,hc,n,hd⟩:=pl;exact call_list_seq p (.inr rfl) ho hc hd (fun h' c' kp e=>fin its r' hz h' c' kp e) (by simp only [YA] <;> omega)
def tyV (K:PySem.W.Frag) (T:String) (x:V) (H:Hp):Prop:=match x with
 | .str _=>T = "str"
 | .int _=>T = "int"
 | .ref p=>(T = "list" ∧ ∃xs,Jf K H p xs) ∨ (T="tuple" ∧ ∃o,K.lookup p=some o ∧ o.cls=.type "tuple" ∧ o.dict=none) ∨
  (T = "dict" ∧ ((∃kvs,H p=some (.dK kvs)) ∨ ∃kvs,H p=some (.dT kvs))) ∨ (T="set" ∧ ∃S n,H p=some (.set S n))
 | _=>False
theorem jqh {tu:List (Addr×Obj)} {σ:St} {H:Hp} {s:Shared} {T:String} {x:V} {v:Value} (I:Inv X tu σ H s) (r:RelV x v) (ty:tyV X.K T x H) :
 s.TypeIs v T/\∀a,v=.ref a->∃ob,s.heap.get? a=some ob/\ob.dict=none:=by
 cases x with
 | str z=>obtain ⟨t,rfl⟩:=r;cases (show T = "str" from ty);exact ⟨typeIs_str s z t,fun _ e=>nomatch e⟩
 | int i=>obtain ⟨t,rfl⟩:=r;cases (show T = "int" from ty);exact ⟨typeIs_int s i t,fun _ e=>nomatch e⟩
 | ref p=>
   cases r;rcases ty with ⟨rfl,xs,hq⟩ | ⟨rfl,o,hk,hc,hd⟩ | ⟨rfl,hk⟩ | ⟨rfl,S,n,hk⟩
   . obtain ⟨its,_,pl,_⟩:=I.list hq;refine ⟨pl.isList.typeIs,fun a e=>?_⟩;cases e;obtain ⟨o,n,e,c,hd,_⟩:=pl;exact ⟨o,e,hd⟩
   . refine ⟨⟨o,I.kIn p o hk,hc⟩,fun a e=>?_⟩;cases e;exact ⟨o,I.kIn _ o hk,hd⟩
   . have z:∃o,s.heap.get? p=some o/\o.ExactDict:=by
       rcases hk with ⟨kvs,hk⟩ | ⟨kvs,hk⟩
       . obtain ⟨_,_,_,_,o,_,_,e,ex,_⟩:=I.hok p _ hk;exact ⟨o,e,ex⟩
       . obtain ⟨_,_,_,_,o,_,_,e,ex,_⟩:=I.hok p _ hk;exact ⟨o,e,ex⟩
     obtain ⟨o,e,ex⟩:=z;refine ⟨⟨o,e,ex.1⟩,fun a e2=>?_⟩;cases e2;exact ⟨o,e,ex.2.1⟩
   . obtain ⟨o,_,_,_,e,ex,_⟩:=I.hok p _ hk;refine ⟨⟨o,e,ex.1⟩,fun a e2=>?_⟩;cases e2;exact ⟨o,e,ex.2.1⟩
 | _=>exact False.elim ty
def tBM (K:PySem.W.Frag) (T:String) (r:V->List V->Hp->VK->Prop) (to:TE) (t:TA):TE:=fun σ H Q=>to σ H fun x H1=>tyV K T x H1/\t σ H1 fun xs H2=>r x xs H2 Q
variable {o e:Expr} {es:List Expr} {to:TE} {t:TA} {name:Str} {apos cpos:Pos} {T id:String} {r:V->List V->Hp->VK->Prop}
theorem jou (pa:PlainAttrs T) (slot:Slot T name id) (hty:typeOf (.builtin id)=pure (.type "method_descriptor")) (hm:MtR X id r) (ho:PE X o to) (ha:PA X (e::es) t)
 (hbase:attributeBase o name X.env (eval o X.env)=eval o X.env:=by rfl)
 (hfew:autoParam (((backTo cpos (starEach (e::es) X.env)).all (fun x=>!x.1) && (backToKw cpos (keywordEach [] X.env)).all (fun x=>x.1.isSome)
  && decide ((e::es).length+([]:List Keyword).length+(if ([]:List Keyword).isEmpty then 0 else 1)<30))=true) QA.a4._auto_1)
 (hline:‹"4"›=true:=by rfl) (hs:starEach (e::es) X.env=(false,eval e X.env)::starEach es X.env:=by rfl) (hplain:(backTo cpos (starEach es X.env)).any (·.1)=false:=by rfl) :
 PE X (.Call (.Attribute o name apos) (e::es) [] cpos) (tBM X.K T r to t):=by
 intro tu s σ H Q I h;refine wpAny_Call_method_late hbase hfew hline rfl (qu (ho tu s σ H _ I h) fun v s1 zz=>?_);obtain ⟨x,H1,I1,r1,ty,q1⟩:=zz;obtain ⟨h1,h2⟩:=jqh I1 r1 ty;refine ⟨T,id,pa,slot,hty,h1,h2,?_⟩;have hA:=ha cpos tu s1 σ H1 _ I1 q1;rw [hs] at hA ⊢;refine Ku (by show (false || (backTo cpos (starEach es X.env)).any (·.1))=false;rw [hplain] <;> rfl) (kq ?_);exact qu hA fun us s2 ⟨vs,H2,I2,r2,q2⟩=>hm tu s2 σ H2 x vs v us Q I2 r1 r2 q2
end
end L2
namespace L2
open PySem PySem.Spec PyProof.Rows
def MtM (X:Cx) (id:String) (r:V->List V->Hp->VK->Prop):Prop:=
 ∀(tu:List (Addr×Obj)) (s:Shared) (σ:St) (H:Hp) (x:V) (xs:List V) (v:Value) (us:List Value) (Q:VK),Inv X tu σ H s->RelV x v->Vals xs us->r x xs H Q->
   wpAny ‹"b"› X.A (call (.builtin id) (v::us)) (EP X tu σ Q) X.xe s
theorem Vals.one:∀{x:V} {us:List Value},Vals [x] us->∃u,us=[u]/\RelV x u:=fun h=>jbz h
theorem Vals.two:∀{x y:V} {us:List Value},Vals [x,y] us->∃u v,us=[u,v]/\RelV x u/\RelV y v:=fun h=>jk9 h
section
variable {X:Cx} {tu:List (Addr×Obj)} {σ:St} {H:Hp} {s:Shared} {l b:Addr} {xs ys zs:List V}
theorem Inv.lset {its its':List Value} {n:Nat} {f:Array Value->Array Value} {t':Nat} (I:Inv X tu σ H s) (hH:H l=some (.lst xs))
 (e:s.heap.get? l=some { cls:=.type "list",data:=.seq its.toArray n }) (hf:f its.toArray=its'.toArray) (hv:Vals ys its') (hz:ys.length ≤ sizeLine) :
 Inv X tu σ (upd H l (.lst ys)) { s with heap:=s.heap.update l (Obj.mapSeq f),toks:=t' }:=by
 have q:=PySem.IsL.update e f;rw [hf] at q;refine I.write (x:=l) (e:=l) (by rw [hH];exact trivial) (.inl rfl) (fun b' u hb hu=>(yp s.heap (Obj.mapSeq f) (Ne.symm hb)).trans hu) ⟨_,q⟩ ?_;exact ⟨hz,its',_,hv,q⟩
theorem Inv.lnew {its:List Value} {t':Nat} (I:Inv X tu σ H s) (hv:Vals ys its) (hz:ys.length<=sizeLine) :
 Inv X tu σ (upd H s.heap.objs.size (.lst ys)) { s with heap:=s.heap.push { cls:=.type "list",data:=.seq its.toArray },toks:=t' }:=
 I.laid (fun _ _ q=>Yg _ q) (Ym _) ⟨hz,its,0,hv,Ys _ rfl⟩
theorem Inv.fresh (I:Inv X tu σ H s):H s.heap.objs.size=none:=I.hok.fresh (Ym _)
theorem Inv.lstM (I:Inv X tu σ H s) (hH:H l=some (.lst xs)):xs.length ≤ sizeLine ∧ ∃(its:List Value) (n:Nat),Vals xs its ∧ xs.length=its.length ∧ s.heap.get? l=some { cls:=.type "list",data:=.seq its.toArray n }:=by obtain ⟨z,its,n,r,e⟩:=I.hok l _ hH;exact ⟨z,its,n,r,r.length,e⟩
end
section
variable {X:Cx}
def jeJ:V->List V->Hp->VK->Prop:=fun x vs H Q=>∃l xs y,x=.ref l/\vs=[y]/\H l=some (.lst xs)/\xs.length<sizeLine/\Q .non (upd H l (.lst (xs++[y])))
theorem jjB:MtM X "list.append" jeJ:=by intro tu s σ H x vs v us Q I rx rv h;obtain ⟨l,xs,y,rfl,rfl,hH,hz,q⟩:=h;cases rx;obtain ⟨u,rfl,ru⟩:=rv.one;obtain ⟨z,its,n,r,hl,e⟩:=I.lstM hH;refine call_meets F.slot_list_append ⟨_,e,rfl⟩ F.entry_list_append (F.args_list_append_2 _ _) (PySem.list_append l its.toArray n u (by rw [YA];omega)) ⟨e,?_⟩;refine ⟨.non,_,I.lset (its':=its++[u]) hH e (by simp) (r.append (.cons ru .nil)) ?_,rfl,q⟩;rw [YG,List.length_singleton];omega
end
section
variable {prog:Program} {w:World} {A:Around} {E:Value->Shared->Prop} {s:Shared}
end
section
variable {X:Cx}
end
end L2
namespace Att
open PySem PySem.W PySem.Calls PyProof.Rows
theorem jbN {P:Params} {h:Heap}:∀(ns:List Int) (vs:List Value),WellAll P h vs (ns.map WData.int)->IntsAre vs ns:=by
 intro ns;induction ns with
 | nil=>intro vs w;rw [Kw] at w;cases w;exact .nil
 | cons n ns ih=>
   intro vs w;rw [List.map_cons] at w;cases w with
   | cons a b=>cases a;exact .cons _ _ (ih _ b)
theorem jjJ {l:OpenLaw} {n:Nat} (hn:l.most=some n) {P:Params} {h:Heap} {args:List WData} {vals:List Value}
 (hpre:l.row.toRowW.claim.pre args=true) (hwl:WellAll P h vals args) :
 ∃a vs ns,vals=[Value.ref a] ∧ args=[WData.list (ns.map WData.int)] ∧ h.get? a=some { cls:=.type "list",data:=.seq vs.toArray } ∧ IntsAre vs ns ∧ ns.length ≤ n:=by
 have hsh:WShape.hasAll [] args [.list .int]=true:=(pre_splitW hpre).1;have hc:l.pre.holds [] { args:=args }=true:=(pre_splitW hpre).2;obtain ⟨d,r,rfl,h1,h2⟩:=hasAllW_cons hsh;obtain rfl:=hasAllW_nil h2;obtain ⟨xs,rfl,h3⟩:=hasW_list h1;obtain ⟨ns,rfl⟩:=items_int h3;have tL:ns.length<=n:=by
  unfold OpenLaw.pre at hc;have h4:(WTm.not (.lt (.lit (.int (n:Int))) (.len (.arg 0)))).holds [] { args:=[.list (ns.map .int)] }=true:=by have h4:=(holds_andW hc).1;rw [hn] at h4;exact h4
  have h5:=condW_of h4 (w_not (w_lt w_lit (w_len_list (w_arg rfl))));rw [Yd] at h5;refine Nat.le_of_not_lt fun q=>?_;have q':(n:Int)<((ns.length:Nat):Int):=by omega
  first
   | (rw [YN q'] at h5;exact absurd h5 (by decide))
   | (simp at h5;omega)
 cases hwl with
 | cons w1 w2=>
   cases w2;cases w1 with
   | list ho hall=>exact ⟨_,_,ns,rfl,rfl,ho,jbN ns _ hall,tL⟩
theorem jjv (l:OpenLaw) (args:List WData):l.row.toRowW.claim.post args (.bool true) args=true:=
 postW_of (r:=l.row.toRowW) (X:=(true == true))
  (show WShape.has [] (.bool true) .bool=true by first | rfl | decide | simp [WShape.has,WShape.arms,WShape.armsAll])
  (show (WTm.eq .res (.lit (.bool true))).value [] { args:=args,res:=some (.bool true),after:=args }=some (.bool (true == true)) from w_eq_bool (w_res rfl) w_lit) rfl
theorem attach_call {l:OpenLaw} {n:Nat} {q:Program} {loose:List Str} {XP:(Str->Option Value)->Heap->Prop} {YP:World->Heap->Prop} {d:DefRec}
 (hn:l.most=some n) (hdf:d.params.defaults=[])
 (call:∀(w:World) (s₀ s₁:Shared) (mg mb:Str->Option Value) (fa:Addr) (o:Obj) (pm cd doc:Value) (a:Addr) (vs:List Value) (ns:List Int),
  Ground q loose [] XP w s₀ mg mb s₁.heap->YP w s₁.heap->
  s₁.heap.get? fa=some o->o.data=.func (docDef d.name d.params d.body d.scope pm cd doc)->s₁.heap.CodeRec cd d.name->mg d.name=some (.ref fa)->
  s₁.heap.get? a=some { cls:=.type "list",data:=.seq vs.toArray } → IntsAre vs ns → ns.length ≤ n → s₁.gens=#[] →
  codeAny (model l.prog w) callerA (.call (.ref fa) ⟨[.ref a],[]⟩) (fun r s'=>r=.ok (.ret (.bool true))/\OldK s₁.heap s'.heap/\s'.os=s₁.os/\AllBare s'.gens) s₁) :
 WalkO q loose XP YP l.row.toRowW d [] (fun f vs=>PySem.call f vs):=by
 intro w s₀ s₁ mg mb G Y fa o pm cd doc dV kV ho hd hcd hD hmg hg args vals as hpre hlay hrd hwl hlo;obtain rfl:dV=.none:=Dflts.none hD hdf;obtain rfl:kV=.none:=Dflts.noKw hD;obtain ⟨a,vs,ns,rfl,rfl,hobj,hints,tL⟩:=jjJ hn hpre hwl;refine enter_call (kM (call w s₀ s₁ mg mb fa o pm cd doc a vs ns G Y ho (fd_plain hd) hcd hmg hobj hints tL hg) fun r s' hq=>?_);obtain ⟨rfl,h2,h3,h4⟩:=hq;exact ⟨.inl ⟨.bool true,.bool true,[],rfl,fun _=>rfl,.bool true,jjv l _,fun _=>⟨List.Pairwise.nil,fun _ hm=>(nomatch hm)⟩⟩,h2,h3,h4⟩
section
variable {prog:Program} {w:World} {A:Around} {E:Value->Shared->Prop} {s:Shared} {K:Frag}
end
end Att
namespace L2
open PySem PySem.Spec PyProof.Rows
theorem jdR:∀{vs:List Value} {ns:List Int},IntsAre vs ns->Vals (ns.map V.int) vs:=fun h=>by
 induction h with
 | nil=>exact .nil
 | cons n t _ ih=>exact .cons ⟨t,rfl⟩ ih
def jp7 (H:Hp):Prop:=∀b,H b=none\/∃o xs,H b=some (.frz o (.lst xs))
theorem jkD {P:Program} {w:World} {K:PySem.W.Frag} {mg mb:Str->Option Value} {CX:CXT} {k:Nat} {fa a:Addr} {fd:FuncData} {x:Str} {sp:Sp} {s₁:Shared} {vs:List Value} {ns:List Int}
 (KX:K.In s₁.heap) (hns:s₁.heap.Ns mainGlobals mg) (hb:s₁.heap.Ns builtinsNs mb) (hbb:∀x:Str,x ≠ "__name__" → mb x=bootBuiltins x) (hlim:s₁.heap.NoLimit) (hg:s₁.gens=#[])
 (ha:s₁.heap.get? a=some { cls:=.type "list",data:=.seq vs.toArray }) (hi:IntsAre vs ns) (hl:ns.length ≤ sizeLine) (hr:Room k callerA)
 (F:∀base:Heap,K.In base->base.Ns mainGlobals mg->FnOk P w K mg base CX k fa fd [x] sp) (hbind:∀(s:Shared) (u:Value),BindsTo s fd ⟨[u],[]⟩ [(x,u)])
 (hsp:∀H:Hp,jp7 H->Jf K H a (ns.map V.int)->sp [.ref a] H (fun v _=>v=.bl true) fun _ _ _=>False)
 (hCX:∀H e s',CX [] H s₁ (fun _ _ _=>False) e s'->False) :
 codeAny (model P w) callerA (.call (.ref fa) ⟨[.ref a],[]⟩) ‹"ay"› s₁:=by
 have rv:=jdR hi;have lenV:=hi.length
 -- from an abstract heap in which nothing but the script may be tracked
 have core:∀H:Hp,jp7 H->Jf K H a (ns.map V.int)->HOk P w H s₁.heap->(∀b,H b≠none->b=a)->(H a≠none->K.lookup a=none)->
  codeAny (model P w) callerA (.call (.ref fa) ⟨[.ref a],[]⟩) ‹"ay"› s₁:=by
  intro H hO hS hok hA hK;have base_of:∀{b:Addr} {o:Obj},s₁.heap.get? b=some o->H b=none->(jet s₁.heap H).get? b=some o:=fun e n=>jlG e n;have noA:∀{b:Addr} {o:Obj} {es:Array DictEntry} {ep:Nat},s₁.heap.get? b=some o->o.data=.dict es ep->H b=none:=fun {b o es ep} e d=>by
   cases q:H b with
   | none=>rfl
   | some u=>have e':b=a:=hA b (by rw [q];simp);subst e';rw [ha] at e;cases e;have d':Data.seq vs.toArray _=Data.dict es ep:=d;cases d'
  have nsK:∀{b:Addr} {m:Str->Option Value},s₁.heap.Ns b m->(jet s₁.heap H).Ns b m:=fun {b m} ⟨o,es,ep,e,d,r⟩=>⟨o,es,ep,base_of e (noA e d),d,r⟩;have hKb:K.In (jet s₁.heap H):=fun b o e=>base_of (KX b o e) (by
   cases q:H b with
   | none=>rfl
   | some u=>have e':b=a:=hA b (by rw [q];simp);subst e';rw [hK (by rw [q];simp)] at e;cases e)
  have hM:Mod K mg (jet s₁.heap H):=⟨hKb,nsK hns,⟨mb,nsK hb,hbb⟩,let ⟨mc,h1,h2⟩:=hlim;⟨mc,nsK h1,h2⟩⟩;have e0:Env0 P w K mg (jet s₁.heap H) callerA [] s₁ H:=⟨rfl,hM,fun b o e=>jno e,Nat.le_of_eq (jjc _ _),trivial,fun b hb=>absurd (show b∈([]:List Addr) from hb) (by simp),hok,.of_eq hg⟩;refine kM ((F _ hKb (nsK hns)).run callerA [] s₁ H ⟨[.ref a],[]⟩ [.ref a] [.ref a] _ _ hr e0 (hbind s₁ (.ref a)) (.cons rfl .nil) (hsp H hO hS)) fun r s' h=>?_;cases r with
  | error e=>exact (hCX H e s' h).elim
  | ok fl=>
    cases fl with
    | next=>exact False.elim h
    | brk=>exact False.elim h
    | cont=>exact False.elim h
    | ret u=>
      obtain ⟨v,H',os,bare,un,hok',r',q⟩:=h;have q':v=.bl true:=q;subst q';obtain rfl:u=Value.bool true:=r';refine ⟨rfl,OldK.of_keep fun b o e=>?_,os,bare⟩;cases q:H b with
      | none=>exact un.keep b o e q (by intro z;exact absurd (show b∈([]:List Addr) from z) (by simp)) (by simp)
      | some u=>
        rcases hO b with z | ⟨ob,xs,z⟩
        . rw [q] at z;cases z
        . have z2:=un.frzs b ob _ z;obtain ⟨e1,_⟩:=hok b _ z;obtain ⟨e2,_⟩:=hok' b _ z2;rw [e] at e1;cases e1;exact e2
 cases hk:K.lookup a with
 | some o=>
   -- the script is one of the module's own objects
   have e:=KX a o hk;rw [ha] at e;cases e;refine core (fun _=>none) (fun _=>.inl rfl) (.inr ⟨_,vs.toArray,_,hk,rfl,rfl,rfl,by rw [YA,lenV];exact hl,by simpa using rv⟩) (fun b u z=>by have z':(none:Option HO)=some u:=z;cases z') (fun b z=>absurd rfl z) fun z=>absurd rfl z
 | none=>
   refine core (fun b=>if b=a then some (.frz { cls:=.type "list",data:=.seq vs.toArray } (.lst (ns.map V.int))) else none) (fun b=>?_) (.inl (.inr ⟨{ cls:=.type "list",data:=.seq vs.toArray },if_pos rfl⟩)) (fun b u z=>?_) (fun b z=>?_) fun _=>hk
   . by_cases hb:b=a
     . exact .inr ⟨_,_,if_pos hb⟩
     . exact .inl (if_neg hb)
   . by_cases hb:b=a
     . have z':=(if_pos hb).symm.trans z;cases z';subst hb;exact ⟨ha,by rw [Yd];exact hl,vs,_,rv,ha⟩
     . have z':=(if_neg hb).symm.trans z;cases z'
   . by_cases hb:b=a
     . exact hb
     . exact absurd (if_neg hb) z
end L2
namespace L2
open PySem PySem.Spec PyProof.Rows
theorem jl9 {l:PySem.W.OpenLaw} {n k:Nat} {q:Program} {loose:List Str} {XP:(Str->Option Value)->Heap->Prop} {YP:World->Heap->Prop} {d:DefRec} {K:Params->PySem.W.Frag} {CX:World->CXT} {sp:World->Sp} {x:Str}
 (hn:l.most=some n) (hn2:n<=sizeLine) (hdf:d.params.defaults=[]) (hr:Room k callerA)
 (hY:∀(w:World) (h:Heap),YP w h->(K w.params).In h)
 (F:∀(w:World) (mg:Str->Option Value) (fa:Addr) (h:Heap),(K w.params).In h->h.Ns mainGlobals mg->mg d.name=some (.ref fa)->
  ∃fd:FuncData,(∀(s:Shared) (u:Value),BindsTo s fd ⟨[u],[]⟩ [(x,u)]) /\
    ∀base:Heap,(K w.params).In base->base.Ns mainGlobals mg->FnOk l.prog w (K w.params) mg base (CX w) k fa fd [x] (sp w))
 (hsp:∀(w:World) (H:Hp) (a:Addr) (ns:List Int),ns.length<=n->jp7 H->Jf (K w.params) H a (ns.map V.int)->sp w [.ref a] H (fun v _=>v=.bl true) fun _ _ _=>False)
 (hCX:∀(w:World) (H:Hp) (s:Shared) (e:Value) (s':Shared),CX w [] H s (fun _ _ _=>False) e s'->False) :
 PySem.W.WalkO q loose XP YP l.row.toRowW d [] (fun f vs=>PySem.call f vs):=by
 refine Att.attach_call hn hdf fun w s₀ s₁ mg mb fa o pm cd doc a vs ns G Y ho hd hcd hmg hobj hints tL hg=>?_;have KX:=hY w _ Y;obtain ⟨fd,hb,hF⟩:=F w mg fa _ KX G.T.g hmg;exact jkD KX G.T.g G.T.b G.T.builtins G.T.nolimit hg hobj hints (YW tL hn2) hr hF hb (fun H hO hS=>hsp w H a ns tL hO hS) fun H e s'=>hCX w H s₁ e s'
end L2
namespace L2
open PySem PySem.Spec PyProof.Rows
def jH (s:Stmt):Arguments:=match s with
 | .FunctionDef _ a _ _ _ _ _ _ _ _=>a
 | _=>{ posonlyargs:=[],args:=[],vararg:=none,kwonlyargs:=[],kw_defaults:=[],kwarg:=none,defaults:=[] }
def jF (s:Stmt):List Stmt:=match s with
 | .FunctionDef _ _ b _ _ _ _ _ _ _=>b
 | _=>[]
def je (s:Stmt):Scope:=match s with
 | .FunctionDef _ _ _ _ _ _ sc _ _ _=>sc
 | _=>{ kind:=.function,names:=[],isGenerator:=false,isCoroutine:=false }
abbrev JN:CXT:=fun _ _ _ _ _ _=>False
abbrev E0:XK:=fun _ _ _=>False
theorem jnU {X:Cx}:jhf JN X E0:=fun _ _ _ _ _ _ _ h=>h.elim
structure Fun (K:PySem.W.Frag) (x qual:Str) (st:Stmt) (f:Addr) (fd:FuncData):Prop where
 ex:∃(oc:Value) (od:Option Addr) (kV doc pm:Value) (an:Option Addr) (cdv ct:Value) (osl:Array (Option Value)),
  fd=PySem.W.fnOf x qual (jH st) (jF st) (je st) .none kV doc pm an cdv ct/\K.lookup f=some ⟨oc,od,.func fd,osl⟩/\PySem.W.codeIn K cdv qual=true
 kp:PySem.W.keepIn K (.ref f)=true
section
variable {P:Program} {w:World} {K:PySem.W.Frag} {mg:Str->Option Value} {base:Heap}
theorem Fun.ok {x qual:Str} {st:Stmt} {f:Addr} {fd:FuncData} {N ps:List Str} {k:Nat} {sp:Sp} (F:Fun K x qual st f fd) (S:FnScope N ps (je st)) (len:∀vs H Q E,sp vs H Q E->vs.length=ps.length)
 (hbody:∀(cdv:Value) (A:Around) (outer:List Env) (s:Shared) (H:Hp) (vs:List V) (Q:VK) (E:XK),Room k ‹"ak"›->sp vs H Q E->
  ∃t,PSs (jgE JN P w K mg base N qual (je st) f cdv A outer s H E).nox (jF st) t/\t { nx:=fun _ H'=>Q .non H',rt:=Q } (Z7 N vs) H):FnOk P w K mg base JN (k+1) f fd ps sp:=by
 obtain ⟨oc,od,kV,doc,pm,an,cdv,ct,osl,rfl,lk,hcd⟩:=F.ex;refine jrY lk hcd S len fun A outer s H vs Q E hr hsp=>?_;obtain ⟨t,h,q⟩:=hbody cdv A outer s H vs Q E hr hsp;exact ⟨t,h.nox,q⟩
theorem Fun.binds {x qual:Str} {st:Stmt} {f:Addr} {fd:FuncData} {ps:List Str} (F:Fun K x qual st f fd)
 (h:∀(kV doc pm:Value) (an:Option Addr) (cdv ct:Value) (us:List Value),us.length=ps.length->bindArgs ‹"U"› ⟨us,[]⟩=pure (ps.zip us)):Binds K fd ps []:=by
 obtain ⟨oc,od,kV,doc,pm,an,cdv,ct,osl,rfl,lk,hcd⟩:=F.ex;exact .all (h kV doc pm an cdv ct)
theorem jT {x qual:Str} {st:Stmt} {f:Addr} {oc:Value} {od an:Option Addr} {osl:Array (Option Value)} {kV doc pm cdv ct:Value} (l:K.lookup f=some ⟨oc,od,.func ‹"U"›,osl⟩)
 (c:PySem.W.codeIn K cdv qual=true) (k:PySem.W.keepIn K (.ref f)=true):Fun K x qual st f ‹"U"›:=⟨⟨oc,od,kV,doc,pm,an,cdv,ct,osl,rfl,l,c⟩,k⟩
end
section
variable {X:Cx}
end
def Same (H H':Hp):Prop:=∀b o,H b=some o->H' b=some o
theorem Same.refl (H:Hp):Same H H:=fun _ _ h=>h
theorem Same.trans {H H1 H2:Hp} (a:Same H H1) (b:Same H1 H2):Same H H2:=fun c o h=>b c o (a c o h)
theorem Same.free {H H':Hp} (e:Same H H') {l:Addr} (h:H' l=Option.none):H l=Option.none:=by
 cases q:H l with
 | none=>rfl
 | some o=>rw [e l o q] at h;cases h
theorem Same.seq {K:PySem.W.Frag} {H H':Hp} {a:Addr} {xs:List V} (e:Same H H') (h:Jf K H a xs):Jf K H' a xs:=by
 rcases h with (h | ⟨o,h⟩) | h
 . exact .inl (.inl (e _ _ h))
 . exact .inl (.inr ⟨o,e _ _ h⟩)
 . exact .inr h
end L2
namespace L2
open PySem PySem.Spec PyProof.Rows
section
variable {κ:Type} [DecidableEq κ]
def jaT (kvs:List (κ×V)) (k:κ):Option V:=(kvs.find? fun kv=>decide (kv.1=k)).map (·.2)
def Z4 (kvs:List (κ×V)) (k:κ) (v:V):List (κ×V):=if (kvs.any fun kv=>decide (kv.1=k))=true then kvs.map (fun kv=>if kv.1=k then (kv.1,v) else kv) else kvs++[(k,v)]
theorem jaB {p:κ×V} {r:List (κ×V)} {k:κ} (e:p.1=k):jaT (p::r) k=some p.2:=by simp [jaT,Kx,e]
theorem jaX {p:κ×V} {r:List (κ×V)} {k:κ} (e:¬p.1=k):jaT (p::r) k=jaT r k:=by simp [jaT,Kx,e]
theorem jgA (k:κ):∀kvs:List (κ×V),(kvs.any fun kv=>decide (kv.1=k))=(jaT kvs k).isSome
 | []=>rfl
 | p::r=>by
   rw [List.any_cons];by_cases e:p.1=k
   . simp only [jaB e,YN e,Bool.true_or,Option.isSome_some]
   . rw [jaX e,YU e,Bool.false_or];exact jgA k r
theorem Zd (kvs:List (κ×V)) (k:κ) (v:V):(Z4 kvs k v).length<=kvs.length+1:=by
 unfold Z4;split
 . rw [Yd];omega
 . rw [YG,Yx,yI];omega
theorem RelO.isSome_eq {o:Option V} {u:Option Value} (r:RelO o u):o.isSome=u.isSome:=by
 cases o with
 | none=>cases u with
   | none=>rfl
   | some _=>exact (show False from r).elim
 | some _=>cases u with
   | none=>exact (show False from r).elim
   | some _=>rfl
theorem RelO.getD {o:Option V} {u:Option Value} {d:V} {d':Value} (r:RelO o u) (rd:RelV d d'):RelV (o.getD d) (u.getD d'):=by
 cases o with
 | none=>cases u with
   | none=>exact rd
   | some _=>exact (show False from r).elim
 | some _=>cases u with
   | none=>exact (show False from r).elim
   | some _=>exact r
theorem KV.val {kvs:List (κ×V)} {vs:List (κ×Value)} (r:KV kvs vs) (k:κ):RelO (jaT kvs k) (valueAt vs k):=by
 unfold KV at r;induction r with
 | nil=>exact True.intro
 | @cons p q ps qs h t ih=>
   obtain ⟨h1,h2⟩:=h;by_cases e:p.1=k
   . have e':q.1=k:=h1.symm.trans e;have b:valueAt (q::qs) k=some q.2:=by simp [valueAt,Kx,e']
     rw [jaB e,b];exact h2
   . have e':¬q.1=k:=fun z=>e (h1.trans z);have b:valueAt (q::qs) k=valueAt qs k:=by simp [valueAt,Kx,e']
     rw [jaX e,b];exact ih
theorem KV.any {kvs:List (κ×V)} {vs:List (κ×Value)} (r:KV kvs vs) (k:κ):(kvs.any fun kv=>decide (kv.1=k))=vs.any fun kv=>decide (kv.1=k):=by
 unfold KV at r;induction r with
 | nil=>rfl
 | cons h t ih=>rw [List.any_cons,List.any_cons,ih,h.1]
theorem KV.repl {kvs:List (κ×V)} {vs:List (κ×Value)} (r:KV kvs vs) (k:κ) {y:V} {u:Value} (ry:RelV y u) :
 KV (kvs.map fun kv=>if kv.1=k then (kv.1,y) else kv) (vs.map fun kv=>if kv.1=k then (kv.1,u) else kv):=by
 unfold KV at r ⊢;induction r with
 | nil=>exact .nil
 | @cons p q ps qs h t ih=>
   rw [List.map_cons,List.map_cons];refine .cons ?_ ih;obtain ⟨h1,h2⟩:=h;by_cases e:p.1=k
   . rw [if_pos e,if_pos (h1.symm.trans e)];exact ⟨h1,ry⟩
   . rw [if_neg e,if_neg (fun z=>e (h1.trans z))];exact ⟨h1,h2⟩
theorem KV.put {kvs:List (κ×V)} {vs:List (κ×Value)} (r:KV kvs vs) (k:κ) {y:V} {u:Value} (ry:RelV y u):KV (Z4 kvs k y) (stored vs k u):=by
 unfold Z4 stored;rw [r.any k];by_cases e:(vs.any fun kv=>decide (kv.1=k))=true
 . rw [if_pos e,if_pos e];exact r.repl k ry
 . rw [if_neg e,if_neg e];exact Paired.snoc r ⟨rfl,ry⟩
theorem KV.length {kvs:List (κ×V)} {vs:List (κ×Value)} (r:KV kvs vs):kvs.length=vs.length:=Paired.length r
end
theorem jbD {P:Program} {w:World} {k:zj} {u:Value} (r:RelV (kV k) u):(jO P w).is k u=true:=by
 cases k with
 | inl i=>obtain ⟨t,e⟩:=(show ∃t,u=Value.int i t from r);subst e;exact jfI P w i t
 | inr x=>obtain ⟨t,e⟩:=(show ∃t,u=Value.str x t from r);subst e;exact jfQ P w x t
theorem jdZ {P:Program} {w:World}:∀{ks:List zj} {us:List Value},Vals (ks.map kV) us->ItemsAre (jO P w) ks us
 | [],_,r=>by rw [Kw] at r;cases r;exact .nil
 | k::ks,_,r=>by
   rw [List.map_cons] at r;cases r with
   | cons h t=>exact .cons (jbD h) (jdZ t)
abbrev KT (H:Hp):List (List zj×V)->List (List zj×Addr×Value)->Prop:=Paired fun p q=>p.1=q.1/\H q.2.1=some (.tup (p.1.map kV))/\RelV p.2 q.2.2
theorem KT.val {H:Hp} {kvs:List (List zj×V)} {xs:List (List zj×Addr×Value)} (r:KT H kvs xs) (k:List zj):RelO (jaT kvs k) ((atKey xs k).map (·.2)):=by
 induction r with
 | nil=>exact True.intro
 | @cons p q ps qs h t ih=>
   obtain ⟨h1,_,h2⟩:=h;by_cases e:p.1=k
   . have e':q.1=k:=h1.symm.trans e;have b:atKey (q::qs) k=some q.2:=by simp [atKey,Kx,e']
     rw [jaB e,b];exact h2
   . have e':¬q.1=k:=fun z=>e (h1.trans z);have b:atKey (q::qs) k=atKey qs k:=by simp [atKey,Kx,e']
     rw [jaX e,b];exact ih
theorem KT.repl {H:Hp} {kvs:List (List zj×V)} {xs:List (List zj×Addr×Value)} (r:KT H kvs xs) (k:List zj) {y:V} {u:Value} (ry:RelV y u) :
 KT H (kvs.map fun kv=>if kv.1=k then (kv.1,y) else kv) (xs.map (putAt k u)):=by
 induction r with
 | nil=>exact .nil
 | @cons p q ps qs h t ih=>
   rw [List.map_cons,List.map_cons];refine .cons ?_ ih;obtain ⟨h1,h2,h3⟩:=h;unfold putAt;by_cases e:p.1=k
   . rw [if_pos e,if_pos (h1.symm.trans e)];exact ⟨h1,h2,ry⟩
   . rw [if_neg e,if_neg (fun z=>e (h1.trans z))];exact ⟨h1,h2,h3⟩
theorem KT.put {H:Hp} {kvs:List (List zj×V)} {xs:List (List zj×Addr×Value)} (r:KT H kvs xs) (k:List zj) {b:Addr} {y:V} {u:Value} (hb:H b=some (.tup (k.map kV))) (ry:RelV y u) :
 KT H (Z4 kvs k y) (storedH xs k b u):=by
 have e:(kvs.any fun kv=>decide (kv.1=k))=(atKey xs k).isSome:=by rw [jgA,(r.val k).isSome_eq,Option.isSome_map]
 unfold Z4 storedH;rw [e];by_cases q:(atKey xs k).isSome=true
 . rw [if_pos q,if_pos q];exact r.repl k ry
 . rw [if_neg q,if_neg q];exact Paired.snoc r ⟨rfl,hb,ry⟩
theorem KT.keeps {H H':Hp} {kvs:List (List zj×V)} {xs:List (List zj×Addr×Value)} (r:KT H kvs xs) (ht:∀b ys,H b=some (.tup ys)->H' b=some (.tup ys)):KT H' kvs xs:=Paired.mapP r fun _ _ z=>⟨z.1,ht _ _ z.2.1,z.2.2⟩
section
variable {P:Program} {w:World} {H:Hp} {h:Heap} {a:Addr}
theorem jod {u:HO} (ok:HOk P w H h) (e:Rd H a u):ObjOk P w H h a u:=e.ok ok
theorem Qx {kvs:List (zj×V)} (ok:HOk P w H h) (e:Rd H a (.dK kvs)):kvs.length<=sizeLine/\(a == sysModules)=false/\∃vs,KV kvs vs/\h.DictOf (jO P w) a vs:=show ObjOk P w H h a (.dK kvs) from jod ok e
theorem joo {kvs:List (zj×V)} (ok:HOk P w H h) (e:H a=some (.dK kvs)):kvs.length<=sizeLine/\(a == sysModules)=false/\∃vs,KV kvs vs/\h.DictOf (jO P w) a vs:=Qx ok (.inl e)
theorem Ja {ks:List zj} (ok:HOk P w H h) (e:H a=some (.tup (ks.map kV))):(tupleKind (jO P w)).is h ks a:=by obtain ⟨_,its,r,o,h1,h2,n,h3⟩:=(show ObjOk P w H h a (.tup (ks.map kV)) from ok a _ e);exact ⟨o,its.toArray,n,h1,h2,h3,by simpa using jdZ r⟩
theorem jbC {kvs:List (List zj×V)} (ok:HOk P w H h) (e:Rd H a (.dT kvs)):kvs.length<=sizeLine/\(a == sysModules)=false /\
 ∃xs,KT H kvs xs/\h.DictOfH (tupleKind (jO P w)) a xs:=by
 obtain ⟨z,y,xs,r,o,es,ep,h1,h2,h3,h4,h5⟩:=(show ObjOk P w H h a (.dT kvs) from jod ok e);refine ⟨z,y,xs,r,o,es,ep,h1,h2,h3,h4,fun x hx=>?_,h5⟩;have all:∀{l:List (List zj×V)} {m:List (List zj×Addr×Value)},KT H l m->∀x∈m,(tupleKind (jO P w)).is h x.1 x.2.1:=by
  intro l m q;induction q with
  | nil=>intro x hx;exact nomatch hx
  | @cons p q ps qs hq t ih=>
    intro x hx;rcases Yk.mp hx with e | hx
    . subst e;exact Ja ok (by rw [<-hq.1];exact hq.2.1)
    . exact ih x hx
 exact all r x hx
theorem jro {kvs:List (List zj×V)} (ok:HOk P w H h) (e:H a=some (.dT kvs)):kvs.length<=sizeLine/\(a == sysModules)=false /\
 ∃xs,KT H kvs xs/\h.DictOfH (tupleKind (jO P w)) a xs:=jbC ok (.inl e)
end
def jdr (H:Hp) (a:Addr) (y:V) (r:Option V):Prop:=(∃kvs k,Rd H a (.dK kvs)/\y=kV k/\r=jaT kvs k)\/∃kvs k b,Rd H a (.dT kvs)/\y=.ref b/\H b=some (.tup (k.map kV))/\r=jaT kvs k
def jsk (H:Hp) (a:Addr) (y v:V) (H':Hp):Prop:=
 (∃kvs k,H a=some (.dK kvs)/\y=kV k/\kvs.length<sizeLine/\H'=upd H a (.dK (Z4 kvs k v))) \/
 ∃kvs k b,H a=some (.dT kvs)/\y=.ref b/\H b=some (.tup (k.map kV))/\kvs.length<sizeLine/\H'=upd H a (.dT (Z4 kvs k v))
section
variable {X:Cx} {tu:List (Addr×Obj)} {σ:St} {H:Hp} {s:Shared} {a:Addr} {y v:V} {u r:Value} {o:Option V} {A:Around} {E:Value->Shared->Prop}
theorem Inv.big (I:Inv X tu σ H s):sysModules<s.heap.objs.size:=by have h:mainGlobals<s.heap.objs.size:=(I.mod.glob.keeps I.bk).lt;exact yH (by decide) h
theorem jjm {Q:Value->Shared->Prop} (hu:A.units+1<cLine) (I:Inv X tu σ H s) (g:jdr H a y (some v)) (ry:RelV y u) (h:∀w' s',Inv X tu σ H s'->RelV v w'->Q w' s') :
 wpAny ‹"b"› A (getItem (.ref a) u) Q E s:=by
 rcases g with ⟨kvs,k,e,ey,l⟩ | ⟨kvs,k,b,e,ey,eb,l⟩
 . subst ey;obtain ⟨z,hd,vs,rel,dd⟩:=Qx I.hok e;obtain ⟨w',hw,rw'⟩:=RelO.some_of (v:=v) (o:=valueAt vs k) (by rw [l];exact rel.val k);exact wpAny_getItem_of (jbD ry) dd.mapOf hw (h w' _ (I.tok _) rw')
 . subst ey;cases (show u=Value.ref b from ry);obtain ⟨z,hd,xs,rel,dd⟩:=jbC I.hok e;obtain ⟨w',hw,rw'⟩:=RelO.some_of (v:=v) (o:=(atKey xs k).map (·.2)) (by rw [l];exact rel.val k);obtain ⟨p,hp,hp2⟩:=Option.map_eq_some_iff.mp hw;refine wpAny_getItem_heap (Kc hu) (Ja I.hok eb) dd hp ?_;rw [hp2];exact h w' _ (I.tok _) rw'
theorem jsQ {Q:Value->Shared->Prop} (hu:A.units+1<cLine) (I:Inv X tu σ H s) (g:jdr H a y o) (ry:RelV y u) (h:∀s',Inv X tu σ H s'->Q (.bool o.isSome) s') :
 wpAny ‹"b"› A (compareOp .In u (.ref a)) Q E s:=by
 rcases g with ⟨kvs,k,e,ey,l⟩ | ⟨kvs,k,b,e,ey,eb,l⟩
 . subst ey;obtain ⟨z,hd,vs,rel,dd⟩:=Qx I.hok e;refine wpAny_in_of (jbD ry) hd dd.mapOf ?_;rw [<-(rel.val k).isSome_eq,<- l];exact h _ (I.tok _)
 . subst ey;cases (show u=Value.ref b from ry);obtain ⟨z,hd,xs,rel,dd⟩:=jbC I.hok e;refine wpAny_in_heap (Kc hu) (Ja I.hok eb) hd dd ?_;have q:=(rel.val k).isSome_eq;rw [Option.isSome_map] at q;rw [<-q,<- l];exact h _ (I.tok _)
theorem jnh {Q:Value->Shared->Prop} (hu:A.units+1<cLine) (I:Inv X tu σ H s) (g:jdr H a y o) (ry:RelV y u) (h:∀s',Inv X tu σ H s'->Q (.bool (!o.isSome)) s') :
 wpAny ‹"b"› A (compareOp .NotIn u (.ref a)) Q E s:=by
 rcases g with ⟨kvs,k,e,ey,l⟩ | ⟨kvs,k,b,e,ey,eb,l⟩
 . subst ey;obtain ⟨z,hd,vs,rel,dd⟩:=Qx I.hok e;refine wpAny_notIn_of (jbD ry) hd dd.mapOf ?_;rw [<-(rel.val k).isSome_eq,<- l];exact h _ (I.tok _)
 . subst ey;cases (show u=Value.ref b from ry);obtain ⟨z,hd,xs,rel,dd⟩:=jbC I.hok e;refine wpAny_notIn_heap (Kc hu) (Ja I.hok eb) hd dd ?_;have q:=(rel.val k).isSome_eq;rw [Option.isSome_map] at q;rw [<-q,<- l];exact h _ (I.tok _)
theorem jeN {h':Heap} {t':Nat} {ob:HO} (I:Inv X tu σ H s) (mu:Mut (H a)) (hs:Heap.SameBut a s.heap h') (he:∃q,h'.get? a=some q) (new:ObjOk X.prog X.w (upd H a ob) h' a ob) :
 Inv X tu σ (upd H a ob) { s with heap:=h',toks:=t' }:=
 I.write (x:=a) (e:=a) mu (.inl rfl) (fun b q hb z=>(hs.2 b hb).trans z) he new
theorem jha {P:Program} {w:World} {H':Hp} {h':Heap} {kvs:List (zj×V)} {vs:List (zj×Value)} (z:kvs.length<=sizeLine) (hd:(a == sysModules)=false) (rel:KV kvs vs) (dd:h'.DictOf (jO P w) a vs) :
 ObjOk P w H' h' a (.dK kvs):=⟨z,hd,vs,rel,dd⟩
theorem jiV {H':Hp} {Q:Unit->Shared->Prop} (hu:A.units+1<cLine) (I:Inv X tu σ H s) (g:jsk H a y v H') (ry:RelV y u) (rv:RelV v r) (h:∀s',Inv X tu σ H' s'->Q () s') :
 wpAny ‹"b"› A (setItem (.ref a) u r) Q E s:=by
 rcases g with ⟨kvs,k,e,ey,l,eH⟩ | ⟨kvs,k,b,e,ey,eb,l,eH⟩
 . subst ey eH;obtain ⟨z,hd,vs,rel,dd⟩:=joo I.hok e;have hz:vs.length<=sizeLine:=by rw [<-rel.length];exact z
   have hl:(Z4 kvs k v).length<=sizeLine:=by have:=Zd kvs k v;omega
   refine wpAny_setItem_pairs (hsz:=hz) (jbD ry) dd fun h' dd' hs=>h _ ?_;have he:∃q,h'.get? a=some q:=let ⟨q,_,_,hq,_⟩:=dd';⟨q,hq⟩;exact jeN I (by rw [e];exact True.intro) hs he (jha hl hd (rel.put k rv) dd')
 . subst ey eH;cases (show u=Value.ref b from ry);obtain ⟨z,hd,xs,rel,dd⟩:=jro I.hok e;have hz:xs.length<=sizeLine:=by rw [<-Paired.length rel];exact z
   have hl:(Z4 kvs k v).length<=sizeLine:=by have:=Zd kvs k v;omega
   refine wpAny_setItem_heap (hsz:=hz) (Kc hu) (Ja I.hok eb) dd fun h' dd' hs=>h _ ?_;obtain ⟨q,es,ep,hq,h2,h3,h4,_,h5⟩:=dd';refine jeN I (by rw [e];exact True.intro) hs ⟨q,hq⟩ ⟨hl,hd,_,(rel.put k eb rv).keeps fun c ys ec=>?_,q,es,ep,hq,h2,h3,h4,h5⟩;rw [jz (jrz ec e (fun z=>nomatch z))];exact ec
end
section
variable {X:Cx} {tu:List (Addr×Obj)} {σ:St} {H:Hp} {s:Shared} {a:Addr} {kvs:List (zj×V)} {k:zj} {u:Value} {A:Around} {E:Value->Shared->Prop}
end
def jpw (i:Expr):Prop:=∀ov iv,subscripted i false ov iv=operate [ov,iv] (getItem ov iv)
theorem jnd {prog:Program} {w:World} {A:Around} {E:Value->Shared->Prop} {s:Shared} {env:Env} {value slice:Expr} {pos:Pos} {T id:String} {Q:Value->Shared->Prop}
 (hl:typeLookup (.type T) "__getitem__"=pure (some (.builtin id))) (hs:jpw slice)
 (h:wpAny (model prog w) A (eval value env) (fun o s₁=>wpAny (model prog w) A (eval slice env) (fun i s₂=>s₂.TypeIs o T/\wpAny (model prog w) A (getItem o i) Q E s₂) E s₁) E s) :
 wpAny (model prog w) A (eval (.Subscript value slice pos) env) Q E s:=by
 refine Subscript_ (yk h (fun o s₁ h₁=>yk h₁ (fun i s₂ h₂=>?_) fun _ _ x=>x) fun _ _ x=>x);obtain ⟨hT,h₂⟩:=h₂;unfold subscriptTail;refine Ya ?_;rw [getitemInPython_of_ne hT.not_modules];refine Ya (yT hT hl ?_);have fin:wpAny (model prog w) A (subscripted slice false o i) (fun r s₃=>wpAny (model prog w) A (letTemporaryGo value o r >>= fun _=>pure r) Q E s₃) E s₂:=by rw [hs o i];exact wpAny_operating (yk h₂ (fun r s₃ h₃=>Ya (wpAny_letTemporaryGo (Yi h₃))) fun _ _ x=>x)
 first
  | exact Yi (Ya fin)
  | exact Ya (Yi (Ya fin))
  | exact Ya fin
theorem jgb {X:Cx} {tu:List (Addr×Obj)} {σ:St} {H:Hp} {s:Shared} {a:Addr} {y:V} {o:Option V} (I:Inv X tu σ H s) (g:jdr H a y o):s.TypeIs (.ref a) "dict":=by
 rcases g with ⟨kvs,k,e,_,_⟩ | ⟨kvs,k,b,e,_,_,_⟩
 . obtain ⟨_,_,vs,_,dd⟩:=Qx I.hok e;exact dd.typeIs
 . obtain ⟨_,_,xs,_,dd⟩:=jbC I.hok e;exact dd.typeIs
def joj (td ty:TE):TE:=fun σ H Q=>td σ H fun x H1=>ty σ H1 fun y H2=>∃a v,x=.ref a/\jdr H2 a y (some v)/\Q v H2
def joc (td ty tv:TE):TS:=fun D σ H=>tv σ H fun v H1=>td σ H1 fun x H2=>ty σ H2 fun y H3=>∃a H4,x=.ref a/\jsk H3 a y v H4/\D.nx σ H4
section
variable {X:Cx} {o i e value:Expr} {pos pos' tpos:Pos} {td ty tv:TE}
theorem jmh (hu:X.A.units+1<cLine) (ho:PE X o td) (hi:PE X i ty) (hs:jpw i):PE X (.Subscript o i pos) (joj td ty):=by intro tu s σ H Q I h;refine jnd PySem.F.slot_dict_getitem.lookup hs (qu (ho tu s σ H _ I h) fun u s1 ⟨x,H1,I1,rx,q1⟩=>qu (hi tu s1 σ H1 _ I1 q1) fun iv s2 zz=>?_);obtain ⟨y,H2,I2,ry,a,v,ex,g,q2⟩:=zz;subst ex;obtain rfl:u=Value.ref a:=rx;exact ⟨jgb I2 g,jjm hu I2 g ry fun w' s3 I3 rw'=>⟨v,H2,I3,rw',q2⟩⟩
theorem jm5 (hu:X.A.units+1<cLine) (ho:PE X o td) (hi:PE X i ty) (hv:PE X value tv) (hs:swapsWith value (some (.Subscript o i pos')) pos.line X.env=pure false) :
 PS X (.Assign [.Subscript o i pos'] value pos) (joc td ty tv):=by
 intro tu s σ H D I h;refine wpAny_Assign_Subscript (qu (hv tu s σ H _ I h) fun r s1 ⟨v,H1,I1,rv,q1⟩=>qu (ho tu s1 σ H1 _ I1 q1) fun u s2 ⟨x,H2,I2,rx,q2⟩=>qu (hi tu s2 σ H2 _ I2 q2) fun iv s3 zz=>?_) hs;obtain ⟨y,H3,I3,ry,a,H4,ex,g,q3⟩:=zz;subst ex;obtain rfl:u=Value.ref a:=rx;exact jiV hu I3 g ry rv fun s4 I4=>⟨σ,H4,I4,q3⟩
end
theorem jgc {P:Program} {w:World} {H:Hp} (h:Heap) (hb:sysModules<h.objs.size):ObjOk P w H (h.push { cls:=.type "dict",data:=.dict #[] }) h.objs.size (.dK []):=⟨yf _,Kq.mpr (Ne.symm (Yp hb)),[],.nil,Heap.DictOf.new h⟩
def jlI:TE:=fun _ H Q=>∀p,H p=none->Q (.ref p) (upd H p (.dK []))
section
variable {X:Cx} {pos:Pos}
theorem jk0:PE X (.Dict [] [] pos) jlI:=fun tu s σ H Q I h=>wpAny_Dict_empty ⟨.ref s.heap.objs.size,_,I.laid (a:=s.heap.objs.size) (o:=.dK []) (t':=s.toks) (fun _ _ q=>Yg _ q) (Ym _) (jgc s.heap I.big),rfl,h _ (I.hok.fresh (Ym _))⟩
end
def jg9:List (TE×TE)->St->Hp->(List (V×V)->Hp->Prop)->Prop
 | [],_,H,Q=>Q [] H
 | (tk,tv)::r,σ,H,Q=>tk σ H fun x H1=>tv σ H1 fun y H2=>jg9 r σ H2 fun ps H3=>Q ((x,y)::ps) H3
abbrev VV:List (V×V)->List (Value×Value)->Prop:=Paired fun p q=>RelV p.1 q.1/\RelV p.2 q.2
def PPs (X:Cx) (pos:Pos) (keys:List (Option Expr)) (values:List Expr) (trs:List (TE×TE)):Prop:=
 ∀(tu:List (Addr×Obj)) (s:Shared) (σ:St) (H:Hp) (Q:List (V×V)->Hp->Prop),Inv X tu σ H s->jg9 trs σ H Q->
   wpAny ‹"b"› X.A (evalPairs (pairTrees keys values X.env pos)) (fun vs s'=>∃ps H',Inv X tu σ H' s'/\VV ps vs/\Q ps H') X.xe s
theorem jmQ {X:Cx} {pos:Pos}:PPs X pos [] [] []:=fun tu s σ H Q I h=>pairTrees_nil_walk ⟨[],H,I,.nil,h⟩
theorem jlU {X:Cx} {pos:Pos} {k v:Expr} {ks:List (Option Expr)} {vs:List Expr} {tk tv:TE} {trs:List (TE×TE)} (hk:PE X k tk) (hv:PE X v tv) (hr:PPs X pos ks vs trs) :
 PPs X pos (some k::ks) (v::vs) ((tk,tv)::trs):=fun tu s σ H Q I h=>
 pairTrees_cons_walk (qu (hk tu s σ H _ I h) fun u s1 ⟨x,H1,I1,rx,q1⟩=>qu (hv tu s1 σ H1 _ I1 q1) fun w2 s2 ⟨y,H2,I2,ry,q2⟩=>qu (hr tu s2 σ H2 _ I2 q2) fun ws s3 ⟨ps,H3,I3,rel,q3⟩=>⟨(x,y)::ps,H3,I3,.cons ⟨rx,ry⟩ rel,q3⟩)
def jb5 (kvs more:List (zj×V)):List (zj×V):=more.foldl (fun tI kv=>Z4 tI kv.1 kv.2) kvs
theorem KV.merge:∀{more:List (zj×V)} {rs:List (zj×Value)} {kvs:List (zj×V)} {vs:List (zj×Value)},KV more rs->KV kvs vs->KV (jb5 kvs more) (merged vs rs):=by
 intro more rs kvs vs r;unfold KV at r;induction r generalizing kvs vs with
 | nil=>intro q;exact q
 | @cons p q ps qs h t ih=>
   intro r0;have e:KV (Z4 kvs p.1 p.2) (stored vs q.1 q.2):=by have:=r0.put p.1 h.2;rw [<-h.1];exact this
   exact ih e
theorem Z8:∀(more kvs:List (zj×V)),(jb5 kvs more).length<=kvs.length+more.length
 | [],kvs=>by show kvs.length<=kvs.length+0;omega
 | p::r,kvs=>by have h1:=Z8 r (Z4 kvs p.1 p.2);have h2:=Zd kvs p.1 p.2;show (jb5 (Z4 kvs p.1 p.2) r).length<=_;rw [Yx];omega
theorem jcv {P:Program} {w:World}:∀{kvs:List (zj×V)} {ws:List (Value×Value)},VV (kvs.map fun kv=>(kV kv.1,kv.2)) ws->∃rs,Carries (jO P w) ws rs/\KV kvs rs
 | [],_,r=>by rw [Kw] at r;cases r;exact ⟨[],True.intro,.nil⟩
 | p::kvs,_,r=>by
   rw [List.map_cons] at r;cases r with
   | @cons a b as bs h t=>obtain ⟨rs,c,q⟩:=jcv (P:=P) (w:=w) t;obtain ⟨b1,b2⟩:=b;exact ⟨(p.1,b2)::rs,⟨jbD h.1,rfl,c⟩,.cons ⟨rfl,h.2⟩ q⟩
def jnX (trs:List (TE×TE)):TE:=fun σ H Q=>∀p,H p=none->jg9 trs σ (upd H p (.dK [])) fun ps H2=>H2 p=some (.dK [])/\∃kvs:List (zj×V),ps=kvs.map (fun kv=>(kV kv.1,kv.2))/\kvs.length<=15/\Q (.ref p) (upd H2 p (.dK (jb5 [] kvs)))
theorem jnr {X:Cx} {pos:Pos} {keys:List (Option Expr)} {values:List Expr} {trs:List (TE×TE)} (h:PPs X pos keys values trs) (hall:keys.all (·.isSome)=true) (hl:keys.length=values.length) (h0:keys≠[])
 (h15:keys.length<=15):PE X (.Dict keys values pos) (jnX trs):=by
 intro tu s σ H Q I q;have hn:=I.hok.fresh (Ym s.heap.objs.size);have I1:=I.laid (a:=s.heap.objs.size) (o:=.dK []) (h':=s.heap.push { cls:=.type "dict",data:=.dict #[] }) (t':=s.toks) (fun _ _ q=>Yg _ q) (Ym _) (jgc s.heap I.big);refine wpAny_Dict_walk (knd:=jO X.prog X.w) hall hl h0 h15 (qu (h tu _ σ _ _ I1 (q _ hn)) fun ws s2 zz=>?_);obtain ⟨ps,H2,I2,rel,e,kvs,ep,lk,q2⟩:=zz;subst ep;obtain ⟨rs,c,rk⟩:=jcv (P:=X.prog) (w:=X.w) rel;obtain ⟨z,hd,vs0,r0,dd⟩:=joo I2.hok e;cases r0;refine ⟨rs,c,dd,fun h' dd' hs=>⟨.ref s.heap.objs.size,_,?_,rfl,q2⟩⟩;have hz:(jb5 [] kvs).length<=sizeLine:=by have h1:=Z8 kvs [];rw [yI] at h1;rw [KJ];omega
 have he:∃q,h'.get? s.heap.objs.size=some q:=let ⟨q,_,_,hq,_⟩:=dd';⟨q,hq⟩;exact jeN I2 (by rw [e];exact True.intro) hs he (jha hz hd (rk.merge .nil) dd')
structure M1 (X:Cx) (o:Expr) (m:Str) (apos:Pos) (e:Expr) (cpos:Pos):Prop where
 base:attributeBase o m X.env (eval o X.env)=eval o X.env
 few:((backTo cpos (starEach [e] X.env)).all (fun x=>!x.1) && (backToKw cpos (keywordEach [] X.env)).all (fun x=>x.1.isSome)
  && decide (([e]:List Expr).length+([]:List Keyword).length+(if ([]:List Keyword).isEmpty then 0 else 1)<30))=true
 line:‹"4"›=true
 trees:backTo cpos (starEach [e] X.env)=[(false,eval e X.env)]
structure M2 (X:Cx) (o:Expr) (m:Str) (apos:Pos) (e f:Expr) (cpos:Pos):Prop where
 base:attributeBase o m X.env (eval o X.env)=eval o X.env
 few:((backTo cpos (starEach [e,f] X.env)).all (fun x=>!x.1) && (backToKw cpos (keywordEach [] X.env)).all (fun x=>x.1.isSome)
  && decide (([e,f]:List Expr).length+([]:List Keyword).length+(if ([]:List Keyword).isEmpty then 0 else 1)<30))=true
 line:‹"4"›=true
 trees:backTo cpos (starEach [e,f] X.env)=[(false,eval e X.env),(false,eval f X.env)]
def IsD (H:Hp) (a:Addr):Prop:=(∃kvs,Rd H a (.dK kvs))\/∃kvs,Rd H a (.dT kvs)
theorem jg6 {X:Cx} {tu:List (Addr×Obj)} {σ:St} {H:Hp} {s:Shared} {a:Addr} (I:Inv X tu σ H s) (d:IsD H a) :
 s.TypeIs (.ref a) "dict" ∧ (∀b,Value.ref a=.ref b → ∃ob,s.heap.get? b=some ob ∧ ob.dict=none) ∧ (a == sysModules)=false:=by
 rcases d with ⟨kvs,e⟩ | ⟨kvs,e⟩
 . obtain ⟨_,hd,vs,_,dd⟩:=Qx I.hok e;refine ⟨dd.typeIs,fun b q=>?_,hd⟩;cases q;obtain ⟨ob,_,_,h1,h2,_⟩:=dd;exact ⟨ob,h1,h2.2.1⟩
 . obtain ⟨_,hd,xs,_,dd⟩:=jbC I.hok e;refine ⟨dd.typeIs,fun b q=>?_,hd⟩;cases q;obtain ⟨ob,_,_,h1,h2,_⟩:=dd;exact ⟨ob,h1,h2.2.1⟩
section
variable {X:Cx} {tu:List (Addr×Obj)} {σ:St} {H:Hp} {s:Shared} {a:Addr} {y d:V} {u r:Value} {o:Option V} {A:Around} {E:Value->Shared->Prop}
theorem jpY {Q:Value->Shared->Prop} (hu:A.units+1<cLine) (I:Inv X tu σ H s) (g:jdr H a y o) (ry:RelV y u) (h:∀w' s',Inv X tu σ H s'->RelV (o.getD .non) w'->Q w' s') :
 wpAny ‹"b"› A (call (.builtin "dict.get") [.ref a,u]) Q E s:=by
 rcases g with ⟨kvs,k,e,ey,l⟩ | ⟨kvs,k,b,e,ey,eb,l⟩
 . subst ey;obtain ⟨z,hd,vs,rel,dd⟩:=Qx I.hok e;refine K8 yw dd.typeIs yY (KY _ _) (meets_dict_get (jO X.prog X.w) a (jbD ry) hd) ⟨_,dd.mapOf,h _ _ (I.tok _) ?_⟩;rw [l];exact (rel.val k).getD rfl
 . subst ey;cases (show u=Value.ref b from ry);obtain ⟨z,hd,xs,rel,dd⟩:=jbC I.hok e;refine K8 yw dd.typeIs yY (KY _ _) (meetsH_dict_get (tupleKind (jO X.prog X.w)) a b hd) ⟨Kc hu,k,xs,Ja I.hok eb,dd,h _ _ (I.tok _) ?_⟩;rw [l];exact (rel.val k).getD rfl
theorem jpv {Q:Value->Shared->Prop} (hu:A.units+1<cLine) (I:Inv X tu σ H s) (g:jdr H a y o) (ry:RelV y u) (rd:RelV d r) (h:∀w' s',Inv X tu σ H s'->RelV (o.getD d) w'->Q w' s') :
 wpAny ‹"b"› A (call (.builtin "dict.get") [.ref a,u,r]) Q E s:=by
 rcases g with ⟨kvs,k,e,ey,l⟩ | ⟨kvs,k,b,e,ey,eb,l⟩
 . subst ey;obtain ⟨z,hd,vs,rel,dd⟩:=Qx I.hok e;refine K8 yw dd.typeIs yY (PySem.F.args_dict_get_3 _ _ _) (meets_dict_get_default (jO X.prog X.w) a (jbD ry) hd r) ⟨_,dd.mapOf,h _ _ (I.tok _) ?_⟩;rw [l];exact (rel.val k).getD rd
 . subst ey;cases (show u=Value.ref b from ry);obtain ⟨z,hd,xs,rel,dd⟩:=jbC I.hok e;refine K8 yw dd.typeIs yY (PySem.F.args_dict_get_3 _ _ _) (meetsH_dict_get_default (tupleKind (jO X.prog X.w)) a b hd r) ⟨Kc hu,k,xs,Ja I.hok eb,dd,h _ _ (I.tok _) ?_⟩;rw [l];exact (rel.val k).getD rd
end
def jl1 (td ty tx:TE):TE:=fun σ H Q=>td σ H fun x H1=>∃a,x=.ref a/\IsD H1 a/\ty σ H1 fun y H2=>tx σ H2 fun z H3=>∃o,jdr H3 a y o/\Q (o.getD z) H3
section
variable {X:Cx} {o e f:Expr} {apos cpos:Pos} {td ty tx:TE}
theorem jkh (hu:X.A.units+1<cLine) (ho:PE X o td) (he:PE X e ty) (hf:PE X f tx) (m:M2 X o "get" apos e f cpos):PE X (.Call (.Attribute o "get" apos) [e,f] [] cpos) (jl1 td ty tx):=by
 intro tu s σ H Q I h;refine wpAny_Call_method m.base m.few m.line KW yw PySem.F.type_dict_get (qu (ho tu s σ H _ I h) fun u s1 zz=>?_);obtain ⟨x,H1,I1,rx,a,ex,d,q1⟩:=zz;subst ex;obtain rfl:u=Value.ref a:=rx;obtain ⟨t1,t2,_⟩:=jg6 I1 d;refine ⟨t1,t2,?_⟩;rw [m.trees];refine Ku rfl (kq (yA (qu (he tu s1 σ H1 _ I1 q1) fun iv s2 ⟨y,H2,I2,ry,q2⟩=>yA (qu (hf tu s2 σ H2 _ I2 q2) fun fv s3 ⟨z,H3,I3,rz,ov,g,q3⟩=>yS ?_))))
 exact jpv hu I3 g ry rz fun w' s4 I4 rw'=>⟨_,H3,I4,rw',q3⟩
end
section
variable {X:Cx} {tu:List (Addr×Obj)} {σ:St} {H:Hp} {s:Shared} {a:Addr} {kvs:List (zj×V)} {A:Around} {E:Value->Shared->Prop}
theorem jkE {Q:Value → Shared → Prop} (I:Inv X tu σ H s) (e:Rd H a (.dK kvs)) (h:∀p s',H p=none → Inv X tu σ (upd H p (.dK kvs)) s' → Q (.ref p) s'):wpAny ‹"b"› A (call (.type "dict") [.ref a]) Q E s:=by obtain ⟨z,hd,vs,rel,dd⟩:=Qx I.hok e;refine kt_call_dict hd dd (by rw [<-rel.length];exact z) fun h' dd' hs=>?_;refine h _ _ (I.hok.fresh (Ym _)) (I.laid (a:=s.heap.objs.size) (o:=.dK kvs) (t':=s.toks) (fun b q hq=>?_) (Ym _) (jha z (Kq.mpr (Ne.symm (Yp I.big))) rel dd'));exact (hs.2 b (Yp (Yr hq))).trans (Yg _ hq)
end
section
variable {X:Cx} {tu:List (Addr×Obj)} {σ:St} {H:Hp} {s:Shared} {a:Addr} {y:V} {u:Value} {A:Around} {E:Value->Shared->Prop}
end
end L2
namespace L2S
open PySem
def Ris (xs:Array Nat):Prop:=∀i j,i<j->j<xs.size->xs.getD i 0<xs.getD j 0
theorem jc3 {xs:Array Nat} {j:Nat} (R:Ris xs):∀(fuel lo hi:Nat),lo<=hi->hi<=xs.size->hi-lo<=fuel->(∀i,i<lo->xs.getD i 0<j)->(∀i,hi<=i->i<xs.size->j<=xs.getD i 0)->
 (SetTable.below.go xs j fuel lo hi<=xs.size)/\(∀i,i<SetTable.below.go xs j fuel lo hi->xs.getD i 0<j)/\(∀i,SetTable.below.go xs j fuel lo hi<=i->i<xs.size->j<=xs.getD i 0)
 | 0,lo,hi,h1,h2,h3,h4,h5=>by
   have:lo=hi:=by omega
   subst this;exact ⟨h2,h4,h5⟩
 | fuel+1,lo,hi,h1,h2,h3,h4,h5=>by
   unfold SetTable.below.go;by_cases hlt:lo<hi
   . rw [if_pos hlt];dsimp only;have hm:(lo+hi)/2<xs.size:=by omega
     have e:xs.getD ((lo+hi)/2) j=xs.getD ((lo+hi)/2) 0:=by simp [Array.getD,hm]
     rw [e];by_cases hc:xs.getD ((lo+hi)/2) 0<j
     . rw [if_pos hc];refine jc3 R fuel _ _ (by omega) h2 (by omega) (fun i hi'=>?_) h5;rcases yh i ((lo+hi)/2) with q | q
       . exact yH (R i _ q hm) hc
       . have:i=(lo+hi)/2:=by omega
         subst this;exact hc
     . rw [if_neg hc];refine jc3 R fuel _ _ (by omega) (by omega) (by omega) h4 (fun i hi' hs=>?_);rcases yh ((lo+hi)/2) i with q | q
       . exact YW (Nat.le_of_not_lt hc) (yP (R _ i q hs))
       . have:i=(lo+hi)/2:=by omega
         subst this;exact Nat.le_of_not_lt hc
   . rw [if_neg hlt];have:lo=hi:=by omega
     subst this;exact ⟨h2,h4,h5⟩
theorem jcR {xs:Array Nat} {j:Nat} (R:Ris xs):SetTable.below xs j<=xs.size/\(∀i,i<SetTable.below xs j->xs.getD i 0<j)/\(∀i,SetTable.below xs j<=i->i<xs.size->j<=xs.getD i 0):=jc3 R xs.size 0 xs.size (yf _) (Ym _) (by omega) (fun i h=>absurd h (kD _)) fun i h1 h2=>absurd h2 (K5.mpr h1)
theorem jhr {xs:Array Nat} {i:Nat} (R:Ris xs) (hi:i<xs.size):SetTable.below xs (xs.getD i 0+1)=i+1:=by
 obtain ⟨b1,b2,b3⟩:=jcR (j:=xs.getD i 0+1) R;rcases Nat.lt_trichotomy (SetTable.below xs (xs.getD i 0+1)) (i+1) with q | q | q
 . have:=b3 i (by omega) hi;omega
 . exact q
 . have:=b2 (i+1) q;have h2:i+1<xs.size:=by omega
   have:=R i (i+1) (by omega) h2;omega
theorem jhl {xs:Array Nat} (R:Ris xs):SetTable.below xs 0=0:=by
 obtain ⟨b1,b2,b3⟩:=jcR (j:=0) R;rcases Nat.eq_zero_or_pos (SetTable.below xs 0) with q | q
 . exact q
 . have:=b2 0 q;omega
theorem jdl {α:Type} (xs:Array α) (p:Nat) (x:α) (hp:p<=xs.size):(SetTable.insertAt xs p x).size=xs.size+1:=by unfold SetTable.insertAt;simp only [Array.size_append,Array.size_push,Array.size_extract];omega
theorem jbT {α:Type} (xs:Array α) (p:Nat) (x:α):(SetTable.insertAt xs p x).toList=xs.toList.take p++[x]++xs.toList.drop p:=by unfold SetTable.insertAt;simp [Array.toList_extract,List.extract];rw [K3 (by simp)]
theorem jab (xs:Array Nat) (p x i:Nat) (hp:p<=xs.size):(SetTable.insertAt xs p x).getD i 0=if i<p then xs.getD i 0 else if i=p then x else xs.getD (i-1) 0:=by
 have e:=jbT xs p x;have g:∀(ys:Array Nat) (k:Nat),ys.getD k 0=ys.toList.getD k 0:=fun ys k=>by simp [yX,Yc]
 rw [g,e,g,g];simp only [Yc];have hl:(xs.toList.take p).length=p:=by simp;omega
 split
 . rename_i h;rw [yR,YD (by omega),List.getElem?_take_of_lt h]
 . split
   . rename_i h1 h2;subst h2;rw [yR,YH (by omega)];simp [hl]
   . rename_i h1 h2;rw [YH (by simp;omega),List.getElem?_drop];simp only [YG,hl,Yx,yI];rw [show p+(i-(p+(0+1)))=i-1 by omega]
theorem jhi {xs:Array Nat} {j:Nat} (R:Ris xs) (hn:xs[SetTable.below xs j]?≠some j):Ris (SetTable.insertAt xs (SetTable.below xs j) j):=by
 obtain ⟨b1,b2,b3⟩:=jcR (j:=j) R;generalize SetTable.below xs j=p at *
 intro a b hab hb;rw [jdl _ _ _ b1] at hb;rw [jab _ _ _ _ b1,jab _ _ _ _ b1];have hp:p<xs.size->j<xs.getD p 0:=fun h=>by
  have h1:=b3 p (Ym _) h;have h2:xs.getD p 0≠j:=fun z=>hn (by rw [YE h];simp [Array.getD,h] at z;rw [z])
  omega
 have mono:∀c,p<=c->c<xs.size->j<xs.getD c 0:=fun c h1 h2=>by
  rcases yh p c with q | q
  . have:=R p c q h2;have:=hp (by omega);omega
  . have:c=p:=by omega
    subst this;exact hp h2
 split <;> split <;> (try split) <;> (try split);all_goals first
  | (rename_i h1 h2;exact R a b hab (by omega))
  | skip
 all_goals first
  | omega
  | (apply R;omega;omega)
  | (rename_i h1 h2 h3;exact b2 a h1)
  | skip
 all_goals first
  | (exact b2 _ (by omega))
  | (exact mono _ (by omega) (by omega))
  | (exact yH (b2 _ (by omega)) (mono _ (by omega) (by omega)))
  | skip
theorem ZZ (n:Nat):Ris (Array.range n):=by intro i j h1 h2;rw [Array.size_range] at h2;simp [Array.getD,h2,show i<n by omega];exact h1
theorem jbr (f:Nat->Option Nat):∀(l:List Nat),((l.filterMap fun j=>(f j).map (j,·)).map (·.1)).Sublist l
 | []=>by simp
 | a::l=>by
   rw [Ks];cases e:f a with
   | none=>exact (jbr f l).cons a
   | some b=>exact (jbr f l).cons₂ a
theorem jbQ {l:List Nat} (h:l.Pairwise (· < ·)):Ris l.toArray:=by
 intro i j h1 h2;have h2':j<l.length:=by simpa using h2
 have:=(Kf.mp h) i j (by omega) h2' h1;simp [Array.getD,h2',show i<l.length by omega];exact this
theorem jlT {mask finger moves:Nat} {led plain:Bool} {hs:Array Int} {t:SetTable} {o:Array Nat} (h:SetTable.laid mask finger moves led plain hs=some (t,o)):Ris t.place/\t.led=led/\t.plain=plain:=by
 unfold SetTable.laid at h;cases e:SetTable.layClean mask hs with
 | none=>rw [e] at h;cases h
 | some ow=>rw [e] at h;have h':=Option.some.inj h;have h1:=congrArg (·.1) h';dsimp only at h1;subst h1;refine ⟨?_,rfl,rfl⟩;dsimp only;refine jbQ ?_;exact (List.pairwise_lt_range).sublist (jbr (fun j=>ow.getD j none) (List.range (mask+1)))
end L2S
set_option maxHeartbeats 4000000
namespace L2
open PySem PySem.Spec PyProof.Rows
abbrev JF (h:Heap) (z TI TO a:Addr) (f:Bool):Prop:=h.get? z=some { cls:=.type "zip",dict:=none,data:=.fields #[rawInt a,.bool f,.bool false,.ref TI,.ref TO],slots:=#[] }
section
variable {prog:Program} {w:World} {A:Around} {E:Value->Shared->Prop} {s:Shared}
theorem ltN {h:Heap} {b:Addr} {o:Obj} (e:h.get? b=some o):@LT.lt Nat instLTNat b h.objs.size:=Yr e
theorem jld {a:Addr} {o:Obj} {Q:Option Obj->Shared->Prop} (ho:s.heap.get? a=some o) (h:Q (some o) s):wpAny (model prog w) A (loadIfAlive a) Q E s:=by
 have q:Q (s.heap.get? a) s:=by rw [ho];exact h
 exact fun _ _ _=>q
theorem jct {z TI TO a:Addr} {f:Bool} {oa:Obj} {Q:Bool->Shared->Prop} (hz:JF s.heap z TI TO a f) (ha:s.heap.get? a=some oa)
 (hQ:∀h',JF h' z TI TO a true->Heap.SameBut z s.heap h'->Q false { s with heap:=h' }):wpAny (model prog w) A (Builtin.SmallTypes.ownedTupleIsFree (.ref z)) Q E s:=by
 unfold Builtin.SmallTypes.ownedTupleIsFree;refine Ya (kA hz rfl (x:=rawInt a) rfl ?_);show wpAny _ _ (loadIfAlive ((a:Int).toNat) >>= _) _ _ _;rw [Yv];refine Ya (jld ha ?_);simp only [Option.isNone_some,Y2,yL];refine Ya (kA hz rfl (x:=.bool f) rfl ?_);cases f with
 | true=>rw [if_neg (show ¬((Value.bool true != Value.bool true)=true) from Yh)];exact Yi (hQ s.heap hz (Heap.SameBut.refl _ _))
 | false=>rw [if_pos (show (Value.bool false != Value.bool true)=true from rfl)];refine Ya (yx hz (by simp) fun h' hz' hs'=>?_);exact Yi (hQ h' hz' hs')
theorem jdg {z TI TO i1 i2 l1 l2 a:Addr} {f:Bool} {oa:Obj} {k1 k2:Nat} {xs ys:Array Value} {x y:Value} {Q:Option Value->Shared->Prop} (D:ZipApart z TI TO i1 i2 l1 l2)
 (hz:JF s.heap z TI TO a f) (ha:s.heap.get? a=some oa) (hTI:IsPair s.heap TI (.ref i1) (.ref i2))
 (h1:s.heap.IsListIter i1 l1 k1) (h2:s.heap.IsListIter i2 l2 k2) (hl1:s.heap.IsList l1 xs) (hl2:s.heap.IsList l2 ys) (hx:xs[k1]?=some x) (hy:ys[k2]?=some y)
 (hQ:∀h',JF h' z TI TO a true->h'.IsListIter i1 l1 (k1+1)->h'.IsListIter i2 l2 (k2+1)->IsPair h' s.heap.objs.size x y->h'.objs.size=s.heap.objs.size+1->
  (∀c o,c≠z->c≠i1->c≠i2->s.heap.get? c=some o->h'.get? c=some o)->Q (some (.ref s.heap.objs.size)) { s with heap:=h' }) :
 wpAny (model prog w) A (pyNext (.ref z)) Q E s:=by
 have hT:s.TypeIs (.ref z) "zip":=⟨_,hz,rfl⟩;unfold pyNext;refine Ya ‹"aa"›;show wpAny _ _ (field (.ref z) 2 >>= _) _ _ _;refine Ya (kA hz rfl (x:=.bool false) rfl ?_);show wpAny _ _ (field (.ref z) 3 >>= _) _ _ _;refine Ya (kA hz rfl (x:=.ref TI) rfl ?_);refine Ya (yM hTI rfl ?_);show wpAny _ _ (Builtin.SmallTypes.ownedTupleIsFree (.ref z) >>= _) _ _ _;refine Ya (jct hz ha fun g1 hz1 s1=>?_);simp only [Y2,yL];rw [<-Array.forIn_toList];simp only [List.forIn_cons,List.forIn_nil];refine Ya (Ya (Ya (Y4 ?_)));show wpAny _ _ (Builtin.SmallTypes.nextOf (.ref i1) >>= _) _ _ _;refine Ya ‹"aD"›;refine Ya (Ya (Y4 ?_));show wpAny _ _ (Builtin.SmallTypes.nextOf (.ref i2) >>= _) _ _ _;refine Ya (K2 ((h2.extBut s1.extBut D.i2z).extBut s2.extBut D.i12.symm) ((hl2.extBut s1.extBut D.l2z).extBut s2.extBut D.l2i1) hy fun g3 p3 s3=>Yi (Yi (Yi ?_)));dsimp only;refine Ya (wpAny_newTuple (hsz:=by show 2<=sizeLine;decide) ?_);have hsz:g3.objs.size=s.heap.objs.size:=by rw [s3.1,s2.1,s1.1]
 have hz3:JF g3 z TI TO a true:=s3.extBut _ _ D.i2z.symm (s2.extBut _ _ D.i1z.symm hz1);refine Yi ⟨_,rfl,Yi ?_⟩;show Q (some (.ref g3.objs.size)) _;rw [hsz];refine hQ _ (Yg _ hz3) ((p2.extBut s3.extBut D.i12).at fun o e=>Yg _ e) (p3.at fun o e=>Yg _ e) ?_ (by rw [yi,hsz]) fun c o c1 c2 c3 e=>Yg _ (s3.extBut _ _ c3 (s2.extBut _ _ c2 (s1.extBut _ _ c1 e)));rw [<-hsz];exact Ys _ rfl
theorem jeO {z TI TO i1 i2 l1 l2 a:Addr} {f:Bool} {oa:Obj} {k1 k2:Nat} {xs ys:Array Value} {Q:Option Value->Shared->Prop} (hh:A.handled=none) (D:ZipApart z TI TO i1 i2 l1 l2)
 (hz:JF s.heap z TI TO a f) (ha:s.heap.get? a=some oa) (hTI:IsPair s.heap TI (.ref i1) (.ref i2))
 (h1:s.heap.IsListIter i1 l1 k1) (h2:s.heap.IsListIter i2 l2 k2) (hl1:s.heap.IsList l1 xs) (hl2:s.heap.IsList l2 ys) (hend:xs[k1]?=none\/ys[k2]?=none)
 (hQ:∀h',(∀c o,c≠z->c≠i1->c≠i2->s.heap.get? c=some o->h'.get? c=some o)->Q none { s with heap:=h' }):wpAny (model prog w) A (pyNext (.ref z)) Q E s:=by
 have hT:s.TypeIs (.ref z) "zip":=⟨_,hz,rfl⟩;have stop:∀(h':Heap) (e:Addr),(∀c o,c≠z → c≠i1 → c≠i2 → s.heap.get? c=some o → h'.get? c=some o) → (∃o,h'.get? e=some o ∧ o.cls=.type "StopIteration") →
  wpAny (model prog w) A (do let b ← isInstance (.ref e) (.type "StopIteration");if b=true then pure none else throw (.ref e)) Q E { s with heap:=h' }:=by
  rintro h' e hk ⟨o,ho,hc⟩;refine Ya (kc (T := "StopIteration") (b:=true) ⟨o,ho,hc⟩ isSubtype_stop ?_);exact Yi (hQ _ hk)
 unfold pyNext;refine Ya ‹"aa"›;show wpAny _ _ (field (.ref z) 2 >>= _) _ _ _;refine Ya (kA hz rfl (x:=.bool false) rfl ?_);show wpAny _ _ (field (.ref z) 3 >>= _) _ _ _;refine Ya (kA hz rfl (x:=.ref TI) rfl ?_);refine Ya (yM hTI rfl ?_);show wpAny _ _ (Builtin.SmallTypes.ownedTupleIsFree (.ref z) >>= _) _ _ _;refine Ya (jct hz ha fun g1 hz1 s1=>?_);simp only [Y2,yL];rw [<-Array.forIn_toList];simp only [List.forIn_cons,List.forIn_nil];refine Ya (Ya (Ya (Y4 ?_)));show wpAny _ _ (Builtin.SmallTypes.nextOf (.ref i1) >>= _) _ _ _;cases hx:xs[k1]? with
 | none=>exact Ya (wpAny_nextOf_list_end hh (h1.extBut s1.extBut D.i1z) (hl1.extBut s1.extBut D.l1z) hx fun g2 e s2 he=>stop g2 e (fun c o c1 c2 c3 q=>s2 _ _ c2 (s1.extBut _ _ c1 q)) he)
 | some x=>
   have hy:ys[k2]?=none:=by
    rcases hend with q | q
    . rw [hx] at q;cases q
    . exact q
   refine Ya ‹"aD"›;refine Ya (Ya (Y4 ?_));show wpAny _ _ (Builtin.SmallTypes.nextOf (.ref i2) >>= _) _ _ _;exact Ya (wpAny_nextOf_list_end hh ((h2.extBut s1.extBut D.i2z).extBut s2.extBut D.i12.symm) ((hl2.extBut s1.extBut D.l2z).extBut s2.extBut D.l2i1) hy fun g3 e s3 he=>stop g3 e (fun c o c1 c2 c3 q=>s3 _ _ c3 (s2.extBut _ _ c2 (s1.extBut _ _ c1 q))) he)
theorem jbL {R:Result->Shared->Prop} {S I:Addr} {res:Value} (St:Nat->Array Value->Shared->Prop)
 (turn:∀n tI s,St n tI s->tI.size<sizeLine/\wpAny (model prog w) A.in1 (pyNext (.ref I)) (fun r s'=>match r with
  | none=>R (.ok (.ret res)) s'
  | some v=>(∃c,s'.heap.get? S=some { cls:=.type "list",data:=.seq tI c }) ∧
      ∀h' c',h'.get? S=some { cls:=.type "list",data:=.seq (tI.push v) c' } → Heap.SameBut S s'.heap h' → ∃m,m<n ∧ St m (tI.push v) { s' with heap:=h' }) (fun e s'=>R (.error e) s') s) :
 ∀n tI s,St n tI s → codeAny (model prog w) A (.builtin "list.extend.loop" ⟨[.ref S,.ref I,res],[]⟩) R s:=by
 intro n;induction n using Nat.strongRecOn with
 | ind n ih=>
   intro tI s hs;obtain ⟨hz,t⟩:=turn n tI s hs;refine yy F.entry_extend_loop ?_;rw [ye kJ _];show wpAny _ A.in1 (pyNext (.ref I) >>= _) _ _ s;refine Ya (yk t (fun r s' q=>?_) fun _ _ q=>q);cases r with
   | none=>exact Yi q
   | some v=>obtain ⟨⟨c,e⟩,q⟩:=q;show wpAny _ A.in1 (updateSeq S (·.push v) >>= _) _ _ _;refine Ya ?_;refine yg e rfl (Yi ⟨yt kJ _,?_⟩) (by omega) (by show (tI.push v).size<=sizeLine+1;rw [Array.size_push];omega);have e2:=YT (Obj.mapSeq (·.push v)) e rfl;obtain ⟨m,hm,hs'⟩:=q _ _ e2 (Heap.SameBut.update ..);exact ih m hm _ _ hs'
theorem jgV:typeLookup (.type "zip") "__len__"=pure none:=by rw [KU,Kd];kernel_rfl
theorem jfr:typeLookup (.type "zip") "__length_hint__"=pure none:=by rw [KU,Kd];kernel_rfl
theorem jkH {z TI TO:Addr} {f0:Value} {Q:Bool->Shared->Prop} (hz:IsZip s.heap z TI TO f0) (h:Q true s):wpAny (model prog w) A (Builtin.List.listLengthHint (.ref z)) Q E s:=by have hT:s.TypeIs (.ref z) "zip":=⟨_,hz,rfl⟩;unfold Builtin.List.listLengthHint;refine Ya (yT hT jgV ?_);show wpAny _ _ (specialOf (Value.ref z) (Str.ofString "__length_hint__") >>= _) _ _ s;refine Ya (yT hT jfr ?_);exact Yi h
structure ZipMade (h₀ h:Heap) (S z TO i1 i2:Addr) (xs ys tI:Array Value) (i:Nat):Prop where
 size:tI.size=i
 pair:∀j,j<i->∃T x y,tI[j]?=some (.ref T)/\xs[j]?=some x/\ys[j]?=some y/\IsPair h T x y/\h₀.objs.size<=T/\T≠S/\(T≠z/\T≠TO/\T≠i1/\T≠i2)/\∀k,k<j->tI[k]?≠some (.ref T)
 keep:∀b o,h₀.get? b=some o->h.get? b=some o
theorem jks {z TI TO i1 i2 l1 l2:Addr} {xs ys:Array Value} {h₀:Heap} {Q:Value->Shared->Prop} (hh:A.handled=none) (D:ZipApart z TI TO i1 i2 l1 l2)
 (hz:IsZip s.heap z TI TO .none) (hTI:IsPair s.heap TI (.ref i1) (.ref i2)) (hTO:∃a b,IsPair s.heap TO a b) (h1:s.heap.IsListIter i1 l1 0) (h2:s.heap.IsListIter i2 l2 0) (hl1:h₀.IsList l1 xs) (hl2:h₀.IsList l2 ys)
 (hk:∀b o,h₀.get? b=some o->s.heap.get? b=some o) (hge:h₀.objs.size<=z/\h₀.objs.size<=TO/\h₀.objs.size<=i1/\h₀.objs.size<=i2) (hle:h₀.objs.size<=s.heap.objs.size) (hn:xs.size<sizeLine)
 (hQ:∀S h' tI c,h₀.objs.size ≤ S → h'.get? S=some { cls:=.type "list",data:=.seq tI c } → ZipMade h₀ h' S z TO i1 i2 xs ys tI (min xs.size ys.size) → Q (.ref S) { s with heap:=h' }) :
 wpAny (model prog w) A (call (.type "list") [.ref z]) Q E s:=by
 refine callType_codes (Q₁:=fun obj s₁=>obj=.ref s.heap.objs.size ∧ s₁={ s with heap:=s.heap.push { cls:=.type "list",data:=.seq #[] } }) F.called_list (F.typeCall_list_1 _) F.entry_list_init (code_list_new _ ⟨rfl,rfl⟩) fun obj s₁ e₁=>?_;obtain ⟨rfl,rfl⟩:=e₁;generalize hSd:s.heap.objs.size=S at *
 have hS:(s.heap.push { cls:=.type "list",data:=.seq #[] }).get? S=some { cls:=.type "list",data:=.seq #[] }:=by rw [← hSd];exact Ys _ rfl
 refine ⟨⟨_,hS,rfl⟩,F.args_list_init_2 _ _,?_⟩;generalize hG:s.heap.push { cls:=.type "list",data:=.seq #[] }=G at *
 have up:∀b o,s.heap.get? b=some o->G.get? b=some o:=fun b o e=>by rw [<-hG];exact Yg _ e
 have nS:∀b o,s.heap.get? b=some o->b≠S:=fun b o e=>by rw [<-hSd];exact Yp (Yr e)
 obtain ⟨ta,tb,hTO⟩:=hTO;obtain ⟨oi1,ei1,_⟩:=id h1;obtain ⟨oi2,ei2,_⟩:=id h2;have zS:=nS _ _ hz;have i1S:=nS _ _ ei1;have i2S:=nS _ _ ei2;have TIS:=nS _ _ hTI;have TOS:=nS _ _ hTO;have zl:z<S:=by have q:=ltN hz;rw [hSd] at q;exact q
 have TOl:TO<S:=by have q:=ltN hTO;rw [hSd] at q;exact q
 have i1l:i1<S:=by have q:=ltN ei1;rw [hSd] at q;exact q
 have i2l:i2<S:=by have q:=ltN ei2;rw [hSd] at q;exact q
 -- the list is emptied, then filled
 show wpAny _ _ (do let old <- Builtin.List.listItems (.ref S);Builtin.List.listUpdate (.ref S) (fun _=>#[]);letGo old.toList.reverse;Builtin.List.listExtendWith (.ref S) (.ref z) .none) _ _ _;refine Ya ?_;unfold Builtin.List.listItems;refine Ya (yM hS rfl (Yi ?_));show wpAny _ _ (updateSeq S (fun _=>#[]) >>= fun _=>letGo (#[]:Array Value).toList.reverse >>= fun _=>Builtin.List.listExtendWith (.ref S) (.ref z) .none) _ _ _;refine Ya (yg hS rfl ?_);have hS2:=YT (Obj.mapSeq (fun _=>(#[]:Array Value))) hS rfl;refine Ya (kz ?_);have sb1:Heap.SameBut S G (G.update S ‹"az"›):=Heap.SameBut.update ..
 generalize G.update S ‹"az"›=G1 at hS2 sb1 ⊢;have up1:∀b o,s.heap.get? b=some o->G1.get? b=some o:=fun b o e=>sb1.extBut b o (nS b o e) (up b o e);unfold Builtin.List.listExtendWith;refine Ya (wpAny_typeOf (T := "zip") ⟨_,up1 _ _ hz,rfl⟩ ?_);have hsr:Builtin.List.listSameRef (.ref S) (.ref z)=false:=by simp [Builtin.List.listSameRef,Ne.symm zS]
 have t1:(Value.type "zip" == Value.type "list")=false:=by decide
 have t2:(Value.type "zip" == Value.type "tuple")=false:=by decide
 simp only [hsr,t1,t2,Bool.or_false,Y2,yL];refine Ya (wpAny_pyIter_zip (up1 _ _ hz) ?_);refine Ya (Y4 (jkH (up1 _ _ hz) ?_));simp only [Bool.true_or,Kl];refine Ya (ky ?_);refine Ya ?_;show wpAny _ _ (updateSeq S (·.push .none) >>= fun _=>updateSeq S (·.pop)) _ _ _;refine Ya (yg hS2 rfl ?_);have hS3:=YT (Obj.mapSeq (·.push Value.none)) hS2 rfl;have sb2:Heap.SameBut S G1 (G1.update S (Obj.mapSeq (·.push Value.none))):=Heap.SameBut.update ..
 generalize G1.update S (Obj.mapSeq (·.push Value.none))=G2 at hS3 sb2 ⊢;refine yg (hz:=by seq_fits) hS3 rfl ?_;have hS4:=YT (Obj.mapSeq (·.pop)) hS3 rfl;have sb3:Heap.SameBut S G2 (G2.update S (Obj.mapSeq (·.pop))):=Heap.SameBut.update ..
 generalize G2.update S (Obj.mapSeq (·.pop))=G3 at hS4 sb3 ⊢;have up3:∀b o,s.heap.get? b=some o->G3.get? b=some o:=fun b o e=>sb3.extBut b o (nS b o e) (sb2.extBut b o (nS b o e) (up1 b o e));refine Yi ⟨yt kJ _,?_⟩;refine jbL (fun n tI s'=>∃(i c:Nat) (h:Heap),s'={ s with heap:=h } ∧ n=xs.size+1-i ∧ i ≤ xs.size ∧ i ≤ ys.size ∧ ZipMade h₀ h S z TO i1 i2 xs ys tI i ∧ h.get? S=some { cls:=.type "list",data:=.seq tI c } ∧ IsPair h TI (.ref i1) (.ref i2) ∧
  h.IsListIter i1 l1 i/\h.IsListIter i2 l2 i/\h₀.objs.size<=h.objs.size/\((IsZip h z TI TO .none/\∃a b,IsPair h TO a b)\/∃a f oa,JF h z TI TO a f/\h.get? a=some oa/\a≠z/\a≠i1/\a≠i2/\a≠S)) ?_ (xs.size+1) #[] _
  ⟨0,_,G3,rfl,by omega,yf _,yf _,⟨rfl,fun j hj=>absurd hj (kD _),fun b o e=>up3 b o (hk b o e)⟩,hS4,up3 _ _ hTI,h1.at fun o e=>up3 _ o e,h2.at fun o e=>up3 _ o e,
   by rw [sb3.1,sb2.1,sb1.1,<- hG,yi];omega,.inl ⟨up3 _ _ hz,_,_,up3 _ _ hTO⟩⟩
 rintro n tI s' ⟨i,c,h,rfl,rfl,hix,hiy,M,hSl,pTI,p1,p2,hsz,zs⟩;have hb0:∀{b:Addr} {o:Obj},h₀.get? b=some o->b≠z/\b≠TO/\b≠i1/\b≠i2/\b≠S:=fun {b o} e=>by have q:=ltN e;exact ⟨Yp (Yl q hge.1),Yp (Yl q hge.2.1),Yp (Yl q hge.2.2.1),Yp (Yl q hge.2.2.2),Yp (Yl q hle)⟩
 have hl1':h.IsList l1 xs:=hl1.at fun o e=>M.keep _ o e;have hl2':h.IsList l2 ys:=hl2.at fun o e=>M.keep _ o e;obtain ⟨ol1,el1,_⟩:=id hl1;obtain ⟨ol2,el2,_⟩:=id hl2;refine ⟨by rw [M.size];omega,?_⟩;have ltS:S<h.objs.size:=ltN hSl
 -- behind a pair
 have next:∀(h':Heap) (x y:Value) (a:Addr) (f:Bool) (oa:Obj),xs[i]?=some x->ys[i]?=some y->IsPair h' h.objs.size x y->h'.objs.size=h.objs.size+1->JF h' z TI TO a f->h'.get? a=some oa->a≠z->a≠i1->a≠i2->a≠S->
  h'.IsListIter i1 l1 (i+1)->h'.IsListIter i2 l2 (i+1)->(∀c o,c≠z->c≠TO->c≠i1->c≠i2->h.get? c=some o->h'.get? c=some o)->
  (∃c,h'.get? S=some { cls:=.type "list",data:=.seq tI c }) ∧
  ∀h'' c',h''.get? S=some { cls:=.type "list",data:=.seq (tI.push (.ref h.objs.size)) c' } → Heap.SameBut S h' h'' → ∃m,m<xs.size+1-i ∧ ∃(i' c:Nat) (g:Heap),({ s with heap:=h'' }:Shared)={ s with heap:=g } ∧ m=xs.size+1-i' ∧ i' ≤ xs.size ∧ i' ≤ ys.size ∧ ZipMade h₀ g S z TO i1 i2 xs ys (tI.push (.ref h.objs.size)) i' ∧
    g.get? S=some { cls:=.type "list",data:=.seq (tI.push (.ref h.objs.size)) c } ∧ IsPair g TI (.ref i1) (.ref i2) ∧ g.IsListIter i1 l1 i' ∧ g.IsListIter i2 l2 i' ∧ h₀.objs.size ≤ g.objs.size ∧
    ((IsZip g z TI TO .none/\∃a b,IsPair g TO a b)\/∃a f oa,JF g z TI TO a f/\g.get? a=some oa/\a≠z/\a≠i1/\a≠i2/\a≠S):=by
  intro h' x y a f oa hx hy pT hs' zh ea az a1 a2 aS q1 q2 kk;have hxl:i<xs.size:=by
   rcases yh i xs.size with q | q
   . exact q
   . rw [yq q] at hx;cases hx
  have hyl:i<ys.size:=by
   rcases yh i ys.size with q | q
   . exact q
   . rw [yq q] at hy;cases hy
  have TS:h.objs.size≠S:=ym ltS;refine ⟨⟨c,kk _ _ (Ne.symm zS) (Ne.symm TOS) (Ne.symm i1S) (Ne.symm i2S) hSl⟩,fun h'' c' eS sb=>⟨xs.size+1-(i+1),by omega,i+1,c',h'',rfl,rfl,hxl,hyl,⟨by rw [Array.size_push,M.size],fun j hj=>?_,fun b o e=>?_⟩,eS,sb.extBut _ _ TIS (kk _ _ D.TIz D.TITO D.TIi1 D.TIi2 pTI),q1.extBut sb.extBut i1S,q2.extBut sb.extBut i2S,by rw [sb.1];omega,
   .inr ⟨a,f,oa,sb.extBut _ _ zS zh,sb.extBut _ _ aS ea,az,a1,a2,aS⟩⟩⟩
  . rcases yh j i with q | q
    . obtain ⟨T',x',y',e1,e2,e3,e4,e5,e6,e8,e7⟩:=M.pair j q;have hT':=ltN e4;refine ⟨T',x',y',by rw [KN,if_neg (by rw [M.size];omega)];exact e1,e2,e3,?_,e5,e6,e8,fun k hk'=>by rw [KN,if_neg (by rw [M.size];omega)];exact e7 k hk'⟩;obtain ⟨t1',t2',t3',t4'⟩:=e8;exact sb.extBut _ _ e6 (kk _ _ t1' t2' t3' t4' e4)
    . have e:j=i:=by omega
      subst e;refine ⟨h.objs.size,x,y,by rw [KN,if_pos M.size.symm],hx,hy,sb.extBut _ _ TS pT,hsz,TS,⟨ym (yH zl ltS),ym (yH TOl ltS),ym (yH i1l ltS),ym (yH i2l ltS)⟩,fun k hk'=>?_⟩;obtain ⟨T',x',y',e1,e2,e3,e4,e5,e6,e8,e7⟩:=M.pair k hk';have hT':=ltN e4;rw [KN,if_neg (by rw [M.size];omega),e1];intro z';have:T'=h.objs.size:=by injection z' with z';injection z'
      exact absurd this (Yp hT')
  . obtain ⟨b1,b2,b3,b4,b5⟩:=hb0 e;exact sb.extBut _ _ b5 (kk _ _ b1 b2 b3 b4 (M.keep b o e))
 have none_of:¬(i<xs.size/\i<ys.size)->(xs[i]?=none\/ys[i]?=none)/\i=min xs.size ys.size:=fun q=>by
  refine ⟨?_,by omega⟩;rcases yh i xs.size with q1 | q1
  . exact .inr (yq (by omega))
  . exact .inl (yq q1)
 by_cases hij:i<xs.size/\i<ys.size
 . have hx:=YE hij.1;have hy:=YE hij.2;rcases zs with ⟨zf,ta',tb',pTO⟩ | ⟨a,f,oa,zh,ea,az,a1,a2,aS⟩
   . refine wpAny_pyNext_zip_item D zf pTI pTO p1 p2 hl1' hl2' hx hy fun h' r1 r2 r3 r4 r5 r6 r7=>?_;exact next h' _ _ _ false _ hx hy r5 r6 r1 r5 (ym (yH zl ltS)) (ym (yH i1l ltS)) (ym (yH i2l ltS)) (ym ltS) r3 r4 r7
   . refine jdg D zh ea pTI p1 p2 hl1' hl2' hx hy fun h' r1 r3 r4 r5 r6 r7=>?_;exact next h' _ _ a true oa hx hy r5 r6 r1 (r7 _ _ az a1 a2 ea) az a1 a2 aS r3 r4 fun c o c1 _ c3 c4 e=>r7 c o c1 c3 c4 e
 . obtain ⟨he,hm⟩:=none_of hij;have fin:∀h':Heap,(∀c o,c≠z->c≠TO->c≠i1->c≠i2->h.get? c=some o->h'.get? c=some o)->wants (fun r s₂=>r=Value.none/\Q (.ref S) s₂) E (.ok (.ret .none)) { s with heap:=h' }:=fun h' kk=>by
    refine ⟨rfl,hQ S h' tI c hle (kk _ _ (Ne.symm zS) (Ne.symm TOS) (Ne.symm i1S) (Ne.symm i2S) hSl) ⟨by rw [M.size,hm],fun j hj=>?_,fun b o e=>?_⟩⟩
    . obtain ⟨T',x',y',e1,e2,e3,e4,e5,e6,e8,e7⟩:=M.pair j (by omega);exact ⟨T',x',y',e1,e2,e3,kk _ _ e8.1 e8.2.1 e8.2.2.1 e8.2.2.2 e4,e5,e6,e8,e7⟩
    . obtain ⟨b1,b2,b3,b4,b5⟩:=hb0 e;exact kk _ _ b1 b2 b3 b4 (M.keep b o e)
   rcases zs with ⟨zf,ta',tb',pTO⟩ | ⟨a,f,oa,zh,ea,az,a1,a2,aS⟩
   . exact wpAny_pyNext_zip_end hh D zf pTI pTO p1 p2 hl1' hl2' he fun h' kk=>fin h' kk
   . exact jeO hh D zh ea pTI p1 p2 hl1' hl2' he fun h' kk=>fin h' fun c o c1 _ c3 c4 e=>kk c o c1 c3 c4 e
end
end L2
namespace L2S
open PySem PySem.Spec PyProof.Rows
def jaQ (t:SetTable) (j:Nat):Prop:=t.place[SetTable.below t.place j]?≠some j
theorem jcx {t:SetTable} {j:Nat} (h:∀i,t.slot j≠.live i):jaQ t j:=by intro q;refine h (SetTable.below t.place j) ?_;unfold SetTable.slot;simp [q]
theorem jaj {t:SetTable} {f:Nat->Int} {h:Int}:∀(fuel:Nat) (p:SetTable.Probe) (j:Nat) (d:Option Nat),(∀x,p.dummy=some x->jaQ t x)->SetTable.probe.go t f h fuel p=some (.empty j d)->jaQ t j/\∀x,d=some x->jaQ t x
 | 0,p,j,d,_,e=>by unfold SetTable.probe.go at e;cases e
 | fuel+1,p,j,d,hp,e=>by
   unfold SetTable.probe.go at e;have adv:∀q:SetTable.Probe,(t.advance q).dummy=q.dummy:=fun q=>by unfold SetTable.advance;split <;> rfl
   cases hs:t.slot p.j with
   | empty=>rw [hs] at e;have e':=Option.some.inj e;injection e' with e1 e2;subst e1 e2;exact ⟨jcx (fun i z=>by rw [hs] at z;cases z),hp⟩
   | dummy=>rw [hs] at e;refine jaj fuel _ j d (fun x hx=>?_) e;rw [adv] at hx;have hx':p.j=x:=Option.some.inj hx;subst hx';exact jcx fun i z=>by rw [hs] at z;cases z
   | live i=>
     rw [hs] at e;dsimp only at e;split at e
     . cases e
     . exact jaj fuel _ j d (fun x hx=>by rw [adv] at hx;exact hp x hx) e
theorem jfT {t:SetTable} {h:Int} {j:Nat} {b:Bool} (e:t.freeSlot h=some (j,b)):jaQ t j:=by
 unfold SetTable.freeSlot at e;split at e
 . rename_i j' d hp;have q:=jaj _ _ _ _ (fun x hx=>by cases hx) hp;have e':=congrArg Prod.fst (Option.some.inj e);dsimp only at e';subst e';cases d with
   | none=>exact q.1
   | some x=>exact q.2 x rfl
 . cases e
theorem jgT {t:SetTable} (es:Array (Int×Value)) (h:Int) (x:Value) (R:Ris t.place):Ris (layNew t es h x).2.1.place/\(layNew t es h x).2.1.led=t.led:=by
 unfold layNew;split
 . rename_i j wd e;dsimp only;unfold SetTable.orStandIn;split
   . exact ⟨jhi R (jfT e),rfl⟩
   . exact ⟨ZZ _,rfl⟩
 . exact ⟨ZZ _,rfl⟩
theorem jeh {t:SetTable} (es:Array (Int×Value)) (n:Nat):Ris (relayAll t es n).2.1.place/\(relayAll t es n).2.1.led=t.led:=by
 unfold relayAll;split
 . rename_i t' o e;dsimp only;split
   . have q:=jlT e;exact ⟨q.1,q.2.1⟩
   . exact ⟨ZZ _,rfl⟩
 . exact ⟨ZZ _,rfl⟩
theorem jai {α:Type}:∀{l:List α} {i:Nat} (h:i<l.length),(l[i]::l.eraseIdx i).Perm l
 | a::l,0,_=>.rfl
 | a::l,i+1,h=>by have ih:=jai (l:=l) (i:=i) (by simpa using h);rw [List.eraseIdx_cons_succ,List.getElem_cons_succ];exact (List.Perm.swap _ _ _).trans (ih.cons a)
theorem jhF {α:Type} (next:Nat->Nat):∀(fuel k:Nat) (left:List α) (out:Array α),left.length<=fuel->(pickOrder.go next fuel k left out).toList.Perm (out.toList++left)
 | 0,k,left,out,h=>by have:left=[]:=List.length_eq_zero_iff.mp (by omega);subst this;unfold pickOrder.go;simp
 | fuel+1,k,left,out,h=>by
   unfold pickOrder.go;cases left with
   | nil=>simp
   | cons a l=>
     have hlt:next k%(a::l).length<(a::l).length:=Nat.mod_lt _ (by simp)
     rw [Yb hlt];dsimp only;refine (jhF next fuel (k+1) _ _ ?_).trans ?_
     . rw [List.length_eraseIdx_of_lt hlt];simp at h ⊢;omega
     . rw [Array.toList_push,yR];refine List.Perm.append_left _ ?_;exact (jai hlt)
theorem jiZ {α:Type} (next:Nat->Nat) (xs:Array α):(pickOrder next xs).toList.Perm xs.toList:=by
 have:=jhF next xs.size 0 xs.toList #[] (by simp)
 simpa [pickOrder] using this
section
variable {prog:Program} {w:World} {A:Around} {E:Value->Shared->Prop} {s:Shared}
theorem ji2 {src:Source} {n:Nat} {Q:Nat->Shared->Prop} (hn:n≠0) (h:∀i d,i<n->Q i { s with drawn:=d }):wpAny (model prog w) A (choose src n) Q E s:=fun _ _ _=>⟨hn,h _ _ (Nat.mod_lt _ (Nat.pos_of_ne_zero hn))⟩
theorem jia {α:Type}:∀(n:Nat) (xs:List α) (s:Shared) {Q:List α->Shared->Prop},n=xs.length->(∀ys d,ys.Perm xs->Q ys { s with drawn:=d })->wpAny (model prog w) A (drawOrder n xs) Q E s
 | 0,xs,s,Q,hn,h=>by have:xs=[]:=List.length_eq_zero_iff.mp hn.symm;subst this;unfold drawOrder;exact Yi (h [] s.drawn .rfl)
 | n+1,[],s,Q,hn,h=>by simp at hn
 | n+1,x::xs,s,Q,hn,h=>by unfold drawOrder;refine Ya (ji2 (by simp) fun i d hi=>?_);rw [Yb hi];dsimp only;refine Ya (jia n ((x::xs).eraseIdx i) _ (by rw [List.length_eraseIdx_of_lt hi];omega) fun ys d' hp=>Yi ?_);exact h _ d' (((List.Perm.cons _ hp)).trans (jai hi))
def je3:Value->Int
 | .int k _=>k
 | _=>0
def Z3 (prog:Program) (w:World) (h:Heap) (a:Addr) (ns:List Int):Prop:=
 ∃o es ep t,h.get? a=some o/\o.ExactSet/\o.data=.set es ep t/\ElemsOf ‹"Z"› es.toList/\(∀k,k∈ns ↔ ∃e∈es.toList,‹"Z"›.is k e.2=true)/\t.fits es.size=true/\es.size<=ns.length /\
   (es.toList.map fun e=>je3 e.2).Nodup ∧ Ris t.place ∧ (w.params.followText "set-order"=false → t.led=true)
theorem jaJ {es:List (Int×Value)} (h:ElemsOf ‹"Z"› es) {e:Int×Value} (he:e∈es):∃k t,e.2=.int k t:=by obtain ⟨⟨k,hk,_⟩,_⟩:=h e he;obtain ⟨t,q⟩:=Value.isInt_shape (k:=k) (v:=e.2) hk;exact ⟨k,t,q⟩
theorem is_int {k j:Int} {t:Tok}:‹"Z"›.is k (.int j t)=true ↔ k=j:=by
 constructor
 . intro h;obtain ⟨t',e⟩:=Value.isInt_shape (k:=k) (v:=.int j t) h;injection e with e1 _;exact e1.symm
 . rintro rfl;exact intKind_is _ _ _ _
theorem jik {b:Bool} {Q:Unit → Shared → Prop} (h:Q () s):wpAny (model prog w) A (match b with | true=>rule "set.scan.the-table-gave-way" | false=>pure ()) Q E s:=by
 cases b
 . exact Yi h
 . exact ky h
theorem stored {a:Addr} {o:Obj} {es es':Array (Int×Value)} {ep:Nat} {t t':SetTable} {ns:List Int} {h:Heap} (ho:h.get? a=some o) (hex:o.ExactSet) (hd:o.data=.set es ep t) (h1:ElemsOf ‹"Z"› es'.toList)
 (h2:∀k,k∈ns ↔ ∃e∈es'.toList,‹"Z"›.is k e.2=true) (h3:t'.fits es'.size=true) (h4:es'.size ≤ ns.length) (h5:(es'.toList.map fun e=>je3 e.2).Nodup) (h6:Ris t'.place) (h7:w.params.followText "set-order"=false → t'.led=true) :
 (h.update a (Obj.putSet es' t')).get? a=some { o with data:=.set es' (ep+1) t' }/\Z3 prog w (h.update a (Obj.putSet es' t')) a ns:=by
 have e:(h.update a (Obj.putSet es' t')).get? a=some { o with data:=.set es' (ep+1) t' }:=by
  have q:=YT (Obj.putSet es' t') ho (by rw [putSet_of es' t' hd];rfl)
  rwa [putSet_of es' t' hd] at q
 exact ⟨e,_,es',ep+1,t',e,hex,rfl,h1,h2,h3,h4,h5,h6,h7⟩
theorem jq9 {a:Addr} {ns:List Int} {k:Int} {tk:Tok} {Q:Bool->Shared->Prop} (hS:Z3 prog w s.heap a ns) (hroom:ns.length+1<scanBound)
 (h:∀h' b,Heap.SameBut a s.heap h'->Z3 prog w h' a (ns++[k])->Q b { s with heap:=h' }):wpAny (model prog w) A (setAddHashed a (.int k tk) (‹"Z"›.hash k)) Q E s:=by
 obtain ⟨o,es,ep,t,ho,hex,hd,hel,hmem,hf,hle,hnd,hris,hled⟩:=hS;have hb:es.size<scanBound:=by omega
 have hkey:‹"Z"›.is k (.int k tk)=true:=intKind_is _ _ _ _;have hsc:(Value.int k tk).scannable=true:=rfl;unfold setAddHashed setAddHashedIn;refine Y4 (Ya (yj ho hd hf ?_));dsimp only;rw [byScan_of hsc hb hel,if_pos rfl];unfold setAddByScan;refine Ya (Ya (ky (Ya (wpAny_setScan_of hkey ho hd hf hel ?_))));cases hr:List.findIdx? (fun e=>‹"Z"›.is k e.2) es.toList with
 | some j=>
   dsimp only;obtain ⟨hj,hpj,_⟩:=List.findIdx?_eq_some_iff_getElem.mp hr;have hk:k∈ns:=(hmem k).mpr ⟨es.toList[j],KG hj,hpj⟩;refine Yi (Yi ?_);have:=h s.heap false (Heap.SameBut.refl a s.heap) ⟨o,es,ep,t,ho,hex,hd,hel,fun k'=>by rw [YQ,Yn,<- hmem k'];exact ⟨fun z=>z.elim id fun e=>e ▸ hk,.inl⟩,hf,by rw [YG];omega,hnd,hris,hled⟩
   exact this
 | none=>
   dsimp only;have hno:∀e∈es.toList,‹"Z"›.is k e.2=false:=fun e he=>by have:=List.findIdx?_eq_none_iff.mp hr e he;simpa using this
   have hp:=layNew_perm t es (‹"Z"›.hash k) (.int k tk);have hfits:=layNew_fits t es (‹"Z"›.hash k) (.int k tk);have hR:=jgT es (‹"Z"›.hash k) (.int k tk) hris;generalize layNew t es (‹"Z"›.hash k) (.int k tk)=L at hp hfits hR ⊢;obtain ⟨es1,t1,wd,gave⟩:=L;dsimp only at hp hfits hR ⊢;rw [Array.toList_push] at hp;have hel1:ElemsOf ‹"Z"› es1.toList:=(hel.push hkey hsc).perm hp;have hmem1:∀k',k'∈ns++[k] ↔ ∃e∈es1.toList,‹"Z"›.is k' e.2=true:=fun k'=>by
    rw [YQ,Yn,hmem k'];constructor
    . rintro (⟨e,he,q⟩ | rfl)
      . exact ⟨e,hp.mem_iff.mpr (Yt _ he),q⟩
      . exact ⟨_,hp.mem_iff.mpr (YF _ (Yn.mpr rfl)),hkey⟩
    . rintro ⟨e,he,q⟩;rcases YQ.mp (hp.mem_iff.mp he) with he | he
      . exact .inl ⟨e,he,q⟩
      . rw [Yn] at he;subst he;exact .inr (is_int.mp q)
   have hsz1:es1.size=es.size+1:=by rw [<-YJ,hp.length_eq,YG,YJ];rfl
   have hnd1:(es1.toList.map fun e=>je3 e.2).Nodup:=by refine ((hp.map _).nodup_iff).mpr ?_;rw [Y7,K6];refine ⟨hnd,by simp,fun x hx y hy=>?_⟩;rw [List.map_singleton,Yn] at hy;rw [hy];obtain ⟨e,he,rfl⟩:=YX.mp hx;obtain ⟨j,tj,q⟩:=jaJ hel he;have:=hno e he;rw [q] at this ⊢;intro z;have z':j=k:=z;rw [z',intKind_is] at this;cases this
   refine Ya (jik ?_);have tail:∀t2:SetTable,t2.fits es1.size=true->Ris t2.place->t2.led=t.led->wpAny (model prog w) A (do
       storeSet a es1 t2
       if (!wd && t2.tooFull)=true then do
           (match (relayAll t2 es1 ‹"af"›).2.2 with | true=>rule "set.scan.the-table-gave-way" | false=>pure ())
           storeSet a (relayAll t2 es1 ‹"af"›).1 (relayAll t2 es1 ‹"af"›).2.1
           pure (some true)
        else pure (some true)) (fun (x:Option Bool) s'=>∃h',x=some true/\s'={ s with heap:=h' }/\Heap.SameBut a s.heap h'/\Z3 prog w h' a (ns++[k])) E s:=by
    intro t2 hf2 hr2 hl2;have hz1:es1.size<scanBound:=by omega
    refine Ya (wpAny_storeSet_of ho hd ?_ (fits_of_scanBound hz1));obtain ⟨ho1,hS1⟩:=stored (prog:=prog) (w:=w) (ns:=ns++[k]) ho hex hd hel1 hmem1 hf2 (by rw [YG,hsz1];simp;omega) hnd1 hr2 (fun q=>hl2.trans (hled q));have sb:=Heap.SameBut.update s.heap a (Obj.putSet es1 t2);split
    . have hp2:=relayAll_perm t2 es1 ‹"af"›;have hf3:=relayAll_fits t2 es1 ‹"af"›;have hR2:=jeh (t:=t2) es1 ‹"af"›;generalize relayAll t2 es1 ‹"af"›=L2 at hp2 hf3 hR2 ⊢;obtain ⟨es2,t3,g2⟩:=L2;dsimp only at hp2 hf3 hR2 ⊢;have hsz2:es2.size=es1.size:=by rw [<-YJ,hp2.length_eq,YJ]
      refine Ya (jik ?_);refine Ya (wpAny_storeSet_of ho1 rfl ?_ (fits_of_scanBound (by rw [hsz2];exact hz1)));obtain ⟨_,hS2⟩:=stored (prog:=prog) (w:=w) (ns:=ns++[k]) ho1 hex rfl (hel1.perm hp2) (fun k'=>(hmem1 k').trans ⟨fun ⟨e,he,q⟩=>⟨e,hp2.mem_iff.mpr he,q⟩,fun ⟨e,he,q⟩=>⟨e,hp2.mem_iff.mp he,q⟩⟩) hf3
       (by rw [YG,hsz2,hsz1];simp;omega) (((hp2.map _).nodup_iff).mpr hnd1) hR2.1 (fun q=>(hR2.2.trans hl2).trans (hled q))
      exact Yi ⟨_,rfl,rfl,sb.trans (Heap.SameBut.update _ a _),hS2⟩
    . exact Yi ⟨_,rfl,rfl,sb,hS1⟩
   have fin:∀(x:Option Bool) (s':Shared),(∃h',x=some true/\s'={ s with heap:=h' }/\Heap.SameBut a s.heap h'/\Z3 prog w h' a (ns++[k]))->
       wpAny (model prog w) A (match x with | some added=>pure added | none=>setAddHashedIn a (.int k tk) (‹"Z"›.hash k) 99999) Q E s':=by
    rintro _ _ ⟨h',rfl,rfl,sb,hS'⟩;exact Yi (h h' true sb hS')
   split
   . rw [hashByValue_scannable 8 hsc];refine Ya (Yi ?_);exact yk (tail t1 hfits hR.1 hR.2) fin fun _ _ q=>q
   . refine Ya (Yi ?_);exact yk (tail t1 hfits hR.1 hR.2) fin fun _ _ q=>q
theorem jdf {R:Result->Shared->Prop} {S l I:Addr} {items:Array Value} {ns:List Int} (hh:A.handled=none) (hi:IntsAre items.toList ns) (hlI:l≠I) (hSl:S≠l) (hSI:S≠I) (hb:ns.length+1<scanBound) :
 ∀(k i:Nat) (s:Shared),ns.length-i=k->i<=ns.length->s.heap.IsListIter I l i->s.heap.IsList l items->Z3 prog w s.heap S (ns.take i)->
   (∀h' tk,(∀b o,b≠S->b≠I->s.heap.get? b=some o->h'.get? b=some o)->Z3 prog w h' S ns->R (.ok (.ret .none)) { s with heap:=h',toks:=tk })->
   codeAny (model prog w) A (.builtin "set.update.loop" ⟨[.ref S,.ref I],[]⟩) R s:=by
 have tL:items.size=ns.length:=by have:=hi.length;simpa using this
 have moveS:∀{h h':Heap} {m:List Int},Z3 prog w h S m->(∀o,h.get? S=some o->h'.get? S=some o)->Z3 prog w h' S m:=by rintro h h' m ⟨o,es,ep,t,ho,r⟩ hk;exact ⟨o,es,ep,t,hk o ho,r⟩
 intro k;induction k with
 | zero=>
   intro i s hk hi' st hl hS hR;have e:i=ns.length:=by omega
   subst e;refine yy KB ?_;rw [ye yO _];show wpAny _ A.in1 (pyNext (.ref I) >>= _) _ _ s;refine Ya (wpAny_pyNext_list_end hh st hl (yq (by omega)) fun h' he=>?_);show wpAny _ A.in1 (ret Value.none) _ _ _;refine Yi (hR h' s.toks (fun b o _ b2 q=>he b o b2 q) (moveS (by rw [List.take_length] at hS;exact hS) fun o q=>he S o hSI q))
 | succ k ih=>
   intro i s hk hi' st hl hS hR;have hlt:i<ns.length:=by omega
   have hlt':i<items.size:=by omega
   obtain ⟨tk,hv⟩:=IntsAre.int_at hi i items[i] (by rw [Y8];exact YE hlt');refine yy KB ?_;rw [ye yO _];show wpAny _ A.in1 (pyNext (.ref I) >>= _) _ _ s;refine Ya (wpAny_pyNext_list_item st hl (x:=items[i]) (YE hlt') fun h1 st1 sb1=>?_);rw [hv];generalize hval:ns.getD i 0=v;show wpAny _ A.in1 (holding [Value.int v tk] (setAdd S (.int v tk)) >>= _) _ _ _;refine Ya (Y4 ?_);unfold setAdd;refine Y4 (Ya (‹"Z"›.pyHash (k:=v) (intKind_is _ _ _ _) ?_));have hS1:Z3 prog w h1 S (ns.take i):=moveS hS fun o q=>sb1.extBut S o hSI q;refine jq9 (s:={ s with heap:=h1,toks:=s.toks+1 }) hS1 (by rw [Kt];omega) fun h2 b sb2 hS2=>?_;have e2:ns.take i++[v]=ns.take (i+1):=by rw [List.take_succ,Yb hlt,<- hval,Yc,Yb hlt];rfl
   rw [e2] at hS2;refine Yi ⟨yt yO _,ih (i+1) _ (by omega) hlt (st1.extBut sb2.extBut (Ne.symm hSI)) ((hl.extBut sb1.extBut hlI).extBut sb2.extBut (Ne.symm hSl)) hS2 fun h' tk' kk hS'=>?_⟩;exact hR h' tk' (fun b o b1 b2 q=>kk b o b1 b2 (sb2.extBut b o b1 (sb1.extBut b o b2 q))) hS'
theorem ji5 (a:Value) {Q₁:Value->Shared->Prop}
 (h:∀led:Bool,led=!w.params.followText "set-order" → Q₁ (.ref s.heap.objs.size) { s with heap:=s.heap.push { cls:=.type "set",dict:=none,data:=.set #[] 0 (.fresh 0 0 led) } }) :
 codeAny (model prog w) A (.call (.builtin "set.__new__") ⟨[.type "set",a],[]⟩) (wants Q₁ E) s:=by
 refine codeAny_of_tree ?_;show wpAny _ A.in1 (do checkBuiltinCall "set.__new__" ⟨[.type "set",a],[]⟩;again (.builtin "set.__new__" ⟨[.type "set",a],[]⟩)) _ _ s;refine Ya (wpAny_of_eq (PySem.F.newCall_set_1 a) (Yi ⟨yt PySem.F.plain_set_new _,yy PySem.F.entry_set_new ?_⟩));rw [ye PySem.F.plain_set_new _];unfold Builtin.«set.__new__» Builtin.Frozenset.newClass;have hsub:=sub_set_self;obtain ⟨hp,g,d,tk,os⟩:=s;dsimp only
 wp_walk
 refine kd (Yi ?_);dsimp only;simp only [newObj];refine Ya (wpAny_alloc (Yi ?_));exact Yi (h _ rfl)
set_option maxHeartbeats 4000000 in
theorem jhA {l:Addr} {items:Array Value} {ns:List Int} {Q:Value->Shared->Prop} (hh:A.handled=none) (hl:s.heap.IsList l items) (hi:IntsAre items.toList ns) (hb:ns.length+1<scanBound)
 (h:∀(h':Heap) (tk:Nat),Z3 prog w h' s.heap.objs.size ns->‹"2"›->Q (.ref s.heap.objs.size) { s with heap:=h',toks:=tk }) :
 wpAny (model prog w) A (call (.type "set") [.ref l]) Q E s:=by
 obtain ⟨c,tl,hmro⟩:=PySem.F.called_set.mro;have hmade:=PySem.F.called_set.made;have hsub:=PySem.F.called_set.sub;refine wpAny_call (codeAny_of_tree ?_);show wpAny _ _ (callAny (.type "set") _) _ _ _;refine Yi ⟨Code.quiet_builtin _ ‹"al"›,yy PySem.F.entry_type_call ?_⟩;rw [Around.under_plain (weight_type_call_type "set" [.ref l] []) rfl];have h1:=PySem.F.called_set.notType;have h2:=PySem.F.called_set.canCreate;have hct:=PySem.F.typeCall_set_1 (.ref l)
 repeat (any_goals (first | assumption | wp_step))
 refine kM (ji5 (.ref l) (E:=E) (Q₁:=fun obj s₁=>∃led:Bool,led=(!w.params.followText "set-order") ∧ obj=.ref s.heap.objs.size ∧ s₁={ s with heap:=s.heap.push { cls:=.type "set",dict:=none,data:=.set #[] 0 (.fresh 0 0 led) } }) fun led e=>⟨led,e,rfl,rfl⟩) fun r s₁ hr=>?_;cases r with
 | error e=>exact hr
 | ok fl=>
   cases fl with
   | ret obj=>
     obtain ⟨led,hled,rfl,rfl⟩:=hr;generalize hSd:s.heap.objs.size=S at *
     have hS:‹"P"›.get? S=some { cls:=.type "set",dict:=none,data:=.set #[] 0 (.fresh 0 0 led) }:=by rw [← hSd];exact Ys _ rfl
     have hGs:‹"P"›.objs.size=S+1:=by rw [← hSd,yi]
     have up:∀b o,s.heap.get? b=some o → ‹"P"›.get? b=some o:=fun b o e=>Yg _ e;generalize s.heap.push { cls:=.type "set",dict:=none,data:=.set #[] 0 (.fresh 0 0 led) }=G at *
     have hT:Shared.TypeIs { s with heap:=G } (.ref S) "set":=⟨_,hS,rfl⟩;have hli:=PySem.F.called_set.init.lookup;have hbi:=PySem.F.called_set.init.bind (.ref S)
     repeat (any_goals (first | assumption | wp_step))
     refine kM (codeAny_call_builtin (R:=wants (fun r s₂=>r=.none/\∃h' tk,s₂={ s with heap:=h',toks:=tk }/\Z3 prog w h' S ns/\(∀b o,s.heap.get? b=some o->h'.get? b=some o)) E) PySem.F.called_set.init.plain PySem.F.entry_set_init (check_set_init_1 hT ?_)) fun r₂ s₂ hr₂=>?_
     . obtain ⟨ol,hol,hcl,nl,hdl⟩:=hl;obtain ⟨ocls,odict,odata,oslots⟩:=ol;simp only at hcl hdl;subst hcl;subst hdl;have hol':=up _ _ hol;have hsls:=PySem.F.sub_list_set;have hslf:=PySem.F.sub_list_frozenset;have hne:(Value.type "list" == Value.type "dict")=false:=by decide
       have hl1:G.IsList l items:=⟨_,hol',rfl,nl,rfl⟩;unfold Builtin.«set.__init__» noKeywords Builtin.Frozenset.updateFrom;generalize hPI:pyIter=PI
       wp_walk
       subst hPI;refine wpAny_pyIter_list hl1 ?_;refine Ya (wpAny_runValue ?_);have hlS:@LT.lt Nat instLTNat l S:=by have q:=L2.ltN hol;rwa [hSd] at q
       have hh3:A.in1.in1.in1.handled=none:=by simp [hh]
       refine jdf (A:=A.in1.in1) (S:=S) (l:=l) (items:=items) (ns:=ns) hh3 hi (I:=G.objs.size) ?_ (ym hlS) ?_ hb (ns.length-0) 0 _ rfl (yf _) ⟨_,Ys _ rfl,rfl,rfl⟩ (hl1.push _) ?_ ?_
       . rw [hGs];exact Yp (yE hlS)
       . rw [hGs];exact Yp (yK _)
       . refine ⟨_,#[],0,.fresh 0 0 led,Yg _ hS,⟨rfl,rfl,rfl⟩,rfl,fun e he=>by simp at he,fun k=>by simp,rfl,by simp,by simp,fun i j _ hj=>by simp [SetTable.fresh] at hj,fun q=>?_⟩;show led=true;rw [hled,q];rfl
       . intro h' tk kk hS';show wpAny _ _ _ _ _ _;refine Yi ?_;show wpAny _ _ (ret Value.none) _ _ _;refine Yi ⟨rfl,h',tk,rfl,hS',fun b o e=>kk b o ?_ ?_ (Yg _ (up b o e))⟩
         . have q:=L2.ltN e;rw [hSd] at q;exact Yp q
         . have q:=L2.ltN e;rw [hSd] at q;rw [hGs];exact Yp (yE q)
     . cases r₂ with
       | error e=>exact hr₂
       | ok fl₂=>
         cases fl₂ with
         | ret r=>
           obtain ⟨rfl,h',tk,rfl,hS',hk'⟩:=hr₂
           repeat (any_goals (first | assumption | wp_step))
           exact h _ _ hS' hk'
         | _=>exact hr₂.elim
   | _=>exact hr.elim
end
end L2S
namespace L2S
open PySem PySem.Spec PyProof.Rows
theorem slot_setit_next:Slot "set_iterator" "__next__" "set_iterator.__next__":=
 .of (owner := "set_iterator") (n:="__next__") (by rw [KU,Kd];kernel_rfl) ‹"al"› ‹"al"› ‹"al"›
  (by first | exact .inl ‹"al"› | exact .inr ‹"al"›) (by rw [isSubtype_type];kernel_rfl)
theorem Ql:entryFor table "set_iterator.__next__"=some Builtin.«set_iterator.__next__»:=entryFor_of_tree (by kernel_rfl)
theorem Q7 (a:Value):argsOk "set_iterator.__next__" ⟨[a],[]⟩:=by unfold argsOk;kernel_rfl
theorem jcY:entryFor table "set.__iter__"=some Builtin.«frozenset.__iter__»:=entryFor_alias (id' := "frozenset.__iter__") (by kernel_rfl) rfl ‹"al"› (by kernel_rfl)
abbrev SIt (h:Heap) (it:Addr) (first:Value) (i:Nat) (a:Addr) (n ep:Nat):Prop:=h.get? it=some { cls:=.type "set_iterator",dict:=none,data:=.fields #[first,rawInt i,.ref a,rawInt n,rawInt ep],slots:=#[] }
inductive Mode (w:World) (h:Heap) (a:Addr) (es:Array (Int×Value)) (ep:Nat) (t:SetTable):Value->Nat->List Value->Prop where
 | text {sl i:Nat} (hb:w.params.followText "set-order"=true):Mode w h a es ep t (rawInt sl) i ((pickOrder (w.params.setOrder a ep) es).toList.map (·.2))
 | plain {sl i:Nat} (hb:w.params.followText "set-order"=false) (hd:(!t.plain && decide (es.size>1))=false) (hs:SetTable.below t.place sl=i):Mode w h a es ep t (rawInt sl) i (es.toList.map (·.2))
 | drawn {T:Addr} {i:Nat} {pl:List Nat} (hb:w.params.followText "set-order"=false) (hT:h.get? T=some { cls:=.type "tuple",data:=.seq (pl.map fun (j:Nat)=>rawInt j).toArray }) (hp:pl.Perm (List.range es.size)) :
  Mode w h a es ep t (.ref T) i (pl.filterMap fun j=>(es[j]?).map (·.2))
theorem Mode.perm {w:World} {h:Heap} {a:Addr} {es:Array (Int×Value)} {ep:Nat} {t:SetTable} {f:Value} {i:Nat} {q:List Value} (M:Mode w h a es ep t f i q):q.Perm (es.toList.map (·.2)):=by
 cases M with
 | text hb=>exact (jiZ _ es).map _
 | plain hb hd hs=>exact .rfl
 | drawn hb hT hp=>refine (hp.filterMap _).trans ?_;have e:=filterMap_getElem?_range es;rw [<-e,List.map_filterMap]
theorem Mode.at {w:World} {h h':Heap} {a:Addr} {es:Array (Int×Value)} {ep:Nat} {t:SetTable} {f:Value} {i:Nat} {q:List Value} (M:Mode w h a es ep t f i q) (k:∀T o,f=.ref T->h.get? T=some o->h'.get? T=some o):Mode w h' a es ep t f i q:=by
 cases M with
 | text hb=>exact .text hb
 | plain hb hd hs=>exact .plain hb hd hs
 | drawn hb hT hp=>exact .drawn hb (k _ _ rfl hT) hp
theorem jf8 {es:Array (Int×Value)}:∀{pl:List Nat} {i j:Nat},(∀x∈pl,x<es.size)->pl[i]?=some j->(pl.filterMap fun j=>(es[j]?).map (·.2))[i]?=(es[j]?).map (·.2)
 | [],i,j,_,e=>by simp at e
 | a::l,i,j,h,e=>by
   have ha:a<es.size:=h a Ye;rw [Ks,YE ha];dsimp only [Option.map];cases i with
   | zero=>
     have:a=j:=by simpa using e
     subst this;rw [YE ha];rfl
   | succ i=>rw [Y5];exact jf8 (fun x hx=>h x (Yf _ hx)) (by simpa using e)
section
variable {prog:Program} {w:World} {A:Around} {E:Value->Shared->Prop} {s:Shared}
theorem Jc {Q:Bool → Shared → Prop} (h:Q (w.params.followText "set-order") s):wpAny (model prog w) A setsByText Q E s:=by unfold setsByText;exact Ya (kd (Yi h))
theorem jal {a:Addr} {o:Obj} {es:Array (Int×Value)} {ep:Nat} {t:SetTable} {Q:Array (Int×Value)->Shared->Prop} (ho:s.heap.get? a=some o) (hd:o.data=.set es ep t) (hf:t.fits es.size=true) (h:Q es s):wpAny (model prog w) A (setEntries a) Q E s:=by unfold setEntries;exact Ya (yj ho hd hf (Yi h))
structure SetL (w:World) (h:Heap) (a:Addr) (o:Obj) (es:Array (Int×Value)) (ep:Nat) (t:SetTable):Prop where
 ob:h.get? a=some o
 ex:o.ExactSet
 dt:o.data=.set es ep t
 fit:t.fits es.size=true
 ris:Ris t.place
 led:w.params.followText "set-order"=false → t.led=true
theorem SetL.psize {w:World} {h:Heap} {a:Addr} {o:Obj} {es:Array (Int×Value)} {ep:Nat} {t:SetTable} (L:SetL w h a o es ep t):t.place.size=es.size:=by have:=L.fit;simp only [SetTable.fits,KI,kR] at this;exact this.1
theorem jkU {it a:Addr} {o:Obj} {es:Array (Int×Value)} {ep:Nat} {t:SetTable} {f:Value} {i:Nat} {q:List Value} {v:Value} {Q:Option Value->Shared->Prop} (L:SetL w s.heap a o es ep t) (ha:a≠it) (hf:∀T,f=.ref T->T≠it)
 (hi:SIt s.heap it f i a es.size ep) (M:Mode w s.heap a es ep t f i q) (hx:q[i]?=some v)
 (hQ:∀h' f',SIt h' it f' (i+1) a es.size ep->Mode w h' a es ep t f' (i+1) q->(∀T,f'=.ref T->T≠it)->Heap.SameBut it s.heap h'->Q (some v) { s with heap:=h' }):wpAny (model prog w) A (pyNext (.ref it)) Q E s:=by
 have hT:s.TypeIs (.ref it) "set_iterator":=⟨_,hi,rfl⟩;unfold pyNext;refine Ya ‹"ac"›;show wpAny _ _ (fieldsOf (.ref it) >>= _) _ _ _;refine Ya (wpAny_fieldsOf hi rfl ?_);show wpAny _ _ (setEntries a >>= _) _ _ _;refine Ya (jal L.ob L.dt L.fit ?_);rw [if_neg (by simp)];dsimp only
 -- the two stores behind a place in the table or in the given order
 have two:∀(sl nx:Nat) (x:Value),SIt s.heap it (rawInt sl) i a es.size ep->x=v->(∀h',Mode w h' a es ep t (rawInt nx) (i+1) q)->wpAny (model prog w) A.in1 (do
       setField (.ref it) 0 (rawInt (nx:Int))
       setField (.ref it) 1 (rawInt ((i:Int)+1))
       ret x) (fun fin s'=>∃v,fin=.done (.ret v)/\wpAny (model prog w) A (pure (some v)) Q E s') (fun _ _=>False) s:=by
  intro sl nx x hi' hxv hm;refine Ya (yx hi' (by simp) fun h1 e1 s1=>?_);replace e1:SIt h1 it (rawInt nx) i a es.size ep:=e1;refine Ya (yx e1 (by simp) fun h2 e2 s2=>?_);have e3:SIt h2 it (rawInt nx) (i+1) a es.size ep:=by
   have c:((i+1:Nat):Int)=(i:Int)+1:=by omega
   unfold SIt;rw [c];exact e2
  refine Yi ⟨x,rfl,Yi ?_⟩;rw [hxv];exact hQ h2 _ e3 (hm h2) (fun T z=>nomatch z) (s1.trans s2)
 cases M with
 | @text sl _ hb=>
   show wpAny _ _ (setNext a (sl:Int).toNat (i:Int).toNat (ep:Int).toNat >>= _) _ _ _;rw [Yv,Yv,Yv];refine Ya ?_;unfold setNext;refine Ya (yj L.ob L.dt L.fit ?_);dsimp only;refine Ya (Jc ?_);rw [hb,if_pos rfl,if_neg (by simp)];refine Ya ?_;unfold setWalk;refine Ya (yj L.ob L.dt L.fit ?_);dsimp only;refine Ya (Jc ?_);rw [hb,if_pos rfl];refine Ya (kd (Yi (Yi ?_)));show wpAny _ _ (match ((pickOrder (w.params.setOrder a ep) es)[i]?).map fun e=>(e.2,sl) with | some (x,next)=>_ | none=>_) _ _ _;have hx':((pickOrder (w.params.setOrder a ep) es)[i]?).map (·.2)=some v:=by rw [List.getElem?_map,Y8] at hx;exact hx
   cases e:(pickOrder (w.params.setOrder a ep) es)[i]? with
   | none=>rw [e] at hx';cases hx'
   | some p=>rw [e] at hx';exact yk (two sl sl p.2 hi (Option.some.inj hx') fun h'=>.text hb) (fun _ _ z=>z) fun _ _ z=>z.elim
 | @plain sl _ hb hd hs=>
   show wpAny _ _ (setNext a (sl:Int).toNat (i:Int).toNat (ep:Int).toNat >>= _) _ _ _;rw [Yv,Yv,Yv];refine Ya ?_;unfold setNext;refine Ya (yj L.ob L.dt L.fit ?_);dsimp only;refine Ya (Jc ?_);rw [hb,if_neg Yh];show wpAny _ _ (if (!t.plain && decide (es.size>1))=true then _ else _) _ _ _;rw [if_neg (by rw [hd];exact Yh)];show wpAny _ _ ((if (!t.led && !es.isEmpty)=true then _ else _) >>= _) _ _ _;rw [if_neg (by rw [L.led hb];simp)];refine Ya (Yi ?_);have hil:i<es.size:=by
    rcases yh i es.size with z | z
    . exact z
    . rw [YI (by simpa using z)] at hx;cases hx
   have hip:i<t.place.size:=by rw [L.psize];exact hil
   have hx':es[i].2=v:=by rw [List.getElem?_map,Y8,YE hil] at hx;exact Option.some.inj hx
   rw [hs,YE hil,YE hip];refine Yi ?_;have g:t.place.getD i 0=t.place[i]:=by simp [Array.getD,hip]
   have nxt:=jhr L.ris hip;rw [g] at nxt;exact yk (two sl (t.place[i]+1) es[i].2 hi hx' fun h'=>.plain hb hd nxt) (fun _ _ z=>z) fun _ _ z=>z.elim
 | @drawn T _ pl hb hT' hp=>
   have tL:pl.length=es.size:=by have:=hp.length_eq;simpa using this
   have hall:∀x∈pl,x<es.size:=fun x hx=>kQ.mp (hp.mem_iff.mp hx);show wpAny _ _ (seqItems? (.ref T) >>= _) _ _ _;refine Ya (yM hT' rfl ?_);have hil:i<pl.length:=by
    rcases yh i pl.length with z | z
    . exact z
    . have z':(pl.filterMap fun j=>(es[j]?).map (·.2)).length<=i:=YW (List.length_filterMap_le _ _) z;rw [YI z'] at hx;cases hx
   have hj:pl[i]<es.size:=hall _ (KG hil);have hx':es[pl[i]].2=v:=by rw [jf8 hall (Yb hil),YE hj] at hx;exact Option.some.inj hx
   have e:((pl.map fun (j:Nat)=>rawInt j).toArray)[(i:Int).toNat]?=some (Value.int (pl[i]:Nat) 0):=by rw [Yv,List.getElem?_toArray,List.getElem?_map,Yb hil];rfl
   dsimp only;rw [e];dsimp only;refine Ya ?_;unfold setNextDrawn;refine Ya (yj L.ob L.dt L.fit ?_);dsimp only;rw [if_neg (by simp),Yv,YE hj];refine Yi ?_;refine Ya (yx hi (by simp) fun h2 e2 s2=>?_);have e3:SIt h2 it (.ref T) (i+1) a es.size ep:=by
    have c:((i+1:Nat):Int)=(i:Int)+1:=by omega
    unfold SIt;rw [c];exact e2
   refine Yi ⟨_,rfl,Yi ?_⟩;show Q (some es[pl[i]].2) _;rw [hx'];exact hQ h2 _ e3 (.drawn hb (s2.extBut _ _ (hf T rfl) hT') hp) hf s2
end
end L2S
namespace L2S
open PySem PySem.Spec PyProof.Rows
section
variable {prog:Program} {w:World} {A:Around} {E:Value->Shared->Prop} {s:Shared}
theorem jm2 {α:Type} {Q:α → Shared → Prop} (hh:A.handled=none) (h:∀h' e,‹"W"› → (∃o,h'.get? e=some o ∧ o.cls=.type "StopIteration") → E (.ref e) { s with heap:=h' }) :
 wpAny (model prog w) A (do let x ← newExc (.type "StopIteration") [];raiseNew x:Sem α) Q E s:=by
 refine Ya ?_;simp only [newExc,newTuple];refine Ya (Kj ?_ (by size_fits));refine Ya (m:=firstArgMember _ _) (wpAny_of_eq (a:=Value.none) (by first | rfl | (simp only [firstArgMember];rfl)) ?_);refine Kj ?_ (by size_fits);simp only [raiseNew];refine Ya (wpAny_handled ?_);rw [hh];refine Ya (Yi (wpAny_throw ?_));exact h _ _ (fun b o e=>Yg _ (Yg _ e)) ⟨_,Ys _ rfl,rfl⟩
theorem jmG {it a:Addr} {o:Obj} {es:Array (Int×Value)} {ep:Nat} {t:SetTable} {f:Value} {i:Nat} {q:List Value} {Q:Option Value->Shared->Prop} (hh:A.handled=none) (L:SetL w s.heap a o es ep t)
 (hi:SIt s.heap it f i a es.size ep) (M:Mode w s.heap a es ep t f i q) (hx:i=q.length)
 (hQ:∀h',(∀b o,b≠it->s.heap.get? b=some o->h'.get? b=some o)->Q none { s with heap:=h' }):wpAny (model prog w) A (pyNext (.ref it)) Q E s:=by
 have hT:s.TypeIs (.ref it) "set_iterator":=⟨_,hi,rfl⟩;have tL:q.length=es.size:=by have:=M.perm.length_eq;simpa using this
 unfold pyNext;refine Ya ‹"ac"›;show wpAny _ _ (fieldsOf (.ref it) >>= _) _ _ _;refine Ya (wpAny_fieldsOf hi rfl ?_);show wpAny _ _ (setEntries a >>= _) _ _ _;refine Ya (jal L.ob L.dt L.fit ?_);rw [if_neg (by simp)];dsimp only;have stop:∀(h1:Heap),(∀b o,b≠it → s.heap.get? b=some o → h1.get? b=some o) → wpAny (model prog w) A.in1 (do let x ← newExc (.type "StopIteration") [];raiseNew x:Sem Fin) (fun fin s'=>∃v,fin=.done (.ret v) ∧ wpAny (model prog w) A (pure (some v)) Q E s')
  (fun e s'=>wpAny (model prog w) A (do let b ← isInstance e (.type "StopIteration");if b=true then pure none else throw e) Q E s') { s with heap:=h1 }:=fun h1 k1=>by
  refine jm2 (s:={ s with heap:=h1 }) (by simpa using hh) fun h' e k zz=>?_;obtain ⟨oe,ho,hc⟩:=zz;refine Ya (kc (T := "StopIteration") (b:=true) ⟨oe,ho,hc⟩ isSubtype_stop ?_);exact Yi (hQ h' fun b o hb e=>k b o (k1 b o hb e))
 cases M with
 | @text sl _ hb=>show wpAny _ _ (setNext a (sl:Int).toNat (i:Int).toNat (ep:Int).toNat >>= _) _ _ _;rw [Yv,Yv,Yv];refine Ya ?_;unfold setNext;refine Ya (yj L.ob L.dt L.fit ?_);dsimp only;refine Ya (Jc ?_);rw [hb,if_pos rfl,if_neg (by simp)];refine Ya ?_;unfold setWalk;refine Ya (yj L.ob L.dt L.fit ?_);dsimp only;refine Ya (Jc ?_);rw [hb,if_pos rfl];refine Ya (kd (Yi (Yi ?_)));show wpAny _ _ (match ((pickOrder (w.params.setOrder a ep) es)[i]?).map fun e=>(e.2,sl) with | some (x,next)=>_ | none=>_) _ _ _;rw [yq (by rw [hx,Yd,YJ];exact Ym _)];refine Ya (yx hi (by simp) fun h1 e1 s1=>?_);exact stop h1 fun b o hb e=>s1.extBut b o hb e
 | @plain sl _ hb hd hs=>show wpAny _ _ (setNext a (sl:Int).toNat (i:Int).toNat (ep:Int).toNat >>= _) _ _ _;rw [Yv,Yv,Yv];refine Ya ?_;unfold setNext;refine Ya (yj L.ob L.dt L.fit ?_);dsimp only;refine Ya (Jc ?_);rw [hb,if_neg Yh];show wpAny _ _ (if (!t.plain && decide (es.size>1))=true then _ else _) _ _ _;rw [if_neg (by rw [hd];exact Yh)];show wpAny _ _ ((if (!t.led && !es.isEmpty)=true then _ else _) >>= _) _ _ _;rw [if_neg (by rw [L.led hb];simp)];refine Ya (Yi ?_);rw [hs,yq (by omega)];refine Yi ?_;dsimp only;refine Ya (yx hi (by simp) fun h1 e1 s1=>?_);exact stop h1 fun b o hb e=>s1.extBut b o hb e
 | @drawn T _ pl hb hT' hp=>
   have hpl:pl.length=es.size:=by have:=hp.length_eq;simpa using this
   show wpAny _ _ (seqItems? (.ref T) >>= _) _ _ _;refine Ya (yM hT' rfl ?_);have e:((pl.map fun (j:Nat)=>rawInt j).toArray)[(i:Int).toNat]?=none:=by rw [Yv,List.getElem?_toArray];exact YI (by rw [Yd];omega)
   dsimp only;rw [e];dsimp only;refine Ya (yx hi (by simp) fun h1 e1 s1=>?_);refine Ya (yx e1 (by simp) fun h2 e2 s2=>?_);exact stop h2 fun b o hb e=>s2.extBut b o hb (s1.extBut b o hb e)
theorem jlC {a:Addr} {o:Obj} {es:Array (Int×Value)} {ep:Nat} {t:SetTable} {Q:Value->Shared->Prop} (L:SetL w s.heap a o es ep t) (hz:es.size<=sizeLine)
 (hQ:∀h' d it f q,SIt h' it f 0 a es.size ep->Mode w h' a es ep t f 0 q->(∀T,f=.ref T->T≠it)->s.heap.objs.size<=it->‹"2"›->Q (.ref it) { s with heap:=h',drawn:=d }) :
 wpAny (model prog w) A (pyIter (.ref a)) Q E s:=by
 have hT:s.TypeIs (.ref a) "set":=⟨_,L.ob,L.ex.1⟩;refine wpAny_pyIter_slot hT PySem.F.slot_set_iter (yB PySem.F.slot_set_iter hT jcY ?_ (PySem.F.args_set_iter_1 _));show wpAny _ _ (Builtin.Frozenset.sizeOf a >>= _) _ _ _;unfold Builtin.Frozenset.sizeOf;refine Ya (Ya (jal L.ob L.dt L.fit (Yi ?_)));show wpAny _ _ (setDrawn a >>= _) _ _ _;refine Ya ?_;unfold setDrawn;refine Ya (yj L.ob L.dt L.fit ?_);dsimp only;refine Ya (Jc (Yi ?_));show wpAny _ _ (if (!w.params.followText "set-order" && (!t.plain && decide (es.size>1)))=true then _ else _) _ _ _;have fin:∀(g:Heap) (d:Drawn) (f:Value) (q:List Value),(∀b o,s.heap.get? b=some o->g.get? b=some o)->s.heap.objs.size<=g.objs.size->(∀h',(∀b o,g.get? b=some o->h'.get? b=some o)->Mode w h' a es ep t f 0 q)->(∀T,f=.ref T->@LT.lt Nat instLTNat T g.objs.size)->
  wpAny (model prog w) A.in1 (do ret (← newFields "set_iterator" [f,rawInt 0,.ref a,rawInt es.size,rawInt (← setEpoch a)])) (fun fin s'=>∃v,fin=.done (.ret v) ∧ ∃T' r,s'.TypeIs v T' ∧ typeLookup (.type T') "__next__"=pure (some r) ∧ Q v s') E { s with heap:=g,drawn:=d }:=by
  intro g d f q k hle hm hf;refine Ya (wpAny_setEpoch_of (s:={ s with heap:=g,drawn:=d }) (k _ _ L.ob) L.dt L.fit ?_);unfold newFields;refine Ya (Kj ?_ (by size_fits));refine Yi ⟨_,rfl, "set_iterator",_,⟨_,Ys _ rfl,rfl⟩,slot_setit_next.lookup,?_⟩;exact hQ _ d _ f q (Ys _ rfl) (hm _ fun b o e=>Yg _ e) (fun T z=>Yp (hf T z)) hle fun b o e=>Yg _ (k b o e)
 cases hb:w.params.followText "set-order" with
 | true=>rw [if_neg (by simp)];exact fin s.heap s.drawn (rawInt (0:Nat)) _ (fun b o e=>e) (Ym _) (fun h' _=>.text hb) fun T z=>nomatch z
 | false=>
   cases hd:(!t.plain && decide (es.size>1)) with
   | false=>rw [if_neg (by simp)];exact fin s.heap s.drawn (rawInt (0:Nat)) _ (fun b o e=>e) (Ym _) (fun h' _=>.plain hb hd (jhl L.ris)) fun T z=>nomatch z
   | true=>
     rw [if_pos (by simp)];refine Ya (jia es.size (List.range es.size) s (by simp) fun ys d hp=>?_);have hyl:ys.length=es.size:=by have:=hp.length_eq;simpa using this
     refine Ya (wpAny_newTuple (hsz:=by rw [Yd,hyl];exact hz) ?_);refine fin _ d (.ref s.heap.objs.size) _ (fun b o e=>Yg _ e) (by rw [yi];exact kE _) (fun h' k=>.drawn hb (k _ _ (Ys _ rfl)) hp) fun T z=>?_;injection z with z;rw [<-z,yi];exact yK _
theorem jkg {a:Addr} {Q:Bool → Shared → Prop} (hT:s.TypeIs (.ref a) "set") (h:Q false s):wpAny (model prog w) A (Builtin.List.listLengthHint (.ref a)) Q E s:=by
 unfold Builtin.List.listLengthHint;refine Ya (yT hT PySem.F.slot_set_len.lookup ?_);generalize hid:("set.__len__":String)=id0
 wp_delta
 rw [show splitId id0=some ("set","__len__") from by subst hid;decide +kernel];subst hid;refine Ya (kc (T := "set") (b:=true) hT (by rw [isSubtype_type];kernel_rfl) ?_);refine Kk (fun hab=>absurd hab (by decide)) (fun _=>?_);refine Kk (fun _=>?_) (fun hab=>absurd ‹"al"› hab);refine Ya (wpAny_typeOf hT ?_);exact Yi h
theorem jfS {a:Addr} {o:Obj} {es:Array (Int×Value)} {ep:Nat} {t:SetTable} {Q:List Value->Shared->Prop} (hh:A.handled=none) (L:SetL w s.heap a o es ep t) (hz:es.size<sizeLine)
 (h:∀h' d tk (vs:List Value),‹"2"›->s.heap.objs.size<=h'.objs.size->vs.Perm (es.toList.map (·.2))->Q vs { s with heap:=h',drawn:=d,toks:=tk }):wpAny (model prog w) A (collect (.ref a)) Q E s:=by
 unfold collect;refine Ya (wpAny_runValue (yy entry_proto_collect' ?_));rw [ye PySem.F.plain_proto_collect _];show wpAny _ A.in1 (newList [] >>= fun l=>again (.builtin "list.__iadd__" ⟨[l,.ref a],[]⟩)) _ _ s;refine Ya (Kj ?_);refine Yi ⟨yt PySem.F.plain_list_iadd _,yy entry_list_iadd' ?_⟩;rw [ye PySem.F.plain_list_iadd _];generalize hSd:s.heap.objs.size=S at *
 have hS:‹"X"›.get? S=some { cls:=.type "list",data:=.seq #[] }:=by rw [← hSd];exact Ys _ rfl
 have up:∀b o,s.heap.get? b=some o → ‹"X"›.get? b=some o:=fun b o e=>Yg _ e;have hGs:‹"X"›.objs.size=S+1:=by rw [← hSd,yi]
 generalize s.heap.push { cls:=.type "list",data:=.seq ([]:List Value).toArray }=G at *
 have nS:∀b o,s.heap.get? b=some o->b≠S:=fun b o e=>by have q:=L2.ltN e;rw [hSd] at q;exact Yp q
 have aS:=nS _ _ L.ob;have L1:SetL w G a o es ep t:=⟨up _ _ L.ob,L.ex,L.dt,L.fit,L.ris,L.led⟩;have hT:Shared.TypeIs { s with heap:=G } (.ref a) "set":=⟨_,L1.ob,L.ex.1⟩;show wpAny _ A.in1 (Builtin.List.listExtendWith (.ref S) (.ref a) (.ref S)) _ _ _;unfold Builtin.List.listExtendWith;refine Ya (wpAny_typeOf (T := "set") hT ?_);have e1:Builtin.List.listSameRef (.ref S) (.ref a)=false:=by simp [Builtin.List.listSameRef,Ne.symm aS]
 have e2:(Value.type "set" == Value.type "list")=false:=by decide
 have e3:(Value.type "set" == Value.type "tuple")=false:=by decide
 simp only [e1,e2,e3,Bool.or_false,Y2,yL];refine Ya (jlC (s:={ s with heap:=G }) L1 (yP hz) fun G1 d it f q hit M hf hle k1=>?_);have itS:it≠S:=by
  have z:S+1<=it:=by have:=hle;show S+1<=it;rw [<-hGs];exact this
  exact ym z
 have ait:a≠it:=by
  have z:S+1<=it:=by have:=hle;show S+1<=it;rw [<-hGs];exact this
  have z2:=L2.ltN L.ob;rw [hSd] at z2;exact Yp (Yl (yE z2) z)
 have hT1:Shared.TypeIs { s with heap:=G1,drawn:=d } (.ref a) "set":=⟨_,k1 _ _ L1.ob,L.ex.1⟩;refine Ya (Y4 (jkg hT1 ?_));have tL:q.length=es.size:=by have:=M.perm.length_eq;simpa using this
 have key:∀(h1:Heap) (c:Nat),Heap.SameBut S G1 h1 → h1.get? S=some { cls:=.type "list",data:=.seq #[] c } →
  codeAny (model prog w) A (.builtin "list.extend.loop" ⟨[.ref S,.ref it,.ref S],[]⟩) (fun r s'=>match r with
    | .ok (.ret v)=>wpAny (model prog w) A (match v with
     | .ref a=>do
       let o <- load a
       match o.data with
         | .seq xs _=>pure xs.toList
         | _=>unsupported "internal:collect"
     | _=>unsupported "internal:collect") Q E s'
    | .ok _=>False
    | .error e=>E e s') { s with heap:=h1,drawn:=d }:=by
  intro h1 c sb hS1;have nT:∀(g:Heap) (tI:Array Value) (c:Nat),g.get? S=some { cls:=.type "list",data:=.seq tI c } → ∀(f:Value) (i:Nat) (q:List Value),Mode w g a es ep t f i q → ∀T,f=.ref T → T≠S:=by
   rintro g tI c e f i q Mg T rfl z;cases Mg with
   | drawn hb hT hp=>rw [z,e] at hT;have y:(Value.type "list")=Value.type "tuple":=congrArg Obj.cls (Option.some.inj hT);injection y with y;exact absurd y (by decide)
  refine L2.jbL (fun n tI s'=>∃(i c:Nat) (g:Heap) (f:Value),s'={ s with heap:=g,drawn:=d } ∧ n=es.size+1-i ∧ i ≤ es.size ∧ tI=(q.take i).toArray ∧ g.get? S=some { cls:=.type "list",data:=.seq tI c } ∧ SIt g it f i a es.size ep ∧ Mode w g a es ep t f i q ∧ SetL w g a o es ep t ∧
      (∀T,f=.ref T->T≠it)/\∀b o,s.heap.get? b=some o->g.get? b=some o) ?_ (es.size+1) #[] _
   ⟨0,c,h1,f,rfl,rfl,yf _,rfl,hS1,sb.extBut _ _ itS hit,M.at fun T o z e=>sb.extBut _ _ (nT G1 #[] 0 (k1 _ _ hS) f 0 q M T z) e,⟨sb.extBut _ _ aS (k1 _ _ L1.ob),L.ex,L.dt,L.fit,L.ris,L.led⟩,hf,fun b o e=>sb.extBut _ _ (nS b o e) (k1 _ _ (up b o e))⟩
  rintro n tI s' ⟨i,c,g,f,rfl,rfl,hi,rfl,hSg,sit,Mg,Lg,hfg,kg⟩;refine ⟨by simp;omega,?_⟩;rcases yh i es.size with hlt | hge
  . have hx:q[i]?=some q[i]:=Yb (by omega);refine jkU (s:={ s with heap:=g,drawn:=d }) Lg ait hfg sit Mg hx fun h' f' sit' M' hf' sb'=>?_;have hS':=sb'.extBut _ _ (Ne.symm itS) hSg;refine ⟨⟨c,hS'⟩,fun h'' c' e'' sb''=>⟨es.size+1-(i+1),by omega,i+1,c',h'',f',rfl,rfl,hlt,?_,e'',sb''.extBut _ _ itS sit',M'.at fun T o z e=>sb''.extBut _ _ (nT h' _ c hS' f' (i+1) q M' T z) e,⟨sb''.extBut _ _ aS (sb'.extBut _ _ ait Lg.ob),L.ex,L.dt,L.fit,L.ris,L.led⟩,hf',fun b o e=>sb''.extBut _ _ (nS b o e) (sb'.extBut _ _ ?_ (kg b o e))⟩⟩
    . rw [List.take_succ,hx];simp
    . have z:=L2.ltN e;rw [hSd] at z;have z2:S+1<=it:=by have:=hle;show S+1<=it;rw [<-hGs];exact this
      exact Yp (Yl (yE z) z2)
  . have e:i=q.length:=by omega
    refine jmG (s:={ s with heap:=g,drawn:=d }) (by simpa using hh) Lg sit Mg e fun h' k'=>?_;have hS':=k' _ _ (Ne.symm itS) hSg;show wpAny _ A (load S >>= _) _ _ _;refine Ya (wpAny_load hS' ?_);refine Yi ?_;have e2:q.take i=q:=by rw [e,List.take_length]
    have:((q.take i).toArray).toList=q:=by rw [e2]
    rw [this];refine h h' d s.toks q (fun b o e=>k' _ _ ?_ (kg b o e)) (yP (L2.ltN hS')) M.perm;have z:=L2.ltN e;rw [hSd] at z;have z2:S+1<=it:=by have:=hle;show S+1<=it;rw [<-hGs];exact this
    exact Yp (Yl (yE z) z2)
 have hS1:=k1 _ _ hS;refine Kk (fun _=>?_) (fun _=>Yi ⟨yt Ke _,key G1 0 (Heap.SameBut.refl _ _) hS1⟩);refine Ya (ky ?_);refine Ya ?_;show wpAny _ _ (updateSeq S (·.push .none) >>= fun _=>updateSeq S (·.pop)) _ _ _;refine Ya (yg hS1 rfl ?_);have hS2:=YT (Obj.mapSeq (·.push Value.none)) hS1 rfl;refine yg (hz:=by seq_fits) hS2 rfl ?_;have hS3:=YT (Obj.mapSeq (·.pop)) hS2 rfl;exact Yi ⟨yt Ke _,key _ _ ((Heap.SameBut.update ..).trans (Heap.SameBut.update ..)) hS3⟩
theorem jgN {a:Addr} {ns:List Int} {Q:Value->Shared->Prop} (hh:A.handled=none) (hS:Z3 prog w s.heap a ns) (h64:ns.length<64)
 (h:∀h' d tk l out c ks,‹"W"› → s.heap.objs.size ≤ l → h'.get? l=some { cls:=.type "list",data:=.seq out c } → IntsAre out.toList ks → ks.Pairwise (· < ·) → (∀k,k∈ks ↔ k∈ns) → ks.length ≤ ns.length →
  Q (.ref l) { s with heap:=h',drawn:=d,toks:=tk }):wpAny (model prog w) A (call (.builtin "sorted") [.ref a]) Q E s:=by
 obtain ⟨o,es,ep,t,ho,hex,hd,hel,hmem,hf,hle,hnd,hris,hled⟩:=hS;have L:SetL w s.heap a o es ep t:=⟨ho,hex,hd,hf,hris,hled⟩;refine Calls.call_function_entry kind_sorted plain_sorted entry_sorted (args_sorted1 _) ?_;unfold Builtin.«sorted»;refine Ya (m:=checkCount "sorted" 1 1 _) (Yi ?_);refine Ya (jfS (by simpa using hh) L (Yl (by omega:es.size<64) (by decide)) fun h1 d tk vs k1 sz1 hp=>?_);have hvl:vs.length=es.size:=by have:=hp.length_eq;simpa using this
 refine Ya (wpAny_newList (hsz:=YW (by omega:vs.length<=64) (by decide)) ?_);have allI:∀{us:List Value},(∀v∈us,∃k t,v=Value.int k t)->IntsAre us (us.map je3):=by
  intro us;induction us with
  | nil=>intro _;exact .nil
  | cons v us ih=>intro hv;obtain ⟨k,t,rfl⟩:=hv v Ye;exact .cons k t (ih fun x hx=>hv x (Yf _ hx))
 have hI:IntsAre vs (vs.map je3):=allI fun v hv=>by obtain ⟨e,he,rfl⟩:=YX.mp (hp.mem_iff.mp hv);exact jaJ hel he
 have hkp:(vs.map je3).Perm (es.toList.map fun e=>je3 e.2):=by
  have:=hp.map je3
  rwa [YC] at this
 have hoL:(h1.push (seqObj "list" vs.toArray 0)).get? h1.objs.size=some (seqObj "list" vs.toArray 0):=Ys _ rfl;refine Ya (Y4 (yB slot_list_sort ⟨_,hoL,rfl⟩ entry_list_sort (list_sort_tree (s:={ s with heap:=h1.push (seqObj "list" vs.toArray 0),drawn:=d,toks:=tk }) hoL hI (by omega) fun out ks q1 q2 q3=>⟨_,rfl,?_⟩) (args_list_sort _)));refine Yi ⟨_,rfl,?_⟩;have hlt:h1.objs.size<(h1.push (seqObj "list" vs.toArray 0)).objs.size:=by rw [size_push'];exact yK _
 obtain ⟨c,hc⟩:=sortedHeap_at (out:=out) hoL;have hk2:(vs.map je3).Nodup:=(hkp.nodup_iff).mpr hnd;have hk3:ks.Nodup:=(q2.nodup_iff).mpr hk2;refine h _ d tk h1.objs.size out c ks (fun b o e=>?_) sz1 hc q1 ?_ (fun k=>?_) ?_
 . have hb:b≠h1.objs.size:=Yp (Yr (k1 b o e));rw [sortedHeap_old hb (yH (Yr (k1 b o e)) hlt)];exact Yg _ (k1 b o e)
 . refine List.Pairwise.imp₂ (fun a b (x:a<=b) (y:a≠b)=>?_) q3 hk3;omega
 . rw [q2.mem_iff,hkp.mem_iff,YX,hmem k];constructor
   . rintro ⟨e,he,rfl⟩;obtain ⟨j,tj,q⟩:=jaJ hel he;refine ⟨e,he,?_⟩;rw [q];exact is_int.mpr rfl
   . rintro ⟨e,he,q⟩;obtain ⟨j,tj,q'⟩:=jaJ hel he;refine ⟨e,he,?_⟩;rw [q'] at q ⊢;exact (is_int.mp q).symm
 . have:=q2.length_eq;rw [Yd] at this;omega
end
end L2S
namespace L2
open PySem PySem.Spec PyProof.Rows
def jcD (cells:List (Str×Addr)):List (Str×NameKind)->List (Str×Addr)->List (Str×Addr)
 | [],tI=>tI
 | (n,k)::r,tI=>jcD cells r (if (k == NameKind.free)=true then (match cells.lookup n with | some c=>(n,c)::tI | none=>tI) else tI)
theorem jcp {α β:Type} {f:α->β->Sem (ForInStep β)} {g:α->β->β}:∀(l:List α) (b:β),(∀x∈l,∀b,f x b=pure (.yield (g x b)))->forIn l b f=pure (l.foldl (fun b x=>g x b) b)
 | [],b,_=>rfl
 | x::l,b,h=>by rw [List.forIn_cons,h x Ye,pure_bind];exact jcp l _ fun y hy=>h y (Yf _ hy)
theorem jcE (cells:List (Str×Addr)):∀(names:List (Str×NameKind)) (tI:List (Str×Addr)),
 names.foldl (fun b x=>if (x.2 == NameKind.free)=true then (match cells.lookup x.1 with | some c=>(x.1,c)::b | none=>b) else b) tI=jcD cells names tI
 | [],_=>rfl
 | (n,k)::r,tI=>by rw [List.foldl_cons,jcE cells r];rfl
theorem Z6 {scope:Scope} {env:Env} (h:∀n,(n,NameKind.free)∈scope.names->∃c,env.cells.lookup n=some c):closureFor scope env=pure (jcD env.cells scope.names []):=by
 unfold closureFor;rw [<-jcE];have key:=jcp (f:=fun (x:Str×NameKind) (cs:List (Str×Addr))=>match x with
  | (name,kind)=>if (kind == NameKind.free)=true then (do let c <- cellOf env name;pure (ForInStep.yield ((name,c)::cs))) else pure (ForInStep.yield cs))
  (g:=fun x b=>if (x.2 == NameKind.free)=true then (match env.cells.lookup x.1 with | some c=>(x.1,c)::b | none=>b) else b) scope.names [] (by
   rintro ⟨n,k⟩ hx b;dsimp only;by_cases hk:(k == NameKind.free)=true
   . have e:k=NameKind.free:=by simpa using hk
     subst e;obtain ⟨c,hc⟩:=h n hx;rw [if_pos hk,if_pos hk];unfold cellOf;rw [hc];rfl
   . rw [if_neg hk,if_neg hk])
 first
  | exact key
  | (refine Eq.trans ?_ key;rfl)
  | (simp only [key];rfl)
  | (show (forIn scope.names [] _ >>= fun cs=>pure cs)=_;rw [bind_pure];exact key)
theorem jgv {cells:List (Str×Addr)}:∀{names:List (Str×NameKind)} {tI:List (Str×Addr)} {n:Str} {c:Addr},(∀n c,(n,c)∈tI->cells.lookup n=some c)->(n,c)∈jcD cells names tI->cells.lookup n=some c
 | [],tI,n,c,h,q=>h n c q
 | (m,k)::r,tI,n,c,h,q=>by
   refine jgv (names:=r) ?_ q;intro n' c' q';by_cases hk:(k == NameKind.free)=true
   . rw [if_pos hk] at q';cases e:cells.lookup m with
     | none=>rw [e] at q';exact h n' c' q'
     | some d=>
       rw [e] at q';rcases Yk.mp q' with z | z
       . cases z;exact e
       . exact h n' c' z
   . rw [if_neg hk] at q';exact h n' c' q'
theorem ZX {α:Type}:∀{l:List (Str×α)} {n:Str} {c:α},l.lookup n=some c->(n,c)∈l
 | [],_,_,h=>by simp at h
 | (m,d)::r,n,c,h=>by
   rw [YS] at h;cases e:n == m with
   | true=>
     rw [e] at h;have e':n=m:=by simpa using e
     subst e';cases h;exact Ye
   | false=>rw [e] at h;exact Yf _ (ZX h)
theorem jdO {α:Type}:∀{l:List (Str×α)} {n:Str} {c:α},(n,c)∈l->∃d,l.lookup n=some d
 | (m,d)::r,n,c,h=>by
   rw [YS];cases e:n == m with
   | true=>exact ⟨d,rfl⟩
   | false=>
     rcases Yk.mp h with z | z
     . cases z;simp at e
     . exact jdO z
theorem JI {cells:List (Str×Addr)} {names:List (Str×NameKind)} {n:Str} {c:Addr} (q:(jcD cells names []).lookup n=some c):cells.lookup n=some c:=jgv (tI:=[]) (fun _ _ z=>absurd z Yw) (ZX q)
theorem jdS {cells:List (Str×Addr)}:∀{names:List (Str×NameKind)} {tI:List (Str×Addr)} {p:Str×Addr},p∈tI->p∈jcD cells names tI
 | [],tI,p,h=>h
 | (m,k)::r,tI,p,h=>by
   refine jdS (names:=r) ?_;by_cases hk:(k == NameKind.free)=true
   . rw [if_pos hk];cases e:cells.lookup m with
     | none=>exact h
     | some d=>exact Yf _ h
   . rw [if_neg hk];exact h
theorem jfm {cells:List (Str×Addr)}:∀{names:List (Str×NameKind)} {tI:List (Str×Addr)} {n:Str} {c:Addr},(n,NameKind.free)∈names->cells.lookup n=some c->(n,c)∈jcD cells names tI
 | (m,k)::r,tI,n,c,h,q=>by
   rcases Yk.mp h with z | z
   . have z1:n=m:=congrArg Prod.fst z;have z2:NameKind.free=k:=congrArg Prod.snd z;subst z1 z2;show (n,c)∈jcD cells r (if (NameKind.free == NameKind.free)=true then _ else _);rw [if_pos (show (NameKind.free == NameKind.free)=true from rfl),q];exact jdS Ye
   . exact jfm (names:=r) z q
theorem jgw {cells:List (Str×Addr)} {names:List (Str×NameKind)} {n:Str} {c:Addr} (h:(n,NameKind.free)∈names) (q:cells.lookup n=some c):(jcD cells names []).lookup n=some c:=by obtain ⟨d,e⟩:=jdO (jfm (tI:=[]) h q);have:=JI e;rw [q] at this;cases this;exact e
theorem ja3 {env:Env}:∀{names:List (Str×NameKind)} {x:Str},names.lookup x=some .free->
 ((names.map fun (n,k)=>if ‹"s"› then (n,NameKind.cell) else (n,k)).lookup x=some .cell \/
  (names.map fun (n,k)=>if (k == NameKind.free && env.scope.kind == .function && env.kindOf n == some .cell) then (n,NameKind.cell) else (n,k)).lookup x=some .free)
 | [],_,h=>by simp at h
 | (n,k)::r,x,h=>by
   rw [List.map_cons];rw [YS] at h;cases hx:x == n with
   | true=>
     rw [hx] at h;have h:k=.free:=by simpa using h
     subst h;by_cases hk:(NameKind.free == NameKind.free && env.scope.kind == .function && env.kindOf n == some .cell)=true
     . left;simp only [hk,Kl,YS,hx]
     . right;simp only [hk,Y2,yL,YS,hx]
   | false=>
     rw [hx] at h;have ih:=ja3 (env:=env) (names:=r) (x:=x) h;by_cases hk:‹"s"›=true
     . simpa only [hk,Kl,YS,hx] using ih
     . simpa only [hk,Y2,yL,YS,hx] using ih
theorem jcM {x:Str}:∀(names:List (Str×NameKind)) (n:Nat) (tI:List (Str×Addr)) (c:Addr),tI.lookup x=some c->∃d,(cellsFrom n names tI).lookup x=some d
 | [],n,tI,c,h=>⟨c,h⟩
 | (m,k)::r,n,tI,c,h=>by
   unfold cellsFrom;split
   . cases e:x == m with
     | true=>exact jcM r (n+1) _ n (by rw [YS,e])
     | false=>exact jcM r (n+1) _ c (by rw [YS,e];exact h)
   . exact jcM r n tI c h
theorem jer {x:Str}:∀(names:List (Str×NameKind)) (n:Nat) (tI:List (Str×Addr)),(x,NameKind.cell)∈names->∃d,(cellsFrom n names tI).lookup x=some d
 | (m,k)::r,n,tI,h=>by
   rcases Yk.mp h with z | z
   . have z1:x=m:=congrArg Prod.fst z;have z2:NameKind.cell=k:=congrArg Prod.snd z;subst z1 z2;unfold cellsFrom;rw [if_pos (show (NameKind.cell == NameKind.cell)=true from rfl)];exact jcM r (n+1) _ n (by rw [YS,ke])
   . unfold cellsFrom;split
     . exact jer r (n+1) _ z
     . exact jer r n tI z
theorem jdc {x:Str}:∀(names:List (Str×NameKind)) (n:Nat) (tI:List (Str×Addr)),(x,NameKind.cell)∉names->(cellsFrom n names tI).lookup x=tI.lookup x
 | [],n,tI,h=>rfl
 | (m,k)::r,n,tI,h=>by
   have hr:(x,NameKind.cell)∉r:=fun z=>h (Yf _ z);unfold cellsFrom;split
   . rename_i hk;have hk':k=.cell:=by simpa using hk
     rw [jdc r (n+1) _ hr,YS];have:(x == m)=false:=by rw [Kq];intro e;subst e hk';exact h Ye
     rw [this]
   . exact jdc r n tI hr
theorem jeR {x:Str} {c:Addr}:∀(names:List (Str×NameKind)) (n:Nat) (tI:List (Str×Addr)),(x,NameKind.cell)∈names->(cellsFrom n names tI).lookup x=some c->n<=c
 | (m,k)::r,n,tI,h,q=>by
   unfold cellsFrom at q;by_cases hr:(x,NameKind.cell)∈r
   . split at q
     . exact Nat.le_of_succ_le (jeR r (n+1) _ hr q)
     . exact jeR r n tI hr q
   . rcases Yk.mp h with z | z
     . have z1:x=m:=congrArg Prod.fst z;have z2:NameKind.cell=k:=congrArg Prod.snd z;subst z1 z2;rw [if_pos (show (NameKind.cell == NameKind.cell)=true from rfl),jdc r (n+1) _ hr,YS,ke] at q;cases q;exact Ym _
     . exact absurd z hr
theorem jk6 {x:Str} {c:Addr}:∀(names:List (Str×NameKind)) (h:Heap) (tI:List (Str×Addr)),(cellsFrom h.objs.size names tI).lookup x=some c->tI.lookup x=some c\/((pushCells h names).IsCell c none/\h.objs.size<=c)
 | [],h,tI,q=>.inl q
 | (m,k)::r,h,tI,q=>by
   unfold cellsFrom at q;unfold pushCells;split at q
   . rename_i hk;rw [if_pos hk];rw [← yi h { cls:=.type "cell",data:=.cell none }] at q;rcases jk6 r _ _ q with z | ⟨z1,z2⟩
     . rw [YS] at z;cases e:x == m with
       | true=>rw [e] at z;cases z;exact .inr ⟨(show (h.push { cls:=.type "cell",data:=.cell none }).IsCell h.objs.size none from ⟨_,Ys _ rfl,rfl⟩).keeps (kC r _),Ym _⟩
       | false=>rw [e] at z;exact .inl z
     . rw [yi] at z2;exact .inr ⟨z1,Nat.le_of_succ_le z2⟩
   . rename_i hk;rw [if_neg hk];exact jk6 r h tI q
theorem jg0:∀(names:List (Str×NameKind)) (n:Nat) (tI:List (Str×Addr)),(∀x c,tI.lookup x=some c->c<n)->(∀x y c,tI.lookup x=some c->tI.lookup y=some c->x=y)->
 ∀x y c,(cellsFrom n names tI).lookup x=some c->(cellsFrom n names tI).lookup y=some c->x=y
 | [],n,tI,_,h=>h
 | (m,k)::r,n,tI,hl,h=>by
   unfold cellsFrom;split
   . refine jg0 r (n+1) _ (fun x c q=>?_) fun x y c q1 q2=>?_
     . rw [YS] at q;cases e:x == m with
       | true=>rw [e] at q;cases q;exact yK _
       | false=>rw [e] at q;exact yE (hl x c q)
     . rw [YS] at q1 q2;cases e1:x == m with
       | true=>
         cases e2:y == m with
         | true=>rw [kR.mp e1,kR.mp e2]
         | false=>rw [e1] at q1;rw [e2] at q2;cases q1;exact absurd (hl y _ q2) (YZ _)
       | false=>
         cases e2:y == m with
         | true=>rw [e1] at q1;rw [e2] at q2;cases q2;exact absurd (hl x _ q1) (YZ _)
         | false=>rw [e1] at q1;rw [e2] at q2;exact h x y c q1 q2
   . exact jg0 r n tI hl h
theorem jbE {env:Env}:∀{names:List (Str×NameKind)} {x:Str},
 ((names.map fun (n,k)=>if ‹"s"› then (n,NameKind.cell) else (n,k)).lookup x=some .cell \/
  (names.map fun (n,k)=>if (k == NameKind.free && env.scope.kind == .function && env.kindOf n == some .cell) then (n,NameKind.cell) else (n,k)).lookup x=some .free)->(x,NameKind.free)∈names\/(x,NameKind.cell)∈names
 | [],_,h=>by simp at h
 | (n,k)::r,x,h=>by
   have ih:=jbE (env:=env) (names:=r) (x:=x);rw [List.map_cons] at h;by_cases hx:x=n
   . subst hx;by_cases hk:(k == NameKind.free && env.scope.kind == .function && env.kindOf x == some .cell)=true
     . have:k=NameKind.free:=by simp only [KI] at hk;simpa using hk.1.1
       subst this;exact .inl Ye
     . simp only [hk,YS,ke] at h;rcases h with h | h
       . have:k=NameKind.cell:=by simpa using h
         subst this;exact .inr Ye
       . have:k=NameKind.free:=by simpa using h
         subst this;exact .inl Ye
   . have hb:(x == n)=false:=by simpa using hx
     have ih':=ih (by
       by_cases hk:‹"s"›=true
       . simpa only [hk,Kl,YS,hb] using h
       . simpa only [hk,Y2,yL,YS,hb] using h)
     rcases ih' with z | z
     . exact .inl (Yf _ z)
     . exact .inr (Yf _ z)
def jac (scope:Scope) (x:Str):Bool:=match scope.names.lookup x with
 | some .cell=>true
 | _=>false
theorem jco {scope:Scope} {x:Str} (h:jac scope x=true):(x,NameKind.cell)∈scope.names:=by
 unfold jac at h;split at h
 . rename_i e;exact ZX e
 . cases h
def bcl (C:Addr) (scope:Scope) (cells:List (Str×Addr)):List (Str×Addr):=cellsFrom (C+1) scope.names (jcD cells scope.names [])
section
variable {M:Model} {A:Around} {E:Value->Shared->Prop} {s:Shared}
theorem Qd {scope:Scope} {globals:Addr} {closure:List (Str×Addr)} {qual:Str} {func:Option Addr} {code:Value} {outer:Env} {builtins:Addr} {Q:Env->Shared->Prop}
 (hQ:Q (newEnv scope s.heap.objs.size globals (cellsFrom (s.heap.objs.size+1) scope.names closure) qual func code (some outer) builtins) { s with heap:=pushCells (s.heap.push { cls:=.type "dict",data:=.dict #[] }) scope.names }) :
 wpAny M A (newFunctionEnv scope globals closure [] qual func code (some outer) builtins) Q E s:=by
 simp only [newFunctionEnv,Option.isSome_some,Kl];refine Ya (wpAny_alloc ?_);refine Ya (wpAny_layCells _ (fun name kind cells=>by cases hkc:kind == NameKind.cell <;> simp [hkc]) _ _ _ _ ?_);rw [show ({ s with heap:=s.heap.push { cls:=.type "dict",data:=.dict #[] } }:Shared).heap.objs.size=s.heap.objs.size+1 from yi ..];rw [List.forIn_nil];exact Ya (Yi (Yi hQ))
end
def Cx.blk (X:Cx) (N:List Str) (scope:Scope) (C:Addr) (s:Shared) (H:Hp) (fp:List Addr):Cx:={ X with N:=N,s₀:=s,H₀:=H,env:=compEnvC scope (bcl C scope X.env.cells) C X.env,outer:=X.stack,stack:=X.stack,ex:=fp,fn:=jac scope,pn:=[],xe:=fun _ _=>False }
def capt (σ:St) (ix:List Nat):St:=ix.map fun k=>(σ[k]?).getD none
def Jv (n:Nat) (σ:St) (ix:List Nat):St:=List.replicate n none++capt σ ix
def jhu (n:Nat) (g:TG):Prop:=∀x σ H Q,g x σ H Q->g x σ H fun σ2 H2=>Q σ2 H2/\σ2.length=σ.length/\∀j,n<=j->σ2[j]?=σ[j]?
theorem jiN {n i:Nat} (h:i<n):jhu n (jaa i):=fun x σ H Q q=>⟨q,by simp,fun j hj=>by rw [YY (by omega)]⟩
def PTs (X:Cx) (ifs:List Expr) (t:TT):Prop:=
 ∀(tu:List (Addr×Obj)) (s:Shared) (σ:St) (H:Hp) (Q:Bool->Hp->Prop) (E:Value->Shared->Prop),(∀e s',X.xe e s'->E e s')->Inv X tu σ H s->t σ H Q->
   wpAny ‹"b"› X.A (forIn ifs true fun c r=>if r=true then do let ok <- isTrue c X.env (eval c X.env);pure (ForInStep.yield ok) else pure (ForInStep.yield r)) (TP X tu σ Q) E s
def jn0:TT:=fun _ H Q=>Q true H
theorem jnu {X:Cx}:PTs X [] jn0:=fun _ _ _ H _ _ _ I h=>wpAny_tests_nil ⟨H,I,h⟩
theorem jm3 {X:Cx} {c:Expr} {t:TT} (h:PT X c t):PTs X [c] t:=fun tu s σ H Q E hE I q=>wpAny_tests_one (yk (h tu s σ H Q I q) (fun _ _ z=>z) hE)
def tLC (wi:TI) (g:TG) (tt:TT) (te:TE) (n:Nat) (ix:List Nat):TE:=fun σ H Q=>wi σ H fun J H1=>∃W:Nat->Nat->List V->Hp->Prop,(∃m,W 0 m [] H1)/\∀i m ys H,W i m ys H->
 (J.stop i H/\ys.length<=sizeLine/\∀p,H p=none->Q (.ref p) (upd H p (.lst ys))) \/
 (J.go i H/\ys.length<sizeLine/\∃N:List V->Hp->Prop,(∀ys' H',N ys' H'->∃m',m'<m/\W (i+1) m' ys' H')/\∀x H',J.yld i H x H'->g x (Jv n σ ix) H' fun σ2 H2=>tt σ2 H2 fun b H3=>if b=true then te σ2 H3 fun v H4=>N (ys++[v]) H4 else N ys H3)
section
variable {prog:Program} {w:World} {A:Around} {E:Value->Shared->Prop} {R:Result->Shared->Prop} {s:Shared}
theorem ZP {elt target iter:Expr} {ifs:List Expr} {scope:Scope} {pos:Pos} {it tI:Value} {env:Env} (I:Nat->Shared->Prop)
 (turn:∀n s,I n s->wpAny (model prog w) A (pyNext it) (fun r s₁=>match r with
  | none=>R (.ok .next) s₁
  | some v=>wpAny (model prog w) A (letOwnedTupleGo target it v) (fun _ s₁'=>wpAny (model prog w) A (assign target env v) (fun _ s₂=>
      wpAny (model prog w) A (forIn ifs true fun c r=>if r=true then do let ok <- isTrue c env (eval c env);pure (ForInStep.yield ok) else pure (ForInStep.yield r)) (fun ok s₃=>
        if ok=true then wpAny (model prog w) A (eval elt env) (fun x s₄=>wpAny (model prog w) A (call (.builtin "list.append") [tI,x]) (fun _ s₅=>∃m,m<n ∧ I m s₅) (fun _ _=>False) s₄) (fun _ _=>False) s₃
        else ∃m,m<n/\I m s₃) (fun _ _=>False) s₂) (fun _ _=>False) s₁') (fun _ _=>False) s₁) (fun _ _=>False) s)
 (n:Nat) (h:I n s) :
 codeAny (model prog w) A (.compLoop (.ListComp elt [⟨target,iter,ifs,0⟩] scope pos) 0 it tI env) R s:=by
 refine codeAny_loop rfl I (fun n s hI=>?_) n h;show wpAny _ A ((compTurn (.ListComp elt [⟨target,iter,ifs,0⟩] scope pos) 0 it tI env).onRaise (fun x=>do noteFrame x env;theTreesLotGoes x)) _ _ s;refine wpAny_noted ?_;rw [compTurn_list];refine Ya (wpAny_standAt (Ya (yk (turn n s hI) (fun r s₁ h₁=>?_) fun _ _ h'=>h'.elim)));cases r with
 | none=>exact Yi h₁
 | some v=>
   refine Ya (yk h₁ (fun _ s₁' h₁'=>?_) fun _ _ h'=>h'.elim);refine Ya (yk h₁' (fun _ s₂ h₂=>Ya (yk h₂ (fun ok s₃ h₃=>?_) fun _ _ h'=>h'.elim)) fun _ _ h'=>h'.elim);cases ok with
   | false=>exact Yi ⟨rfl,h₃⟩
   | true=>exact Ya (Ya (yk h₃ (fun x s₄ h₄=>Ya (yk h₄ (fun _ s₅ h₅=>Yi (Yi ⟨rfl,h₅⟩)) fun _ _ h'=>h'.elim)) fun _ _ h'=>h'.elim))
end
section
variable {X:Cx} {tu:List (Addr×Obj)} {σ:St} {H:Hp} {s:Shared} {scope:Scope} {C:Addr} {fp:List Addr}
theorem Inv.bclOld (I:Inv X tu σ H s) (hC:s.heap.objs.size<=C) {x:Str} {c:Addr} (e:(bcl C scope X.env.cells).lookup x=some c):X.env.cells.lookup x=some c\/C<c:=by
 by_cases h:(x,NameKind.cell)∈scope.names
 . exact .inr (jeR _ _ _ h e)
 . unfold bcl at e;rw [jdc _ _ _ h] at e;exact .inl (JI e)
theorem Inv.blkOk (I:Inv X tu σ H s) (N:List Str) (hC:s.heap.objs.size<=C) (hkind:scope.kind=.function)
 (hfree:∀n,(n,NameKind.free)∈scope.names->X.env.scope.names.lookup n=some .cell\/X.env.scope.names.lookup n=some .free)
 (hf:∀b∈fp,jdb X tu H b) (hfl:∀b∈fp,b<s.heap.objs.size):(X.blk N scope C s H fp).Ok where
 mod:=I.ok.mod
 kind:=hkind
 glob:=I.ok.glob
 blt:=I.ok.blt
 above:=hC
 inj:=jg0 _ _ _ (fun x c e=>by obtain ⟨v,q⟩:=I.cell x c (JI e);exact yE (Yl q.lt hC)) fun x y c e1 e2=>I.ok.inj x y c (JI e1) (JI e2)
 has:=fun x hx=>by
  rcases jbE (env:=X.env) hx with q | q
  . obtain ⟨c,e⟩:=I.ok.has x (hfree x q);exact jcM _ _ _ c (jgw q e)
  . exact jer _ _ _ q
 cab:=fun x c e q=>YW hC (yP (jeR _ _ _ (jco e) q))
 hd:=I.ok.hd
 frames:=I.ok.frames
 stk:=.inl rfl
 exf:=fun b hb=>⟨Yp (Yl (hfl b hb) hC),fun x c e=>by
  rcases I.bclOld hC e with z | z
  . exact (hf b hb).2.2.2.2.1 x c z
  . exact ym (Yl (hfl b hb) (YW hC (yP z)))⟩
 bs:=I.bs
 bsz:=YW I.ok.bsz I.sz
 noex:=fun b o e hb=>by
  rcases (hf b hb).2.2.2.1 with z | z
  . exact I.ok.noex b o e z
  . exact absurd (Yl (Yr (I.ok.bs b o e).1) z) (YZ _)
 exfs:=fun b hb z=>by
  rcases Yk.mp (I.stkSub b z) with q | q
  . exact (hf b hb).2.1 q
  . exact (hf b hb).2.2.1 q
 funs:=I.stack
 frf:=I.stkFree
theorem Inv.unblk {σ':St} {H':Hp} {s':Shared} {N:List Str} {D:Addr} {ys:List V} {its:List Value} {n:Nat} {pl:List (Addr×Obj)} (I:Inv X tu σ H s) (hf:∀b∈fp,jdb X tu H b) (hD:s.heap.objs.size<=D)
 (J:Inv (X.blk N scope C s H fp) pl σ' H' s') (hv:Vals ys its) (hz:ys.length ≤ sizeLine) (hl:s'.heap.get? D=some { cls:=.type "list",data:=.seq its.toArray n }) (hn:H' D=none):Inv X tu σ (upd H' D (.lst ys)) s':=by
 have u:Un (frs X.stack) fp H H' s.heap s'.heap:=J.base;have neD:∀b o,s.heap.get? b=some o->b≠D:=fun b o e=>Yp (Yl (Yr e) hD);refine I.call' (ch:=fp) J.os (u:=⟨u.keep,u.slot,fun b o e n' hx=>?_,u.there,fun b xs e=>?_,fun b o x e=>?_,fun b ps e=>?_⟩) ?_ J.bare fun b hb=>⟨(hf b hb).2.2.2.1,(hf b hb).2.1,(hf b hb).2.2.2.2.1,(hf b hb).2.2.2.2.2⟩
 . rw [jz (neD b o e)];exact u.free b o e n' hx
 . rw [jz (jD (u.tups b xs e) hn)];exact u.tups b xs e
 . rw [jz (jD (u.frzs b o x e) hn)];exact u.frzs b o x e
 . obtain ⟨more,q⟩:=u.tbls b ps e;exact ⟨more,by rw [jz (jD q hn)];exact q⟩
 . intro b o e;by_cases hb:b=D
   . subst hb;rw [jB] at e;cases e;exact ⟨hz,its,n,hv,hl⟩
   . rw [jz hb] at e;exact (J.hok b o e).stay (fun c v _ q=>q) (fun c q=>by rw [jz (jD q hn)];exact q) fun c xs q=>by rw [jz (jD q hn)];exact q
end
section
variable {X:Cx} {elt iter tg:Expr} {ifs:List Expr} {scope:Scope} {pos:Pos} {Lc F:List Str} {ix:List Nat} {wi:TI} {g:TG} {tt:TT} {te:TE}
theorem jl3 {σ:St} {ix:List Nat} {j:Nat} {v:V} (h:(capt σ ix)[j]?=some (some v)):∃k,ix[j]?=some k/\σ[k]?=some (some v):=by
 unfold capt at h;rw [List.getElem?_map] at h;cases e:ix[j]? with
 | none=>rw [e] at h;cases h
 | some k=>
   rw [e] at h;have h':(σ[k]?).getD none=some v:=Option.some.inj h;refine ⟨k,rfl,?_⟩;cases q:σ[k]? with
   | none=>rw [q] at h';cases h'
   | some o=>rw [q] at h';rw [show o=some v from h']
theorem jfL {tu:List (Addr×Obj)} {σ:St} {H:Hp} {s:Shared} {it:Addr} {fp:List Addr} {tn:Nat->Heap->Prop} {J:It} {E:Value->Shared->Prop} {Qv:List V->Hp->Prop} {RR:Value->Addr->Result->Shared->Prop}
 (hc:X.calm=true) (hkind:scope.kind=.function) (hcell:∀y∈scope.names,y.2=.cell->scope.names.lookup y.1=some .cell)
 (hfree:∀n,(n,NameKind.free)∈scope.names->X.env.scope.names.lookup n=some .cell\/X.env.scope.names.lookup n=some .free)
 (hix:ix.length=F.length) (hF:∀(j:Nat) (x:Str) (k:Nat),F[j]?=some x->ix[j]?=some k->X.N[k]?=some x/\(X.env.scope.names.lookup x=some .cell\/X.env.scope.names.lookup x=some .free)/\scope.names.lookup x=some .free)
 (hg:∀C s H fp,PG ‹"d"› tg g) (hloc:jhu Lc.length g) (ht:∀C s H fp,PTs ‹"d"› ifs tt) (he:∀C s H fp,PE ‹"d"› elt te)
 (I:Inv X tu σ H s) (T:Turn X.prog X.w X.K tg J fp it tn) (st0:tn 0 s.heap) (hf:∀b∈fp,jdb X tu H b)
 (W:Nat->Nat->List V->Hp->Prop) (w0:∃m,W 0 m [] H)
 (turn:∀i m ys H,W i m ys H->(J.stop i H/\ys.length<=sizeLine/\Qv ys H) \/
  (J.go i H/\ys.length<sizeLine/\∃N:List V->Hp->Prop,(∀ys' H',N ys' H'->∃m',m'<m/\W (i+1) m' ys' H')/\∀x H',J.yld i H x H'->g x (Jv Lc.length σ ix) H' fun σ2 H2=>tt σ2 H2 fun b H3=>if b=true then te σ2 H3 fun v H4=>N (ys++[v]) H4 else N ys H3))
 (hRR:∀(D C:Addr) (H':Hp) (s':Shared) (ys:List V) (m:Str->Option Value),D≠C->s.heap.objs.size<=D->s.heap.objs.size<=C->H' D=none->H' C=none->s'.heap.Ns C m->Inv X tu σ (upd H' D (.lst ys)) s'->Qv ys H'->RR (.ref D) C (.ok .next) s') :
 wpAny ‹"b"› X.A (newList []) (fun tI s₃=>wpAny ‹"b"› X.A (newFunctionEnv scope X.env.globals (jcD X.env.cells scope.names []) [] X.env.qual none .none (some X.env)) (fun cenv s₄=>codeAny ‹"b"› X.A (.compStart ‹"k"› 0 (.ref it) tI { cenv with scope:=relabel scope X.env }) (RR tI cenv.locals) s₄) E s₃) E s:=by
 refine Kj (Qd ?_);dsimp only;generalize hH2:s.heap.push { cls:=.type "list",dict:=none,data:=.seq ([]:List Value).toArray }=G;have hCs:G.objs.size=s.heap.objs.size+1:=by rw [<-hH2,yi]
 have hDC:s.heap.objs.size≠G.objs.size:=by rw [hCs];exact Yp (yK _)
 have hCle:s.heap.objs.size<=G.objs.size:=by rw [hCs];exact kE _
 have hns₁:‹"y"›.Ns G.objs.size fun _=>none:=(Heap.Ns.new G (.type "dict")).keeps (kC _ _);have old:∀b o,s.heap.get? b=some o → ‹"y"›.get? b=some o:=fun b o e=>kC _ _ _ _ (Yg _ (hH2 ▸ Yg _ e));have hacc:‹"y"›.get? s.heap.objs.size=some { cls:=.type "list",data:=.seq ([]:List Value).toArray }:=kC _ _ _ _ (Yg _ (hH2 ▸ Ys _ rfl));have hcs:∀x c,(bcl G.objs.size scope X.env.cells).lookup x=some c → X.env.cells.lookup x=some c ∨ (‹"y"›.IsCell c none ∧ G.objs.size<c):=fun x c e=>by
  unfold bcl at e;rw [← yi G { cls:=.type "dict",data:=.dict #[] }] at e;rcases jk6 _ _ _ e with z | ⟨z1,z2⟩
  . exact .inl (JI z)
  . rw [yi] at z2;exact .inr ⟨z1,z2⟩
 generalize hh1:pushCells (G.push { cls:=.type "dict",data:=.dict #[] }) scope.names=h₁ at hns₁ old hacc hcs ⊢;generalize hD:s.heap.objs.size=D at *
 generalize hC:G.objs.size=C at *
 have hfl:∀b∈fp,b<D:=fun b hb=>by obtain ⟨o,e,_⟩:=T.obj 0 _ st0 b hb;rw [<-hD];exact Yr e
 have hfl':∀b∈fp,b<s.heap.objs.size:=fun b hb=>by rw [hD];exact hfl b hb
 have ok:‹"d"›.Ok:=I.blkOk (Lc++F) (by rw [hD];exact hCle) hkind hfree hf hfl';have hσl:(Jv Lc.length σ ix).length=(Lc++F).length:=by unfold Jv capt;rw [YG,YG,List.length_replicate,Yd,hix]
 have fpB:∀{H':Hp} {pl:List (Addr×Obj)},(∀b∈fp,H' b=none)->(∀p∈pl,p.1=D)->∀b∈fp,jdb ‹"d"› pl H' b:=fun {H' pl} hn hp b hb=>
  ⟨hn b hb,Yp (Yl (hfl b hb) hCle),ok.exfs b hb,.inl hb,(ok.exf b hb).2,fun p hp'=>by
   have hp2:p∈pl:=by simpa [Cx.blk] using hp'
   rw [hp p hp2];exact ym (hfl b hb)⟩
 have HD:H D=none:=I.hok.fresh (by rw [hD];exact Ym _);have HC:H C=none:=I.hok.fresh (by rw [hD];exact hCle);have nfsD:∀b,D<=b->b∉frs X.stack:=fun b hb z=>by obtain ⟨_,o,ho,_⟩:=I.stack.mem z;have:=Yr ho;rw [hD] at this;exact absurd (Yl this hb) (YZ _)
 have nD:∀x c,(bcl C scope X.env.cells).lookup x=some c->c≠D:=fun x c e z=>by
  rcases hcs x c e with e | ⟨_,e⟩
  . obtain ⟨v,q⟩:=I.cell x c e;have:=q.lt;rw [hD,z] at this;exact absurd this (YZ _)
  . rw [z] at e;exact absurd (yJ hCle e) (YZ _)
 have Z7:∀s3:Shared,s3={ s with heap:=h₁ } → Inv ‹"d"› [(D,{ cls:=.type "list",data:=.seq ([]:List Value).toArray })] (Jv Lc.length σ ix) H s3:=by
  rintro s3 rfl;refine ⟨ok,rfl,I.bare,Un.kept old,⟨_,hns₁,fun i x v e1 e2 e3=>?_⟩,fun x c e=>?_,HC,fun x c e=>?_,fun p hp=>?_,I.hok.kept old,hσl⟩
  . have hi:Lc.length<=i:=by
      rcases yh i Lc.length with q | q
      . unfold Jv at e2;rw [YD (by simpa using q),List.getElem?_replicate] at e2;rw [if_pos q] at e2;cases e2
      . exact q
    have e2':(capt σ ix)[i-Lc.length]?=some (some v):=by
      unfold Jv at e2
      rwa [YH ‹"ab"›,List.length_replicate] at e2
    have e1':F[i-Lc.length]?=some x:=by
      have e1'':(Lc++F)[i]?=some x:=e1
      rwa [YH hi] at e1''
    obtain ⟨k,hk,hσ⟩:=jl3 e2';obtain ⟨hN,hcl,hfr⟩:=hF _ x k e1' hk;obtain ⟨m,hn,hl⟩:=I.loc;obtain ⟨u,r,lk⟩:=hl k x v hN hσ (by rcases hcl with z | z;exact .inr (.inl z);exact .inr (.inr z));refine ⟨u,r,.inr ⟨?_,?_⟩⟩
    . exact ja3 (env:=X.env) hfr
    . rcases lk with ⟨hk1,_⟩ | ⟨_,c,hc1,hc2⟩
      . have hk1':X.env.scope.names.lookup x=some .local:=hk1;rcases hcl with z | z <;> · rw [hk1'] at z;cases z
      . refine ⟨c,(jdc _ _ _ fun z=>?_).trans (jgw (ZX hfr) hc1),?_⟩
        . have:=hcell _ z rfl;rw [hfr] at this;cases this
        obtain ⟨o,ho,hd⟩:=hc2;exact ⟨o,old c o ho,hd⟩
  . rcases hcs x c e with e | ⟨e,_⟩
    . obtain ⟨v,o,ho,hd⟩:=I.cell x c e;exact ⟨v,o,old c o ho,hd⟩
    . exact ⟨none,e⟩
  . rcases hcs x c e with e | ⟨_,e⟩
    . exact I.freeC x c e
    . exact I.hok.fresh (by rw [hD];exact YW hCle (yP e))
  . have:p=(D,{ cls:=.type "list",data:=.seq ([]:List Value).toArray }):=by simpa [Cx.blk] using hp
    subst this;exact ⟨hacc,HD,hDC,nfsD D (Ym _),fun v z=>nomatch z⟩
 have loop:∀s3:Shared,s3={ s with heap:=h₁ }->
  codeAny ‹"b"› X.A (.compLoop ‹"k"› 0 (.ref it) (.ref D) ‹"d"›.env) (RR (.ref D) C) s3:=by
  intro s3 hs3;obtain ⟨m0,w0⟩:=w0;have st3:tn 0 s3.heap:=by subst hs3;exact T.keep 0 _ _ st0 fun b _ o e=>old b o e
  refine ZP (fun n s'=>∃i ys its k H',Inv ‹"d"› [(D,{ cls:=.type "list",data:=.seq its.toArray k })] (Jv Lc.length σ ix) H' s' ∧ Vals ys its ∧ tn i s'.heap ∧ (∀b∈fp,H' b=none) ∧ W i n ys H')
   ?_ m0 ⟨0,[],[],0,H,Z7 s3 hs3,.nil,st3,fun b hb=>(hf b hb).1,w0⟩
  rintro n s4 ⟨i,ys,its,k,H4,I4,rv,st4,fr4,w4⟩;have pD:∀p∈[((D,{ cls:=.type "list",data:=.seq its.toArray k }):Addr×Obj)],p.1=D:=fun p hp=>by simp at hp;rw [hp]
  rcases turn i n ys H4 w4 with ⟨stop,hz,q⟩ | ⟨go,hz,N,hN,step⟩
  . refine qu (T.done ‹"d"› rfl rfl rfl hc i _ s4 _ H4 _ I4 (fpB fr4 pD) st4 stop) fun r s5 zz=>?_;obtain ⟨hr,I5⟩:=zz;subst hr;obtain ⟨p1,p2,p3,p4,p5⟩:=I5.pin _ (YF _ Ye);obtain ⟨m,hn,_⟩:=I5.loc;exact hRR D C H4 s5 ys m hDC (Ym _) hCle p2 I5.free hn (I.unblk (C:=C) (scope:=scope) hf (by rw [hD];exact Ym _) I5 rv hz p1 p2) q
  . refine qu (T.item ‹"d"› rfl rfl rfl hc i _ s4 _ H4 _ I4 (fpB fr4 pD) st4 go) fun r s5 zz=>?_;obtain ⟨u,hr,h5⟩:=zz;subst hr;refine qu h5 fun _ s6 zz=>?_;obtain ⟨x,H6,I6,r6,y6,st6,fr6⟩:=zz;have I6':=I6.pinned (fpB fr6 pD) (T.obj _ _ st6);refine qu (hg C s H fp _ s6 _ H6 x u _ I6' r6 (hloc _ _ _ _ (step x H6 y6))) fun _ s7 zz=>?_;obtain ⟨σ7,H7,I7,q7,l7,k7⟩:=zz;have weak:∀(j:Nat) v,(Jv Lc.length σ ix)[j]?=some (some v)->σ7[j]?=some (some v):=fun j v e=>by
      rw [k7 j ?_];exact e;rcases yh j Lc.length with z | z
      . unfold Jv at e;rw [YD (by simpa using z),List.getElem?_replicate,if_pos z] at e;cases e
      . exact z
    have fin:∀{s':Shared} {H':Hp} {i':Nat} {ys':List V} {its':List Value} {k':Nat},Inv ‹"d"› [] σ7 H' s' → s'.heap.get? D=some { cls:=.type "list",data:=.seq its'.toArray k' } → H' D=none → Inv ‹"d"› [(D,{ cls:=.type "list",data:=.seq its'.toArray k' })] (Jv Lc.length σ ix) H' s':=fun {s' H' i' ys' its' k'} I' e n'=>
      (I'.weak (by rw [l7]) weak).pins_of fun p hp=>by
       have:p=(D,{ cls:=.type "list",data:=.seq its'.toArray k' }):=by simpa using hp
       subst this;exact ⟨e,n',hDC,nfsD D (Ym _),fun v z=>nomatch z⟩
    refine qu (ht C s H fp _ s7 σ7 H7 _ _ (fun _ _ z=>z) I7 q7) fun b s8 zz=>?_;obtain ⟨H8,I8,q8⟩:=zz;have keepS:∀{s':Shared} {H':Hp},Inv ‹"d"› ([((D,{ cls:=.type "list",data:=.seq its.toArray k }):Addr×Obj)]++jcs fp s6.heap) σ7 H' s' → tn (i+1) s'.heap ∧ (∀b∈fp,H' b=none) ∧ s'.heap.get? D=some { cls:=.type "list",data:=.seq its.toArray k } ∧ H' D=none:=fun {s' H'} I'=>by
      refine ⟨T.keep _ _ _ st6 fun b hb o e=>(I'.pin (b,o) (YF _ (YF _ (Q1 hb e)))).1,fun b hb=>?_,?_⟩
      . obtain ⟨o,e,d⟩:=T.obj _ _ st6 b hb;exact (I'.pin (b,o) (YF _ (YF _ (Q1 hb e)))).2.1
      . have:=I'.pin (D,{ cls:=.type "list",data:=.seq its.toArray k }) (YF _ (Yt _ Ye));exact ⟨this.1,this.2.1⟩
    cases b with
    | false=>rw [if_neg Yh] at q8 ⊢;obtain ⟨m',hm,w8⟩:=hN _ _ q8;obtain ⟨a1,a2,a3,a4⟩:=keepS I8;exact ⟨m',hm,i+1,ys,its,k,H8,fin (i':=i) (ys':=ys) (I8.pins_of fun p hp=>nomatch hp) a3 a4,rv,a1,a2,w8⟩
    | true=>
      rw [if_pos rfl] at q8 ⊢;refine qu (he C s H fp _ s8 σ7 H8 _ I8 q8) fun xv s9 zz=>?_;obtain ⟨v,H9,I9,r9,q9⟩:=zz;obtain ⟨m',hm,w9⟩:=hN _ _ q9;obtain ⟨a1,a2,a3,a4⟩:=keepS I9;have tL:=rv.length;refine wpAny_list_append_plain (hsz:=by simp;omega) ⟨k,a3⟩ fun h10 hl10 hs10=>?_;obtain ⟨k10,e10⟩:=hl10;have I9':Inv ‹"d"› [] σ7 H9 s9:=I9.pins_of fun p hp=>nomatch hp;have I10:Inv ‹"d"› [] σ7 H9 { s9 with heap:=h10,toks:=s9.toks }:=I9'.turned (it:=D) (fun b o hb e=>(hs10.2 b hb).trans e) a4 hDC (.inr (by show s.heap.objs.size<=D;rw [hD];exact Ym _)) nD (fun p hp=>nomatch hp);have e10':h10.get? D=some { cls:=.type "list",data:=.seq (its++[xv]).toArray k10 }:=by rw [e10,List.push_toArray]
      refine ⟨m',hm,i+1,ys++[v],its++[xv],k10,H9,fin (i':=i) (ys':=ys) I10 e10' a4,Paired.snoc rv r9,?_,a2,w9⟩;exact T.keep _ _ _ a1 fun b hb o e=>(hs10.2 b (Yp (hfl b hb))).trans e
 exact codeAny_compStart_list (loop _ rfl) (T.self _ 0 _ _ _ (T.keep 0 _ _ st0 fun b _ o e=>old b o e) (loop _ rfl))
theorem jq7 (hc:X.calm=true) (hkind:scope.kind=.function) (hnames:∀x∈scope.names,x.2=.local->scope.names.lookup x.1=some .local) (hcell:∀y∈scope.names,y.2=.cell->scope.names.lookup y.1=some .cell)
 (hfree:∀n,(n,NameKind.free)∈scope.names->X.env.scope.names.lookup n=some .cell\/X.env.scope.names.lookup n=some .free)
 (hix:ix.length=F.length) (hF:∀(j:Nat) (x:Str) (k:Nat),F[j]?=some x->ix[j]?=some k->X.N[k]?=some x/\(X.env.scope.names.lookup x=some .cell\/X.env.scope.names.lookup x=some .free)/\scope.names.lookup x=some .free)
 (hi:PI X tg iter wi) (hg:∀C s H fp,PG ‹"d"› tg g) (hloc:jhu Lc.length g) (ht:∀C s H fp,PTs ‹"d"› ifs tt) (he:∀C s H fp,PE ‹"d"› elt te)
 (hs:∀x,foldedSetIterable iter X.env x=pure x:=by intro _;rfl):PE X ‹"k"› (tLC wi g tt te Lc.length ix):=by
 intro tu s σ H Q I h;rw [eval_ListComp];refine wpAny_comprehension_free (use:=none) rfl hs (Z6 fun n hn=>I.ok.has n (hfree n hn)) hkind hnames (qu (hi tu s σ H _ I h) fun xv s₁ h₁=>qu h₁ fun itv s₂ h₂=>?_);obtain ⟨it,fp,tn,J,H2,rfl,I2,T,st2,f2,W,w0,turn⟩:=h₂;refine jfL (RR:=fun tI C=>compPost ‹"b"› X.A X.xe none (EP X tu σ Q) tI C) (Qv:=fun ys H'=>∀p,H' p=none->Q (.ref p) (upd H' p (.lst ys))) hc hkind hcell hfree hix hF hg hloc ht he I2 T st2 f2 W w0 turn ?_;intro D C H' s' ys m hDC hD hC nD nC hn I' q;refine ⟨m,hn,fun h' hsb=>⟨.ref D,upd H' D (.lst ys),?_,rfl,q D nD⟩⟩;refine I'.turned (it:=C) (t':=s'.toks) (fun b o hb e=>(hsb.2 b hb).trans e) (by rw [jz (Ne.symm hDC)];exact nC) (fun z=>?_) (.inr (YW I2.sz hC)) (fun x c e z=>?_) fun p hp z=>?_
 . exact absurd (Yl (by rw [z];exact I2.lt) hC) (YZ _)
 . obtain ⟨v,w⟩:=I2.cell x c e;exact absurd (Yl w.lt (by rw [z];exact hC)) (YZ _)
 . have:=Yr (I2.pin p hp).1;rw [z] at this;exact absurd (Yl this hC) (YZ _)
theorem jiX {i:Nat} {y:Str} {py spos:Pos} (hN:X.N.Nodup) (hy:X.N[i]?=some y) (hyl:X.env.scope.names.lookup y=some .local)
 (hc:X.calm=true) (hkind:scope.kind=.function) (hnames:∀x∈scope.names,x.2=.local->scope.names.lookup x.1=some .local) (hcell:∀y∈scope.names,y.2=.cell->scope.names.lookup y.1=some .cell)
 (hfree:∀n,(n,NameKind.free)∈scope.names->X.env.scope.names.lookup n=some .cell\/X.env.scope.names.lookup n=some .free)
 (hix:ix.length=F.length) (hF:∀(j:Nat) (x:Str) (k:Nat),F[j]?=some x->ix[j]?=some k->X.N[k]?=some x/\(X.env.scope.names.lookup x=some .cell\/X.env.scope.names.lookup x=some .free)/\scope.names.lookup x=some .free)
 (hi:PI X tg iter wi) (hg:∀C s H fp,PG ‹"d"› tg g) (hloc:jhu Lc.length g) (ht:∀C s H fp,PTs ‹"d"› ifs tt) (he:∀C s H fp,PE ‹"d"› elt te)
 (hsw:swapsWith ‹"k"› (some (.Name y py)) spos.line X.env=pure true)
 (hs:∀x,foldedSetIterable iter X.env x=pure x:=by intro _;rfl):PS X (.Assign [.Name y py] ‹"k"› spos) (jds (tLC wi g tt te Lc.length ix) (jaa i)):=by
 intro tu s σ H D₀ I h;rw [exec_Assign_Name_used _ _ _ _ hsw];refine Ya (wpAny_standAt (Ya ?_));show wpAny _ X.A (do let _ <- comprehension ‹"k"› scope X.env _ (newList []) false (eval iter X.env) (some (assign (.Name y py) X.env))) _ _ s;refine Ya (yk (wpAny_comprehension_free (use:=some (assign (.Name y py) X.env)) (Q:=fun _ s'=>SP X tu D₀ .next s') rfl hs (Z6 fun n hn=>I.ok.has n (hfree n hn)) hkind hnames
  (qu (hi tu s σ H _ I h) fun xv s₁ h₁=>qu h₁ fun itv s₂ h₂=>?_)) (fun _ s' hq=>Yi (Yi hq)) fun _ _ e=>e)
 obtain ⟨it,fp,tn,J,H2,rfl,I2,T,st2,f2,W,w0,turn⟩:=h₂;refine jfL (RR:=fun tI C=>compPost ‹"b"› X.A X.xe (some (assign (.Name y py) X.env)) (fun _ s'=>SP X tu D₀ .next s') tI C) (Qv:=fun ys H'=>∀p,H' p=none->D₀.nx (σ.set i (some (.ref p))) (upd H' p (.lst ys)))
  hc hkind hcell hfree hix hF hg hloc ht he I2 T st2 f2 W w0 turn ?_
 intro D C H' s' ys m hDC hD hC nD nC hn I' q;show wpAny _ X.A (assign (.Name y py) X.env (.ref D)) _ _ s';refine wpAny_assign_Name (jdW I' hN hy (.inl hyl) (v:=.ref D) rfl (fun s2 I2' zz=>?_) (.inr hyl));obtain ⟨a,hsb,ha⟩:=zz;have hCL:C≠X.env.locals:=fun z=>absurd (Yl (by rw [z];exact I2.lt) hC) (YZ _);have hCc:∀x c,X.env.cells.lookup x=some c->c≠C:=fun x c e z=>by obtain ⟨v,w⟩:=I2.cell x c e;exact absurd (Yl w.lt (by rw [z];exact hC)) (YZ _)
 have hCa:C≠a:=by
  rcases ha with z | z
  . rw [z];exact hCL
  . exact fun w=>hCc y a z w.symm
 refine ⟨m,hn.sameBut hsb hCa,fun h' hsb'=>⟨σ.set i (some (.ref D)),upd H' D (.lst ys),?_,q D nD⟩⟩;refine I2'.turned (it:=C) (t':=s2.toks) (fun b o hb e=>(hsb'.2 b hb).trans e) (by rw [jz (Ne.symm hDC)];exact nC) hCL (.inr (YW I2.sz hC)) hCc fun p hp z=>?_;have:=Yr (I2.pin p hp).1;rw [z] at this;exact absurd (Yl this hC) (YZ _)
end
end L2
namespace L2
open PySem PySem.Spec PyProof.Rows
section
variable {X:Cx}
def jhP (i j:Int):Prop:=0<j/\j<2 ^ 200
theorem jkQ:OpR X (binaryOp .FloorDiv) (rI jhP fun i j=>.int (i/j)):=opI fun i j _ _ _ _ _ hc q=>by
 have h1:(0:Int)<j:=hc.1;have h2:j<2 ^ 200:=hc.2;refine floordiv_int (by omega) (by rw [Int.fdiv_eq_ediv_of_nonneg i (by omega)];exact q) (.inl (PyProof.noPylong_of_log2 ?_));have h3:j.natAbs<2 ^ 200:=by omega
 have h4:j.natAbs≠0:=by omega
 have h5:=(Nat.log2_lt h4).mpr h3;omega
def IsT (K:PySem.W.Frag) (H:Hp) (x:V) (T:String) (b:Bool):Prop:=∃t,TyOf K H x t/\PySem.W.kitOne K t (.type T)=some b
theorem jf9:CallR X (.builtin "isinstance") (fun xs H Q=>∃x T b,xs=[x,.ty T] ∧ IsT X.K H x T b ∧ Q (.bl b) H):=by intro tu s σ H xs us Q I r h;obtain ⟨x,T,b,rfl,⟨t,ty,e⟩,q⟩:=h;obtain ⟨u,v,rfl,rx,ry⟩:=Vals.two r;have:v=Value.type T:=ry;subst this;exact jjn I rx ty e fun tk=>⟨.bl b,H,I.tok _,rfl,q⟩
theorem jkb (hc:X.calm=true):CallR X (.builtin "sum") (fun xs H Q=>∃(p:Addr) (ns:List Int),xs=[.ref p] ∧ Jf X.K H p (ns.map V.int) ∧ Q (.int ns.sum) H):=by
 intro tu s σ H xs us Q I r h;obtain ⟨p,ns,rfl,hq,q⟩:=h;obtain ⟨u,rfl,rx⟩:=Vals.one r;cases rx;obtain ⟨its,rv,pl,hz⟩:=I.list hq;have hi:IntsAre its ns:=QI rv;obtain ⟨ys,hx⟩:=hi.allInts.items;have hl':s.heap.IsList p (intItems ys):=hx ▸ pl.isList;refine sum_intListG (I.ok.hd hc) hl' fun h' tk t' hk=>?_;have e1:ns=ys.toList.map (·.1):=by rw [<-nums_intItems,<- hx];exact (show numsOf its.toArray.toList=ns from hi.numsOf).symm
 have e2:preSum (numAt ys) ys.size=ns.sum:=by rw [preSum_eq,K3 (by simp),e1]
 rw [e2];exact ⟨.int ns.sum,H,I.kept hk,⟨_,rfl⟩,q⟩
theorem jk7 (hc:X.calm=true):CallR X (.builtin "all") (fun xs H Q=>∃(p:Addr) (bs:List Bool),xs=[.ref p] ∧ Jf X.K H p (bs.map V.bl) ∧ Q (.bl (bs.all id)) H):=by
 intro tu s σ H xs us Q I r h;obtain ⟨p,bs,rfl,hq,q⟩:=h;obtain ⟨u,rfl,rx⟩:=Vals.one r;cases rx;obtain ⟨its,rv,pl,hz⟩:=I.list hq;have hl:=pl.isList;have hlt:p<s.heap.objs.size:=by obtain ⟨_,e,_⟩:=hl;exact Yr e
 have tL:its.length=bs.length:=by have:=rv.length;rw [Yd] at this;exact this.symm
 refine call_all_walk (wpAny_pyIter_list hl ?_);refine ⟨s.heap.objs.size,[s.heap.objs.size,p],[s.heap.objs.size],its.toArray.size,_,_,fun i=>(bs[i]?).getD true,rfl,Walks.list (A:=X.A.in1) (I.ok.hd hc) _ p (Yp hlt) its.toArray,
  ⟨⟨_,Ys _ rfl,rfl,rfl⟩,hl.push _⟩,fun i v s' Q' E' hP hQ=>?_,fun h' tk hk=>?_⟩
 . have hP':its[i]?=some v:=by simpa using hP
   cases e:bs[i]? with
   | none=>have:bs.length<=i:=Y0.mp e;have:its[i]?=none:=Y0.mpr (by omega);rw [this] at hP';cases hP'
   | some b=>obtain ⟨u,e1,e2⟩:=rv.get (i:=i) (x:=V.bl b) (by rw [List.getElem?_map,e];rfl);rw [hP'] at e1;cases e1;have:v=Value.bool b:=e2;subst this;simp only [e,ki] at hQ;exact yD hQ
 . have e:((List.range its.toArray.size).all fun i=>(bs[i]?).getD true)=bs.all id:=by rw [YA,tL];exact LSm.range_all bs
   rw [e];exact ⟨.bl (bs.all id),H,I.kept (LSm.kept_iter hk),rfl,q⟩
end
theorem jmZ {X:Cx} {x:Str} {i:Int} {t:Tok} {pos:Pos} (hg:Gl X x) (hm:X.mg x=some (.int i t)) (hd:‹"l"›=false:=by decide):PE X (.Name x pos) (tC (.int i)):=jmK hg hm ⟨t,rfl⟩ hd
theorem jqR {X:Cx} {x:Str} {T:String} {pos:Pos} (hg:Gl X x) (hm:X.mg x=none) (hv:bootBuiltins x=some (.type T)) (hn:x ≠ "__name__":=by decide) (hd:‹"l"›=false:=by decide):PE X (.Name x pos) (tC (.ty T)):=jmX hg hm hv rfl hn hd
section
variable {t u:TS} {te ta tb tc:TE} {nx bk ct:St->Hp->Prop} {rt:VK} {σ:St} {H:Hp} {i:Nat} {v:V} {Q:VK} {r r':R2} {c c':TT} {QB:Bool->Hp->Prop} {QA:List V->Hp->Prop} {A B:TA}
end
theorem Same.seqT {K:PySem.W.Frag} {H H':Hp} {a:Addr} {xs:List V} (e:Same H H') (h:SqT K H a xs):SqT K H' a xs:=by
 rcases h with (h | ⟨o,h⟩) | h
 . exact .inl (.inl (e _ _ h))
 . exact .inl (.inr ⟨o,e _ _ h⟩)
 . exact .inr h
theorem Same.upd {H:Hp} {p:Addr} {o:HO} (h:H p=none):Same H (upd H p o):=fun b u e=>by rw [jz (jD e h)];exact e
end L2
namespace L2
open PySem PySem.Spec PyProof.Rows
theorem HOk.grow {P:Program} {w:World} {H H':Hp} {h h':Heap} (x:HOk P w H h) (k:∀b u,h.get? b=some u->h'.get? b=some u) (same:∀b,@LT.lt Nat instLTNat b h.objs.size->H' b=H b)
 (new:∀b o,h.objs.size<=b->H' b=some o->ObjOk P w H' h' b o):HOk P w H' h':=fun b o e=>by
 rcases yh b h.objs.size with z | z
 . rw [same b z] at e;exact (x b o e).stay (fun c v _ q=>k c v q) (fun c q=>by rw [same c (x.lt q)];exact q) fun c xs q=>by rw [same c (x.lt q)];exact q
 . exact new b o z e
section
variable {X:Cx} {tu:List (Addr×Obj)} {σ:St} {H H':Hp} {s:Shared} {h':Heap}
theorem Inv.grow {t':Nat} {d':Drawn} (I:Inv X tu σ H s) (k:∀b u,s.heap.get? b=some u->h'.get? b=some u) (same:∀b,@LT.lt Nat instLTNat b s.heap.objs.size->H' b=H b)
 (new:∀b o,s.heap.objs.size<=b->H' b=some o->ObjOk X.prog X.w H' h' b o):Inv X tu σ H' { s with heap:=h',drawn:=d',toks:=t' }:=
 I.step (g':=s.gens) (d':=d') (ch:=[]) (fun _ z=>nomatch z) (fun b o _ _ _ e _=>k b o e) (fun b o _ _ _ e _=>⟨o.slots,k b o e⟩) (fun b o _ e n=>by rw [same b (Yr e)];exact n) (fun b o _ e=>⟨o,k b o e⟩)
  (fun b xs e=>by rw [same b (I.hok.lt e)];exact e) (fun b o u e=>by rw [same b (I.hok.lt e)];exact e) (fun b ps e=>⟨#[],by rw [same b (I.hok.lt e),e];simp⟩) (fun m hm=>hm.keeps k) (I.hok.grow k same new) I.bare
theorem Inv.turnNew {ch:List Addr} {t:Addr} {o:HO} {tk:Nat} (I:Inv X tu σ H s) (hf:∀b∈ch,jdb X tu H b) (k:∀b u,b∉ch->s.heap.get? b=some u->h'.get? b=some u) (ht:s.heap.objs.size<=t)
 (new:ObjOk X.prog X.w (upd H t o) h' t o):Inv X tu σ (upd H t o) { s with heap:=h',toks:=tk }:=by
 have hn:H t=none:=I.hok.fresh ht;have lt:∀b u,s.heap.get? b=some u->b≠t:=fun b u e=>Yp (Yl (Yr e) ht);have nch:∀b u,H b=some u->b∉ch:=fun b u e z=>by rw [(hf b z).1] at e;cases e
 refine I.step (g':=s.gens) (d':=s.drawn) (ch:=ch) ‹"aB"› (fun b u _ _ hc e _=>k b u hc e) (fun b u _ _ hc e _=>⟨u.slots,k b u hc e⟩)
  (fun b u _ e n=>by rw [jz (lt b u e)];exact n) (fun b u hc e=>⟨u,k b u hc e⟩) (fun b xs e=>by rw [jz (jD e hn)];exact e) (fun b u v e=>by rw [jz (jD e hn)];exact e) (fun b ps e=>⟨#[],by rw [jz (jD e hn),e];simp⟩)
  (fun m hm=>?_) (fun b u e=>?_) I.bare
 . obtain ⟨ol,es,ep,ho,r⟩:=hm;exact ⟨ol,es,ep,k _ ol (fun z=>(hf _ z).2.1 rfl) ho,r⟩
 . by_cases hb:b=t
   . subst hb;rw [jB] at e;cases e;exact new
   . rw [jz hb] at e;refine (I.hok b u e).stay (fun c v hc q=>k c v ?_ q) (fun c q=>by rw [jz (jD q hn)];exact q) fun c xs q=>by rw [jz (jD q hn)];exact q
     rcases hc with z | z
     . rw [z];exact nch b u e
     . exact nch c _ z
end
def Itz (K:PySem.W.Frag) (p q:Addr):It:=
 ⟨fun i H=>∃xs ys x y,Jf K H p xs/\Jf K H q ys/\xs[i]?=some x/\ys[i]?=some y,
  fun i H v H'=>∃t x y,H t=none/\v=.ref t/\H'=upd H t (.tup [x,y])/\(∀xs,Jf K H p xs->xs[i]?=some x)/\∀ys,Jf K H q ys->ys[i]?=some y,
  fun i H=>∃xs ys,Jf K H p xs/\Jf K H q ys/\(xs.length<=i\/ys.length<=i)⟩
theorem jcC {h:Heap} {T:Addr} {a b:Value} (e:IsPair h T a b):IsTup h T [a,b].toArray:=⟨_,e,rfl,0,rfl⟩
theorem jlv {P:Program} {w:World} {K:PySem.W.Frag} {elts:List Expr} {x1:Nat} {tpos:Pos} {z TI TO i1 i2 p q:Addr} (D:ZipApart z TI TO i1 i2 p q) :
 Turn P w K (.Tuple elts x1 tpos) (Itz K p q) [z,TI,TO,i1,i2] z (fun i h=>IsZip h z TI TO .none/\IsPair h TI (.ref i1) (.ref i2)/\(∃a b,IsPair h TO a b)/\h.IsListIter i1 p i/\h.IsListIter i2 q i) where
 mem:=by simp
 obj:=fun i h st b hb=>by
  obtain ⟨hz,hTI,⟨a,c,hTO⟩,⟨o1,e1,_,d1⟩,⟨o2,e2,_,d2⟩⟩:=st;simp only [Yk,Yw,KD] at hb;rcases hb with rfl | rfl | rfl | rfl | rfl
  . exact ⟨_,hz,fun v y=>nomatch y⟩
  . exact ⟨_,hTI,fun v y=>nomatch y⟩
  . exact ⟨_,hTO,fun v y=>nomatch y⟩
  . exact ⟨o1,e1,fun v y=>by rw [d1] at y;cases y⟩
  . exact ⟨o2,e2,fun v y=>by rw [d2] at y;cases y⟩
 keep:=fun i h h' st k=>by obtain ⟨hz,hTI,⟨a,c,hTO⟩,h1,h2⟩:=st;exact ⟨k _ (by simp) _ hz,k _ (by simp) _ hTI,⟨a,c,k _ (by simp) _ hTO⟩,h1.at fun o e=>k _ (by simp) o e,h2.at fun o e=>k _ (by simp) o e⟩
 item:=by
  intro X hP hw hK hc i tu s σ H E I hf st hg;subst hP hw hK;obtain ⟨xs,ys,x,y,hp,hq,hx,hy⟩:=hg;obtain ⟨its,rv,pl,_⟩:=I.list hp;obtain ⟨its2,rv2,pl2,_⟩:=I.list hq;obtain ⟨u,hu,ru⟩:=rv.get hx;obtain ⟨u2,hu2,ru2⟩:=rv2.get hy;obtain ⟨hz,hTI,⟨a,c,hTO⟩,h1,h2⟩:=st;refine wpAny_pyNext_zip_item D hz hTI hTO h1 h2 pl.isList pl2.isList (x:=u) (y:=u2) (by simpa using hu) (by simpa using hu2) fun h' r1 r2 r3 r4 r5 r6 r7=>?_;have kk:∀b o,b∉[z,TI,TO,i1,i2]->s.heap.get? b=some o->h'.get? b=some o:=fun b o hb e=>by simp only [Yk,Yw,KD,not_or] at hb;exact r7 b o hb.1 hb.2.2.1 hb.2.2.2.1 hb.2.2.2.2 e
  have I1:Inv X tu σ (upd H s.heap.objs.size (.tup [x,y])) { s with heap:=h',toks:=s.toks }:=I.turnNew hf kk (Ym _) ⟨by show 2<=sizeLine;decide,[u,u2],.cons ru (.cons ru2 .nil),jcC r5⟩;have hTI':IsPair h' TI (.ref i1) (.ref i2):=r7 _ _ D.TIz D.TITO D.TIi1 D.TIi2 hTI;have nt:∀b∈[z,TI,TO,i1,i2],b≠s.heap.objs.size:=fun b hb=>by
   simp only [Yk,Yw,KD] at hb;rcases hb with rfl | rfl | rfl | rfl | rfl
   . exact Yp (ltN hz)
   . exact Yp (ltN hTI)
   . exact Yp (ltN hTO)
   . obtain ⟨_,e,_⟩:=h1;exact Yp (ltN e)
   . obtain ⟨_,e,_⟩:=h2;exact Yp (ltN e)
  refine ⟨_,rfl,wpAny_letOwnedTupleGo_zip (s:={ s with heap:=h' }) r1 fun h'' z' sb=>?_⟩;obtain ⟨f0,f1,f2,f3,f4,f5⟩:=hf z (by simp);have hn:H s.heap.objs.size=none:=I.hok.fresh (Ym _);have I2:Inv X tu σ (upd H s.heap.objs.size (.tup [x,y])) { s with heap:=h'',toks:=s.toks }:=Inv.turned (s:={ s with heap:=h',toks:=s.toks }) (h':=h'') I1 (t':=s.toks) (it:=z) (fun b o hb e=>(sb.2 b hb).trans e) (by rw [jz (nt z (by simp))];exact f0) f1 f3 f4 f5;refine ⟨.ref s.heap.objs.size,_,I2,rfl,⟨_,x,y,hn,rfl,rfl,fun xs' h'=>by rw [I.list_inj h' hp];exact hx,fun ys' h'=>by rw [I.list_inj h' hq];exact hy⟩,⟨z',sb.extBut _ _ D.TIz hTI',⟨_,_,sb.extBut _ _ D.TOz r2⟩,r3.extBut sb.extBut D.i1z,r4.extBut sb.extBut D.i2z⟩,fun b hb=>?_⟩;rw [jz (nt b hb)];exact (hf b hb).1
 done:=by
  intro X hP hw hK hc i tu s σ H E I hf st hg;subst hP hw hK;obtain ⟨xs,ys,hp,hq,he⟩:=hg;obtain ⟨its,rv,pl,_⟩:=I.list hp;obtain ⟨its2,rv2,pl2,_⟩:=I.list hq;obtain ⟨hz,hTI,⟨a,c,hTO⟩,h1,h2⟩:=st;have l1:=rv.length;have l2:=rv2.length;refine wpAny_pyNext_zip_end (I.ok.hd hc) D hz hTI hTO h1 h2 pl.isList pl2.isList (by rcases he with e | e;exact .inl (by simp;omega);exact .inr (by simp;omega)) fun h' kk=>⟨rfl,?_⟩;have J:∀b o,b∉[z,TI,TO,i1,i2]->s.heap.get? b=some o->h'.get? b=some o:=fun b o hb e=>by simp only [Yk,Yw,KD,not_or] at hb;exact kk b o hb.1 hb.2.2.1 hb.2.2.2.1 hb.2.2.2.2 e
  have nch:∀b u,H b=some u->b∉[z,TI,TO,i1,i2]:=fun b u e y=>by rw [(hf b y).1] at e;cases e
  refine I.step (g':=s.gens) (d':=s.drawn) (t':=s.toks) (ch:=[z,TI,TO,i1,i2]) ‹"aB"› (fun b u _ _ hc e _=>J b u hc e) (fun b u _ _ hc e _=>⟨u.slots,J b u hc e⟩)
   (fun _ _ _ _ n=>n) (fun b u hc e=>⟨u,J b u hc e⟩) (fun _ _ e=>e) (fun _ _ _ e=>e) (fun b ps e=>⟨#[],by rw [e];simp⟩) (fun m hm=>?_) (fun b u e=>?_) I.bare
  . obtain ⟨ol,es,ep,ho,r⟩:=hm;exact ⟨ol,es,ep,J _ ol (fun y=>(hf _ y).2.1 rfl) ho,r⟩
  . refine (I.hok b u e).stay (fun c v hc q=>J c v ?_ q) (fun _ q=>q) fun _ _ q=>q;rcases hc with y | y
    . rw [y];exact nch b u e
    . exact nch c _ y
 self:=fun _ _ _ _ _ st h=>wpAny_pyIter_zip st.1 h
section
variable {X:Cx}
def joF (K:PySem.W.Frag) (ta:TA):TI:=fun σ H R=>ta σ H fun vs H1=>∃p q xs ys,vs=[.ref p,.ref q]/\Jf K H1 p xs/\Jf K H1 q ys/\R (Itz K p q) H1
theorem jo5 {a b:Expr} {ta:TA} {p pos:Pos} {elts:List Expr} {x1:Nat} {tpos:Pos} (hg:Gl X "zip") (hm:X.mg "zip"=none) (ha:PA X [a,b] ta) (hs:starEach [a,b] X.env=[(false,eval a X.env),(false,eval b X.env)]:=by rfl) (hs2:starEach [b] X.env=[(false,eval b X.env)]:=by rfl) :
 PI X (.Tuple elts x1 tpos) (.Call (.Name "zip" p) [a,b] [] pos) (joF X.K ta):=by
 intro tu s σ H R I h;refine Call_ (Js I hg hm boot_zip (Y3 (qu (ha pos tu s σ H _ I h) fun us s1 zz=>?_) (by rw [hs,hs2]) (by rw [hs2];rfl)));obtain ⟨vs,H1,I1,r1,q1⟩:=zz;obtain ⟨pa,pb,xs,ys,e,hp,hq,q⟩:=q1;subst e;obtain ⟨u,v,rfl,ru,rv⟩:=Vals.two r1;cases ru;cases rv;obtain ⟨its,rx,pl,_⟩:=I1.list hp;obtain ⟨its2,ry,pl2,_⟩:=I1.list hq;have lta:@LT.lt Nat instLTNat pa s1.heap.objs.size:=by obtain ⟨_,e,_⟩:=pl.isList;exact ltN e
 have ltb:@LT.lt Nat instLTNat pb s1.heap.objs.size:=by obtain ⟨_,e,_⟩:=pl2.isList;exact ltN e
 refine call_zip_2 pl.isList pl2.isList fun h' r1 r2 r3 r4 r5 r6 r7=>wpAny_pyIter_zip (s:={ s1 with heap:=h' }) r1 ?_;have I2:Inv X tu σ H1 { s1 with heap:=h',toks:=s1.toks }:=I1.kept (t':=s1.toks) r7;refine ⟨_,[s1.heap.objs.size+4,s1.heap.objs.size+2,s1.heap.objs.size+3,s1.heap.objs.size,s1.heap.objs.size+1],_,_,H1,rfl,I2,jlv (zipApart_new lta ltb),⟨r1,r2,⟨_,_,r3⟩,r4,r5⟩,fun b hb=>?_,q⟩;have ge:s1.heap.objs.size<=b:=by
  simp only [Yk,Yw,KD] at hb;rcases hb with rfl | rfl | rfl | rfl | rfl
  . exact yC _ 4
  . exact yC _ 2
  . exact yC _ 3
  . exact Ym _
  . exact yC _ 1
 exact I1.fpOk ge (I1.hok.fresh ge)
end
def Ite (K:PySem.W.Frag) (p:Addr):It:=
 ⟨fun i H=>∃xs x,Jf K H p xs/\xs[i]?=some x,
  fun i H v H'=>∃t x,H t=none/\v=.ref t/\H'=upd H t (.tup [.int i,x])/\∀xs,Jf K H p xs->xs[i]?=some x,
  fun i H=>∃xs,Jf K H p xs/\xs.length<=i⟩
theorem jjF {P:Program} {w:World} {K:PySem.W.Frag} {elts:List Expr} {x1:Nat} {tpos:Pos} {e it p:Addr} (hei:e≠it) :
 Turn P w K (.Tuple elts x1 tpos) (Ite K p) [e,it] e (fun i h=>(∃old,IsEnum h e it i old)/\h.IsListIter it p i) where
 mem:=by simp
 obj:=fun i h st b hb=>by
  obtain ⟨⟨old,he⟩,⟨o1,e1,_,d1⟩⟩:=st;simp only [Yk,Yw,KD] at hb;rcases hb with rfl | rfl
  . exact ⟨_,he,fun v y=>nomatch y⟩
  . exact ⟨o1,e1,fun v y=>by rw [d1] at y;cases y⟩
 keep:=fun i h h' st k=>by obtain ⟨⟨old,he⟩,h1⟩:=st;exact ⟨⟨old,k _ (by simp) _ he⟩,h1.at fun o e=>k _ (by simp) o e⟩
 item:=by
  intro X hP hw hK hc i tu s σ H E I hf st hg;subst hP hw hK;obtain ⟨xs,x,hp,hx⟩:=hg;obtain ⟨its,rv,pl,_⟩:=I.list hp;obtain ⟨u,hu,ru⟩:=rv.get hx;obtain ⟨⟨old,he⟩,h1⟩:=st;refine wpAny_pyNext_enum_item he h1 pl.isList (x:=u) (by simpa using hu) hei fun h' r1 r2 r3 r4 r5=>?_;have kk:∀b o,b∉[e,it]->s.heap.get? b=some o->h'.get? b=some o:=fun b o hb q=>by simp only [Yk,Yw,KD,not_or] at hb;exact r5 b o hb.1 hb.2 q
  have I1:Inv X tu σ (upd H s.heap.objs.size (.tup [.int i,x])) { s with heap:=h',toks:=s.toks+1 }:=I.turnNew hf kk (Ym _) ⟨by show 2<=sizeLine;decide,[.int i s.toks,u],.cons ⟨_,rfl⟩ (.cons ru .nil),⟨_,r3,rfl,0,rfl⟩⟩;have nt:∀b∈[e,it],b≠s.heap.objs.size:=fun b hb=>by
   simp only [Yk,Yw,KD] at hb;rcases hb with rfl | rfl
   . exact Yp (ltN he)
   . obtain ⟨_,q,_⟩:=h1;exact Yp (ltN q)
  refine ⟨_,rfl,wpAny_letOwnedTupleGo_enum (s:={ s with heap:=h',toks:=s.toks+1 }) r1 fun h'' z' sb=>?_⟩;obtain ⟨f0,f1,f2,f3,f4,f5⟩:=hf e (by simp);have hn:H s.heap.objs.size=none:=I.hok.fresh (Ym _);have I2:Inv X tu σ (upd H s.heap.objs.size (.tup [.int i,x])) { s with heap:=h'',toks:=s.toks+1 }:=Inv.turned (s:={ s with heap:=h',toks:=s.toks+1 }) (h':=h'') I1 (t':=s.toks+1) (it:=e) (fun b o hb q=>(sb.2 b hb).trans q) (by rw [jz (nt e (by simp))];exact f0) f1 f3 f4 f5;refine ⟨.ref s.heap.objs.size,_,I2,rfl,⟨_,x,hn,rfl,rfl,fun xs' h'=>by rw [I.list_inj h' hp];exact hx⟩,⟨⟨_,z'⟩,r2.extBut sb.extBut (Ne.symm hei)⟩,fun b hb=>?_⟩;rw [jz (nt b hb)];exact (hf b hb).1
 done:=by intro X hP hw hK hc i tu s σ H E I hf st hg;subst hP hw hK;obtain ⟨xs,hp,hle⟩:=hg;obtain ⟨its,rv,pl,_⟩:=I.list hp;obtain ⟨⟨old,he⟩,h1⟩:=st;have l1:=rv.length;obtain ⟨f0,f1,f2,f3,f4,f5⟩:=hf it (by simp);exact wpAny_pyNext_enum_end (I.ok.hd hc) he h1 pl.isList (by simp;omega) fun h' kk=>⟨rfl,I.turned (t':=s.toks) (it:=it) (fun b o hb q=>kk b o hb q) f0 f1 f3 f4 f5⟩
 self:=fun _ _ s _ _ st h=>by obtain ⟨⟨old,he⟩,_⟩:=st;have hT:s.TypeIs (.ref e) "enumerate":=⟨_,he,rfl⟩;refine wpAny_pyIter_slot hT yU (yB yU hT PySem.F.entry_enumerate_iter ?_ (PySem.F.args_enumerate_iter_1 _));show wpAny _ _ (ret (.ref e)) _ _ s;exact Yi ⟨_,rfl, "enumerate",_,hT,PySem.F.slot_enumerate_next.lookup,h⟩
section
variable {X:Cx}
def jkJ (K:PySem.W.Frag) (ta:TA):TI:=fun σ H R=>ta σ H fun vs H1=>∃p xs,vs=[.ref p]/\Jf K H1 p xs/\R (Ite K p) H1
theorem jnj {a:Expr} {ta:TA} {p pos:Pos} {elts:List Expr} {x1:Nat} {tpos:Pos} (hg:Gl X "enumerate") (hm:X.mg "enumerate"=none) (ha:PA X [a] ta) (hs:starEach [a] X.env=[(false,eval a X.env)]:=by rfl) :
 PI X (.Tuple elts x1 tpos) (.Call (.Name "enumerate" p) [a] [] pos) (jkJ X.K ta):=by
 intro tu s σ H R I h;refine Call_ (Js I hg hm boot_enumerate (Y3 (qu (ha pos tu s σ H _ I h) fun us s1 zz=>?_) hs rfl));obtain ⟨vs,H1,I1,r1,q1⟩:=zz;obtain ⟨pa,xs,e,hp,q⟩:=q1;subst e;obtain ⟨u,rfl,ru⟩:=Vals.one r1;cases ru;obtain ⟨its,rx,pl,_⟩:=I1.list hp;refine call_enumerate_list pl.isList fun h' r1 r2 r3 r4=>?_;have hT:Shared.TypeIs { s1 with heap:=h' } (.ref (s1.heap.objs.size+1)) "enumerate":=⟨_,r1,rfl⟩;refine wpAny_pyIter_slot hT yU (yB yU hT PySem.F.entry_enumerate_iter ?_ (PySem.F.args_enumerate_iter_1 _));show wpAny _ _ (ret (.ref (s1.heap.objs.size+1))) _ _ _;refine Yi ⟨_,rfl, "enumerate",_,hT,PySem.F.slot_enumerate_next.lookup,?_⟩;have I2:Inv X tu σ H1 { s1 with heap:=h',toks:=s1.toks }:=I1.kept (t':=s1.toks) r4;refine ⟨_,[s1.heap.objs.size+1,s1.heap.objs.size],_,_,H1,rfl,I2,jjF (ym (yK _)),⟨⟨_,r1⟩,r2⟩,fun b hb=>?_,q⟩;have ge:s1.heap.objs.size<=b:=by
  simp only [Yk,Yw,KD] at hb;rcases hb with rfl | rfl
  . exact yC _ 1
  . exact Ym _
 exact I1.fpOk ge (I1.hok.fresh ge)
def jcl (K:PySem.W.Frag) (ta:TA):TE:=fun σ H Q=>ta σ H fun vs H1=>∃p q xs ys,vs=[.ref p,.ref q]/\Jf K H1 p xs/\Jf K H1 q ys/\xs.length<sizeLine /\
 ∀(l:Addr) (ts:List Addr) (H':Hp),H1 l=none->(∀t∈ts,H1 t=none)->l∉ts->ts.Nodup->ts.length=min xs.length ys.length->(∀b,b≠l->b∉ts->H' b=H1 b)->H' l=some (.lst (ts.map V.ref))->
   (∀(i:Nat) t x y,ts[i]?=some t->xs[i]?=some x->ys[i]?=some y->H' t=some (.tup [x,y]))->Q (.ref l) H'
theorem jbg:∀ts:List Addr,Vals (ts.map V.ref) (ts.map Value.ref)
 | []=>.nil
 | _::ts=>.cons rfl (jbg ts)
theorem ja2 {ts:List Addr} {b:Addr} (h:b∈ts):ts.idxOf b<ts.length/\ts[ts.idxOf b]?=some b:=by have h1:=List.idxOf_lt_length_of_mem h;exact ⟨h1,by rw [Yb h1,List.getElem_idxOf h1]⟩
theorem jhy {a b:Expr} {ta:TA} {p1 p2 pos1 pos2:Pos} (hc:X.calm=true) (hg1:Gl X "list") (hm1:X.mg "list"=none) (hg2:Gl X "zip") (hm2:X.mg "zip"=none) (ha:PA X [a,b] ta)
 (hs:starEach [a,b] X.env=[(false,eval a X.env),(false,eval b X.env)]:=by rfl) (hs2:starEach [b] X.env=[(false,eval b X.env)]:=by rfl)
 (hs3:starEach [.Call (.Name "zip" p2) [a,b] [] pos2] X.env=[(false,eval (.Call (.Name "zip" p2) [a,b] [] pos2) X.env)]:=by rfl) :
 PE X (.Call (.Name "list" p1) [.Call (.Name "zip" p2) [a,b] [] pos2] [] pos1) (jcl X.K ta):=by
 intro tu s σ H Q I h;refine Call_ (Js I hg1 hm1 boot_list (Y3 ?_ hs3 rfl));rw [hs3];show wpAny _ _ (spliced ((false,eval (.Call (.Name "zip" p2) [a,b] [] pos2) X.env)::backTo pos1 [])) _ _ s;refine yA (Call_ (Js I hg2 hm2 boot_zip (Y3 (qu (ha pos2 tu s σ H _ I h) fun us s1 zz=>?_) (by rw [hs,hs2]) (by rw [hs2];rfl))));obtain ⟨vs,H1,I1,r1,q1⟩:=zz;obtain ⟨pa,pb,xs,ys,e,hp,hq,hxl,q⟩:=q1;subst e;obtain ⟨u,v,rfl,ru,rv⟩:=Vals.two r1;cases ru;cases rv;obtain ⟨its,rx,pl,hz1⟩:=I1.list hp;obtain ⟨its2,ry,pl2,hz2⟩:=I1.list hq;have lx:=rx.length;have ly:=ry.length;have lta:@LT.lt Nat instLTNat pa s1.heap.objs.size:=by obtain ⟨_,e,_⟩:=pl.isList;exact ltN e
 have ltb:@LT.lt Nat instLTNat pb s1.heap.objs.size:=by obtain ⟨_,e,_⟩:=pl2.isList;exact ltN e
 refine call_zip_2 pl.isList pl2.isList fun h' r1 r2 r3 r4 r5 r6 r7=>?_;refine yS ?_;refine jks (h₀:=s1.heap) (xs:=its.toArray) (ys:=its2.toArray) (I.ok.hd hc) (zipApart_new lta ltb) r1 r2 ⟨_,_,r3⟩ r4 r5 pl.isList pl2.isList r7 ⟨yC _ 4,yC _ 3,Ym _,yC _ 1⟩ (by show s1.heap.objs.size<=h'.objs.size;rw [r6];exact yC _ 5) (by simp;omega) fun S g tI c hS eS M=>?_
 -- the tuples' addresses
 have hmin:min its.toArray.size its2.toArray.size=min xs.length ys.length:=by simp;omega
 have hts:∃ts:List Addr,tI.toList=ts.map Value.ref:=by
  have:∀v∈tI.toList,∃t,v=Value.ref t:=fun v hv=>by
   obtain ⟨j,hj,e⟩:=yV hv;have hj':j<tI.size:=by simpa using hj
   obtain ⟨T,x,y,e1,_⟩:=M.pair j (by rw [<-M.size];exact hj');rw [YE hj'] at e1;exact ⟨T,by rw [<-e];simpa using Option.some.inj e1⟩
  generalize tI.toList=l at this;clear eS M;induction l with
  | nil=>exact ⟨[],rfl⟩
  | cons v l ih=>obtain ⟨t,rfl⟩:=this v Ye;obtain ⟨ts,e⟩:=ih fun x hx=>this x (Yf _ hx);exact ⟨t::ts,by rw [e];rfl⟩
 obtain ⟨ts,hts⟩:=hts;have tl:ts.length=min xs.length ys.length:=by have:=congrArg List.length hts;rw [Yd,YJ,M.size,hmin] at this;exact this.symm
 have at_:∀(j:Nat) (t:Addr),ts[j]?=some t->tI[j]?=some (.ref t):=fun j t e=>by rw [<-Y8,hts,List.getElem?_map,e];rfl
 have info:∀(j:Nat) (t:Addr),ts[j]?=some t->∃x y,its[j]?=some x/\its2[j]?=some y/\IsPair g t x y/\s1.heap.objs.size<=t/\t≠S/\∀k,k<j->tI[k]?≠some (.ref t):=fun j t e=>by
  have hj:j<ts.length:=(Yj.mp e).1;obtain ⟨T,x,y,e1,e2,e3,e4,e5,e6,_,e7⟩:=M.pair j (by rw [hmin,<- tl];exact hj);rw [at_ j t e] at e1;have:t=T:=by injection (Option.some.inj e1)
  subst this;exact ⟨x,y,by simpa using e2,by simpa using e3,e4,e5,e6,e7⟩
 have nd:ts.Nodup:=by rw [List.nodup_iff_pairwise_ne,Kf];intro i j hi hj hij e;obtain ⟨_,_,_,_,_,_,_,q7⟩:=info j ts[j] (Yb hj);exact q7 i hij (by rw [<-e];exact at_ i _ (Yb hi))
 have fresh:∀t∈ts,s1.heap.objs.size<=t/\t≠S:=fun t ht=>by obtain ⟨h1,h2⟩:=ja2 ht;obtain ⟨_,_,_,_,_,q5,q6,_⟩:=info _ t h2;exact ⟨q5,q6⟩
 let H':Hp:=fun b=>if b=S then some (.lst (ts.map V.ref)) else if b∈ts then some (.tup [(xs[ts.idxOf b]?).getD .non,(ys[ts.idxOf b]?).getD .non]) else H1 b
 have HS:H' S=some (.lst (ts.map V.ref)):=if_pos rfl;have HT:∀(i:Nat) t x y,ts[i]?=some t->xs[i]?=some x->ys[i]?=some y->H' t=some (.tup [x,y]):=fun i t x y e e1 e2=>by
  have hi:i<ts.length:=(Yj.mp e).1;have ht:t∈ts:=Yz e;have hix:ts.idxOf t=i:=by obtain ⟨h1,h2⟩:=ja2 ht;exact (KH (h₀:=h1) (h₁:=hi) nd).mp ((Yj.mp h2).2.trans (Yj.mp e).2.symm)
  show (if t=S then _ else if t∈ts then _ else _)=_;rw [if_neg (fresh t ht).2,if_pos ht,hix,e1,e2];rfl
 have HO':∀b,b≠S->b∉ts->H' b=H1 b:=fun b h1 h2=>by show (if b=S then _ else if b∈ts then _ else _)=_;rw [if_neg h1,if_neg h2]
 have I2:Inv X tu σ H' { s1 with heap:=g,drawn:=s1.drawn,toks:=s1.toks }:=by
  refine I1.grow M.keep (fun b hb=>HO' b (fun z=>?_) (fun z=>?_)) fun b o hb e=>?_
  . rw [z] at hb;exact K5.mpr hS hb
  . exact K5.mpr (fresh b z).1 hb
  . by_cases hbS:b=S
    . subst hbS;rw [HS] at e;cases e;refine ⟨by rw [Yd,tl];omega,tI.toList,c,?_,by simpa using eS⟩;rw [hts];exact jbg ts
    . by_cases hbt:b∈ts
      . obtain ⟨h1,h2⟩:=ja2 hbt;obtain ⟨x,y,e1,e2,e3,_⟩:=info _ b h2;have hxi:ts.idxOf b<xs.length:=by omega
        have hyi:ts.idxOf b<ys.length:=by omega
        rw [HT _ b _ _ h2 (Yb hxi) (Yb hyi)] at e;cases e;obtain ⟨u1,g1,g2⟩:=rx.get (Yb hxi);obtain ⟨u2,g3,g4⟩:=ry.get (Yb hyi);rw [e1] at g1;rw [e2] at g3;cases g1;cases g3;exact ⟨by show 2<=sizeLine;decide,[x,y],.cons g2 (.cons g4 .nil),jcC e3⟩
      . rw [HO' b hbS hbt] at e;exact absurd (I1.hok.lt e) (K5.mpr hb)
 have nS:H1 S=none:=I1.hok.fresh hS;exact ⟨.ref S,H',I2,rfl,q S ts H' nS (fun t ht=>I1.hok.fresh (fresh t ht).1) (fun z=>(fresh S z).2 rfl) nd tl HO' HS HT⟩
def jec (X:Cx) (a:Addr) (ns:List Int):HO:=.ext fun h=>L2S.Z3 X.prog X.w h a ns
theorem jiO {P:Program} {w:World} {a:Addr} {ns:List Int} {h1 h2:Heap} (r:L2S.Z3 P w h1 a ns) (k:∀o,h1.get? a=some o->h2.get? a=some o):L2S.Z3 P w h2 a ns:=by obtain ⟨o,es,ep,t,ho,q⟩:=r;exact ⟨o,es,ep,t,k o ho,q⟩
theorem jhk (hc:X.calm=true):CallR X (.type "set") (fun xs H Q=>∃(p:Addr) (ns:List Int),xs=[.ref p] ∧ Jf X.K H p (ns.map V.int) ∧ ns.length<64 ∧ ∀a,H a=none → Q (.ref a) (upd H a (jec X a ns))):=by intro tu s σ H xs us Q I r h;obtain ⟨p,ns,rfl,hq,hl,q⟩:=h;obtain ⟨u,rfl,rx⟩:=Vals.one r;cases rx;obtain ⟨its,rv,pl,hz⟩:=I.list hq;have hi:IntsAre its ns:=QI rv;refine L2S.jhA (I.ok.hd hc) pl.isList ‹"ab"› (by show ns.length+1<4096;omega) fun h' tk hS hk=>?_;refine ⟨.ref s.heap.objs.size,upd H s.heap.objs.size (jec X s.heap.objs.size ns),?_,rfl,q _ (I.hok.fresh (Ym _))⟩;refine I.laid hk (Ym _) ⟨hS,?_,fun h1 h2 r k=>jiO r k⟩;obtain ⟨o,es,ep,t,ho,_⟩:=hS;exact ⟨o,ho⟩
theorem jcA (hc:X.calm=true):CallR X (.builtin "sorted") (fun xs H Q=>∃(a:Addr) (ns:List Int),xs=[.ref a] ∧ H a=some (jec X a ns) ∧ ns.length<64 ∧
 ∀(l:Addr) (ks:List Int),H l=none->ks.Pairwise (· < ·)->(∀k,k∈ks ↔ k∈ns)->ks.length<=ns.length->Q (.ref l) (upd H l (.lst (ks.map V.int)))):=by
 intro tu s σ H xs us Q I r h;obtain ⟨a,ns,rfl,ha,hl,q⟩:=h;obtain ⟨u,rfl,rx⟩:=Vals.one r;cases rx;obtain ⟨hS,_,_⟩:=I.hok a _ ha;refine L2S.jgN (I.ok.hd hc) hS hl fun h' d tk l out c ks hk hle he hi hp hm hn=>?_;have nl:H l=none:=I.hok.fresh hle;refine ⟨.ref l,upd H l (.lst (ks.map V.int)),?_,rfl,q l ks nl hp hm hn⟩;refine I.grow hk (fun b hb=>jz (Yp (Yl hb hle))) fun b o hb e=>?_;by_cases hbl:b=l
 . subst hbl;rw [jB] at e;cases e;refine ⟨by rw [Yd];exact YW (by omega:ks.length<=64) (by decide),out.toList,c,jdR hi,by simpa using he⟩
 . rw [jz hbl] at e;exact absurd (I.hok.lt e) (K5.mpr hb)
end
end L2
namespace L2
open PySem PySem.Spec PyProof.Rows
section
variable {X:Cx}
theorem ji9 (hc:X.calm=true):CallR X (.builtin "min") (fun xs H Q=>∃(p:Addr) (ns:List Int),xs=[.ref p] ∧ Jf X.K H p (ns.map V.int) ∧ 0<ns.length ∧ ∀M,M∈ns → (∀a∈ns,M ≤ a) → Q (.int M) H):=by
 intro tu s σ H xs us Q I r h;obtain ⟨p,ns,rfl,hq,hne,q⟩:=h;obtain ⟨u,rfl,rx⟩:=Vals.one r;cases rx;obtain ⟨its,rv,pl,hz⟩:=I.list hq;have hi:IntsAre its ns:=QI rv;obtain ⟨ys,hx⟩:=hi.allInts.items;have hl':s.heap.IsList p (intItems ys):=hx ▸ pl.isList;have e1:ns=ys.toList.map (·.1):=by rw [<-nums_intItems,<- hx];exact (show numsOf its.toArray.toList=ns from hi.numsOf).symm
 have hsz:0<ys.size:=by rw [e1] at hne;simpa using hne
 refine min_intList (I.ok.hd hc) hl' hsz fun v h' tk hv hk=>?_;obtain ⟨t,rfl⟩:=intItems_at hv;obtain ⟨h1,h2⟩:=argBest_lt (numAt ys) (ys.size-1);refine ⟨.int _,H,I.kept hk,⟨t,rfl⟩,q _ ?_ fun a ha=>?_⟩
 . rw [numAt_eq,e1];exact getD_mem (by rw [Yd,YJ];omega)
 . rw [e1] at ha;obtain ⟨j,hj,rfl⟩:=mem_getD ha;rw [Yd,YJ] at hj;rw [<-numAt_eq];exact h2 j (by omega)
end
end L2
namespace L2
open PySem PySem.Spec PyProof.Rows
section
variable {K:PySem.W.Frag} {g:TG} {tt:TT} {te:TE} {σ0:St} {H:Hp} {Q:VK}
end
section
variable {K:PySem.W.Frag} {g:TG} {tb:TS} {D:Ends} {σ:St} {H:Hp}
end
end L2
namespace L2
open PySem PySem.Spec PyProof.Rows
def ins (k:Int):List Int->List Int
 | []=>[k]
 | x::l=>if k<x then k::x::l else if k=x then x::l else x::ins k l
def srt (l:List Int):List Int:=l.foldr ins []
theorem mem_ins {k j:Int}:∀{l:List Int},j∈ins k l ↔ j=k\/j∈l
 | []=>by simp [ins]
 | x::l=>by
   unfold ins;split
   . simp
   . split
     . rename_i h;subst h;simp
     . rw [Yk,mem_ins (l:=l),Yk];constructor
       . rintro (h | h | h) <;> simp [h]
       . rintro (h | h | h) <;> simp [h]
theorem jcj {k:Int}:∀{l:List Int},l.Pairwise (· < ·)->(ins k l).Pairwise (· < ·)
 | [],_=>by simp [ins]
 | x::l,h=>by
   have h':=YB.mp h;unfold ins;split
   . rename_i hk;exact YB.mpr ⟨fun y hy=>by
       rcases Yk.mp hy with rfl | hy
       . exact hk
       . exact kP hk (h'.1 y hy),h⟩
   . split
     . exact h
     . rename_i h1 h2;refine YB.mpr ⟨fun y hy=>?_,jcj h'.2⟩;rcases mem_ins.mp hy with rfl | hy
       . omega
       . exact h'.1 y hy
theorem je0 {j:Int}:∀{l:List Int},j∈srt l ↔ j∈l
 | []=>by simp [srt]
 | x::l=>by show j∈ins x (srt l) ↔ _;rw [mem_ins,je0 (l:=l),Yk]
theorem jao:∀{l:List Int},(srt l).Pairwise (· < ·)
 | []=>by simp [srt]
 | x::l=>jcj (jao (l:=l))
theorem jcV:∀{l m:List Int},l.Pairwise (· < ·)->m.Pairwise (· < ·)->(∀k,k∈l ↔ k∈m)->l=m
 | [],[],_,_,_=>rfl
 | [],y::m,_,_,h=>absurd ((h y).mpr Ye) (by simp)
 | x::l,[],_,_,h=>absurd ((h x).mp Ye) (by simp)
 | x::l,y::m,h1,h2,h=>by
   have p1:=YB.mp h1;have p2:=YB.mp h2;have e:x=y:=by
     rcases Yk.mp ((h x).mp Ye) with z | z
     . exact z
     . rcases Yk.mp ((h y).mpr Ye) with z' | z'
       . exact z'.symm
       . have:=p2.1 x z;have:=p1.1 y z';omega
   subst e;rw [jcV p1.2 p2.2 fun k=>⟨fun hk=>?_,fun hk=>?_⟩]
   . rcases Yk.mp ((h k).mp (Yf _ hk)) with z | z
     . have:=p1.1 k hk;omega
     . exact z
   . rcases Yk.mp ((h k).mpr (Yf _ hk)) with z | z
     . have:=p2.1 k hk;omega
     . exact z
structure Ship where
 b:Int
 e:Int
 n:Int
 m:Int
structure Ship.Ok (s:Ship):Prop where
 lt:s.b<s.e
 long:s.e-s.b<=300000000000000
 lo:-500000000000000<=s.b
 hi:s.b<=500000000000000
 m0:0<=s.m
 m1:s.m<=1000000000000000
 n0:0<=s.n
 n1:s.n<=s.m*(s.e-s.b)
def hrs (fl:List Ship):List Int:=fl.map (·.b)++fl.map (·.e)
def zA (fl:List Ship):List Int:=srt (hrs fl)
def jx (fl:List Ship):List (Int×Int):=(zA fl).zip (zA fl).tail
section
variable {K:PySem.W.Frag} {H H':Hp}
def ShipV (K:PySem.W.Frag) (H:Hp) (v:V) (s:Ship):Prop:=∃a,v=.ref a/\SqT K H a [.int s.b,.int s.e,.int s.n,.int s.m]
def SpanV (K:PySem.W.Frag) (H:Hp) (v:V) (p:Int×Int):Prop:=∃a,v=.ref a/\SqT K H a [.int p.1,.int p.2]
def FleetAt (K:PySem.W.Frag) (H:Hp) (a:Addr) (fl:List Ship):Prop:=∃vs,Jf K H a vs/\Paired (ShipV K H) vs fl
def SpansAt (K:PySem.W.Frag) (H:Hp) (a:Addr) (sp:List (Int×Int)):Prop:=∃vs,Jf K H a vs/\Paired (SpanV K H) vs sp
theorem ShipV.same {v:V} {s:Ship} (h:ShipV K H v s) (e:Same H H'):ShipV K H' v s:=let ⟨a,h1,h2⟩:=h;⟨a,h1,e.seqT h2⟩
theorem SpanV.same {v:V} {p:Int×Int} (h:SpanV K H v p) (e:Same H H'):SpanV K H' v p:=let ⟨a,h1,h2⟩:=h;⟨a,h1,e.seqT h2⟩
theorem FleetAt.same {a:Addr} {fl:List Ship} (h:FleetAt K H a fl) (e:Same H H'):FleetAt K H' a fl:=let ⟨vs,h1,h2⟩:=h;⟨vs,e.seq h1,Paired.mapP h2 fun _ _ q=>q.same e⟩
theorem SpansAt.same {a:Addr} {sp:List (Int×Int)} (h:SpansAt K H a sp) (e:Same H H'):SpansAt K H' a sp:=let ⟨vs,h1,h2⟩:=h;⟨vs,e.seq h1,Paired.mapP h2 fun _ _ q=>q.same e⟩
theorem Paired.get {α β:Type} {F:α->β->Prop} {xs:List α} {ys:List β} {i:Nat} {x:α} (h:Paired F xs ys) (e:xs[i]?=some x):∃y,ys[i]?=some y/\F x y:=by
 induction h generalizing i with
 | nil=>rw [Kz] at e;cases e
 | cons r _ ih=>
   cases i with
   | zero=>cases e;exact ⟨_,rfl,r⟩
   | succ i=>exact ih (i:=i) e
theorem Paired.of {α β:Type} {F:α->β->Prop}:∀{xs:List α} {ys:List β},xs.length=ys.length->(∀(i:Nat) x y,xs[i]?=some x->ys[i]?=some y->F x y)->Paired F xs ys
 | [],[],_,_=>.nil
 | x::xs,y::ys,hl,h=>.cons (h 0 x y rfl rfl) (Paired.of (by simpa using hl) fun i a b e1 e2=>h (i+1) a b (by simpa using e1) (by simpa using e2))
 | [],y::ys,hl,_=>by simp at hl
 | x::xs,[],hl,_=>by simp at hl
end
end L2
namespace L2
open PySem PySem.Spec PyProof.Rows
set_option genInjectivity true in
inductive D where
 | int (i:Int) | bl (b:Bool) | non | str (x:Str) | lst (l:List D) | tup (l:List D)
 /-- the script -/
 | scr (ns:List Int)
 /-- a dict: its keys, whole numbers, and what stands at each -/
 | dic (ks:List Int) (ds:List D)
theorem bind_some {α β:Type} {o:Option α} {f:α->Option β} {b:β} (h:o.bind f=some b):∃a,o=some a/\f a=some b:=by
 cases o with
 | none=>cases h
 | some a=>exact ⟨a,rfl,h⟩
theorem map_some {α β:Type} {o:Option α} {f:α->β} {b:β} (h:o.map f=some b):∃a,o=some a/\f a=b:=by
 cases o with
 | none=>cases h
 | some a=>exact ⟨a,rfl,Option.some.inj h⟩
theorem jmU {α β:Type} {f:α->β} {l:List α} {i:Int}:L2.atI (l.map f) i=(L2.atI l i).map f:=by
 unfold L2.atI;rw [Yd];cases ixN l.length i with
 | none=>rfl
 | some j=>simp
instance (i j:Int):Decidable (CMul i j):=inferInstanceAs (Decidable (_\/_))
def CMulB (i j:Int):Prop:=CMul i j\/(i.natAbs<2 ^ 400/\j.natAbs<2 ^ 400)
instance (i j:Int):Decidable (CMulB i j):=inferInstanceAs (Decidable (_\/_))
theorem CMulB.ok {i j:Int} (h:CMulB i j):IntMulOk i j:=by
 rcases h with h | ⟨h1,h2⟩
 . exact h.ok
 . exact IntMulOk.of_bits (YW (intBits_le h1) (by decide)) (YW (intBits_le h2) (by decide))
theorem jnF {X:Cx}:OpR X (binaryOp .Mult) (rI CMulB fun i j=>.int (i*j)):=opI fun _ _ _ _ _ _ _ hc q=>mul_int q hc.ok
class Fr where
 K:PySem.W.Frag
section
variable [Fr]
def zR:D->Bool
 | .lst _=>false
 | .tup _=>false
 | .scr _=>false
 | .dic _ _=>false
 | _=>true
def qF (ks:List Int) (vs:List V):List (zj×V):=(ks.map Sum.inl).zip vs
mutual
/-- the value v stands for the data d in the heap G -/
inductive Rep (G:Hp):V->D->Prop where
 | int (i:Int):Rep G (.int i) (.int i)
 | bl (b:Bool):Rep G (.bl b) (.bl b)
 | non:Rep G .non .non
 | str (x:Str):Rep G (.str x) (.str x)
 | lst {a:Addr} {vs:List V} {ds:List D} (h:Rd G a (.lst vs)) (r:Reps G vs ds):Rep G (.ref a) (.lst ds)
 | tup {a:Addr} {vs:List V} {ds:List D} (h:G a=some (.tup vs)) (r:Reps G vs ds):Rep G (.ref a) (.tup ds)
 | scr {a:Addr} {ns:List Int} (h:Jf Fr.K G a (ns.map V.int)):Rep G (.ref a) (.scr ns)
 | dic {a:Addr} {o:Obj} {ks:List Int} {vs:List V} {ds:List D} (h:G a=some (.frz o (.dK (qF ks vs)))) (hl:ks.length=vs.length) (r:Reps G vs ds):Rep G (.ref a) (.dic ks ds)
inductive Reps (G:Hp):List V->List D->Prop where
 | nil:Reps G [] []
 | cons {v:V} {d:D} {vs:List V} {ds:List D}:Rep G v d->Reps G vs ds->Reps G (v::vs) (d::ds)
end
theorem Rd.same {G H:Hp} {a:Addr} {u:HO} (e:Same G H) (h:Rd G a u):Rd H a u:=by
 rcases h with h | ⟨o,h⟩
 . exact .inl (e _ _ h)
 . exact .inr ⟨o,e _ _ h⟩
theorem Rep.mono {G G':Hp} (e:Same G G') {v:V} {d:D} (h:Rep G v d):Rep G' v d:=Rep.rec (motive_1:=fun v d _=>Rep G' v d) (motive_2:=fun vs ds _=>Reps G' vs ds) .int .bl .non .str (fun h _ i=>.lst (h.same e) i) (fun h _ i=>.tup (e _ _ h) i) (fun h=>.scr (e.seq h)) (fun h hl _ i=>.dic (e _ _ h) hl i) .nil (fun _ _ i j=>.cons i j) h
theorem Reps.ind {G:Hp} {P:List V->List D->Prop} (h0:P [] []) (h1:∀{v:V} {d:D} {vs:List V} {ds:List D},Rep G v d->Reps G vs ds->P vs ds->P (v::vs) (d::ds)) {vs:List V} {ds:List D} (h:Reps G vs ds):P vs ds:=Reps.rec (motive_1:=fun _ _ _=>True) (motive_2:=fun vs ds _=>P vs ds) (fun _=>trivial) (fun _=>trivial) trivial (fun _=>trivial) (fun _ _ _=>trivial) (fun _ _ _=>trivial) (fun _=>trivial) (fun _ _ _ _=>trivial) h0 (fun r t _ i=>h1 r t i) h
theorem Reps.mono {G G':Hp} (e:Same G G') {vs:List V} {ds:List D} (h:Reps G vs ds):Reps G' vs ds:=h.ind (P:=fun vs ds=>Reps G' vs ds) .nil fun r _ i=>.cons (r.mono e) i
theorem Rep.flat {G G':Hp} {v:V} {d:D} (h:Rep G v d) (f:zR d=true):Rep G' v d:=by
 cases h with
 | int i=>exact .int i
 | bl i=>exact .bl i
 | non=>exact .non
 | str i=>exact .str i
 | lst h r=>cases f
 | tup h r=>cases f
 | scr h=>cases f
 | dic h hl r=>cases f
section
variable {G G':Hp} {vs us:List V} {ds es:List D} {v:V} {d:D}
theorem Reps.length {vs:List V} {ds:List D} (h:Reps G vs ds):vs.length=ds.length:=h.ind (P:=fun vs ds=>vs.length=ds.length) rfl fun _ _ i=>congrArg (· + 1) i
theorem Reps.get {vs:List V} {ds:List D} {i:Nat} {d:D} (h:Reps G vs ds):ds[i]?=some d->∃v,vs[i]?=some v/\Rep G v d:=
 h.ind (P:=fun vs ds=>∀i d,ds[i]?=some d->∃v,vs[i]?=some v/\Rep G v d) (fun _ _ e=>by rw [Kz] at e;cases e) (fun r _ ih i _ e=>by
  cases i with
  | zero=>cases e;exact ⟨_,rfl,r⟩
  | succ i=>exact ih i _ e) i d
theorem Reps.getV {vs:List V} {ds:List D} {i:Nat} {v:V} (h:Reps G vs ds):vs[i]?=some v->∃d,ds[i]?=some d/\Rep G v d:=
 h.ind (P:=fun vs ds=>∀i v,vs[i]?=some v->∃d,ds[i]?=some d/\Rep G v d) (fun _ _ e=>by rw [Kz] at e;cases e) (fun r _ ih i _ e=>by
  cases i with
  | zero=>cases e;exact ⟨_,rfl,r⟩
  | succ i=>exact ih i _ e) i v
theorem Reps.append {vs us:List V} {ds es:List D} (h:Reps G vs ds) (s:Reps G us es):Reps G (vs++us) (ds++es):=h.ind (P:=fun vs ds=>Reps G (vs++us) (ds++es)) s fun r _ i=>.cons r i
theorem Reps.snoc (r:Reps G vs ds) (q:Rep G v d):Reps G (vs++[v]) (ds++[d]):=r.append (.cons q .nil)
theorem Reps.set (q:Rep G v d) {vs:List V} {ds:List D} (i:Nat) (h:Reps G vs ds):Reps G (vs.set i v) (ds.set i d):=
 h.ind (P:=fun vs ds=>∀i,Reps G (vs.set i v) (ds.set i d)) (fun _=>.nil) (fun r t ih i=>by
  cases i with
  | zero=>exact .cons q t
  | succ i=>exact .cons r (ih i)) i
theorem Reps.take {vs:List V} {ds:List D} (n:Nat) (h:Reps G vs ds):Reps G (vs.take n) (ds.take n):=
 h.ind (P:=fun vs ds=>∀n,Reps G (vs.take n) (ds.take n)) (fun n=>by cases n <;> exact .nil) (fun r t ih n=>by
  cases n with
  | zero=>exact .nil
  | succ n=>exact .cons r (ih n)) n
theorem Reps.drop {vs:List V} {ds:List D} (n:Nat) (h:Reps G vs ds):Reps G (vs.drop n) (ds.drop n):=
 h.ind (P:=fun vs ds=>∀n,Reps G (vs.drop n) (ds.drop n)) (fun n=>by cases n <;> exact .nil) (fun r t ih n=>by
  cases n with
  | zero=>exact .cons r t
  | succ n=>exact ih n) n
theorem Reps.reverse (h:Reps G vs ds):Reps G vs.reverse ds.reverse:=h.ind (P:=fun vs ds=>Reps G vs.reverse ds.reverse) .nil fun r _ i=>by rw [List.reverse_cons,List.reverse_cons];exact i.snoc r
theorem Reps.one_inv {vs:List V} {d:D} {ds:List D} (h:Reps G vs (d::ds)):∃v us,vs=v::us/\Rep G v d/\Reps G us ds:=by cases h with | cons r t=>exact ⟨_,_,rfl,r,t⟩
theorem Reps.ints {ns:List Int} {vs:List V} (h:Reps G vs (ns.map D.int)):vs=ns.map V.int:=by
 induction ns generalizing vs with
 | nil=>cases h;rfl
 | cons n ns ih=>obtain ⟨v,us,rfl,r,t⟩:=h.one_inv;cases r;rw [ih t];rfl
theorem Reps.of_ints:∀(ns:List Int),Reps G (ns.map V.int) (ns.map D.int)
 | []=>.nil
 | n::ns=>.cons (.int n) (Reps.of_ints ns)
theorem Reps.bls {ns:List Bool} {vs:List V} (h:Reps G vs (ns.map D.bl)):vs=ns.map V.bl:=by
 induction ns generalizing vs with
 | nil=>cases h;rfl
 | cons n ns ih=>obtain ⟨v,us,rfl,r,t⟩:=h.one_inv;cases r;rw [ih t];rfl
end
inductive RepT (G H:Hp):V->D->Prop where
 | int (i:Int):RepT G H (.int i) (.int i)
 | bl (b:Bool):RepT G H (.bl b) (.bl b)
 | non:RepT G H .non .non
 | str (x:Str):RepT G H (.str x) (.str x)
 | lst {a:Addr} {vs:List V} {ds:List D} (h:Rd H a (.lst vs)) (r:Reps G vs ds):RepT G H (.ref a) (.lst ds)
 | tup {a:Addr} {vs:List V} {ds:List D} (h:H a=some (.tup vs)) (r:Reps G vs ds):RepT G H (.ref a) (.tup ds)
 | scr {a:Addr} {ns:List Int} (h:Jf Fr.K H a (ns.map V.int)):RepT G H (.ref a) (.scr ns)
 | dic {a:Addr} {ks:List Int} {vs:List V} {ds:List D} (h:Rd H a (.dK (qF ks vs))) (hl:ks.length=vs.length) (r:Reps G vs ds):RepT G H (.ref a) (.dic ks ds)
inductive RepTs (G H:Hp):List V->List D->Prop where
 | nil:RepTs G H [] []
 | cons {v:V} {d:D} {vs:List V} {ds:List D}:RepT G H v d->RepTs G H vs ds->RepTs G H (v::vs) (d::ds)
theorem Rep.top {G H:Hp} {v:V} {d:D} (h:Rep G v d) (e:Same G H):RepT G H v d:=by
 cases h with
 | int i=>exact .int i
 | bl i=>exact .bl i
 | non=>exact .non
 | str i=>exact .str i
 | lst h r=>exact .lst (h.same e) r
 | tup h r=>exact .tup (e _ _ h) r
 | scr h=>exact .scr (e.seq h)
 | dic h hl r=>exact .dic (.inr ⟨_,e _ _ h⟩) hl r
theorem RepT.of_int {G H:Hp} {v:V} {i:Int} (h:RepT G H v (.int i)):v=.int i:=by cases h;rfl
theorem RepT.of_bl {G H:Hp} {v:V} {i:Bool} (h:RepT G H v (.bl i)):v=.bl i:=by cases h;rfl
theorem RepT.of_non {G H:Hp} {v:V} (h:RepT G H v .non):v=.non:=by cases h;rfl
theorem RepT.of_str {G H:Hp} {v:V} {i:Str} (h:RepT G H v (.str i)):v=.str i:=by cases h;rfl
theorem RepT.of_lst {G H:Hp} {v:V} {ds:List D} (h:RepT G H v (.lst ds)):∃a vs,v=.ref a/\Rd H a (.lst vs)/\Reps G vs ds:=by cases h;exact ⟨_,_,rfl,by assumption,by assumption⟩
theorem RepT.of_tup {G H:Hp} {v:V} {ds:List D} (h:RepT G H v (.tup ds)):∃a vs,v=.ref a/\H a=some (.tup vs)/\Reps G vs ds:=by cases h;exact ⟨_,_,rfl,by assumption,by assumption⟩
theorem RepT.of_scr {G H:Hp} {v:V} {ns:List Int} (h:RepT G H v (.scr ns)):∃a,v=.ref a/\Jf Fr.K H a (ns.map V.int):=by cases h;exact ⟨_,rfl,by assumption⟩
theorem RepT.of_dic {G H:Hp} {v:V} {ks:List Int} {ds:List D} (h:RepT G H v (.dic ks ds)):∃a vs,v=.ref a/\Rd H a (.dK (qF ks vs))/\ks.length=vs.length/\Reps G vs ds:=by cases h;exact ⟨_,_,rfl,by assumption,by assumption,by assumption⟩
theorem Rep.tt {G:Hp} {v:V} {d:D} (h:Rep G v d):RepT G G v d:=h.top fun _ _ e=>e
theorem Rep.of_int {G:Hp} {v:V} {i:Int} (h:Rep G v (.int i)):v=.int i:=h.tt.of_int
theorem Rep.of_bl {G:Hp} {v:V} {i:Bool} (h:Rep G v (.bl i)):v=.bl i:=h.tt.of_bl
theorem Rep.of_lst {G:Hp} {v:V} {ds:List D} (h:Rep G v (.lst ds)):∃a vs,v=.ref a/\Rd G a (.lst vs)/\Reps G vs ds:=h.tt.of_lst
theorem Rep.of_tup {G:Hp} {v:V} {ds:List D} (h:Rep G v (.tup ds)):∃a vs,v=.ref a/\G a=some (.tup vs)/\Reps G vs ds:=h.tt.of_tup
theorem RepT.mono {G H G' H':Hp} {v:V} {d:D} (h:RepT G H v d) (e:Same G G') (e':Same H H'):RepT G' H' v d:=by
 cases h with
 | int i=>exact .int i
 | bl i=>exact .bl i
 | non=>exact .non
 | str i=>exact .str i
 | lst h r=>exact .lst (h.same e') (r.mono e)
 | tup h r=>exact .tup (e' _ _ h) (r.mono e)
 | scr h=>exact .scr (e'.seq h)
 | dic h hl r=>exact .dic (h.same e') hl (r.mono e)
theorem RepTs.mono {G H G' H':Hp} (e:Same G G') (e':Same H H') {vs:List V} {ds:List D} (h:RepTs G H vs ds):RepTs G' H' vs ds:=by
 induction h with
 | nil=>exact .nil
 | cons r _ ih=>exact .cons (r.mono e e') ih
structure Ext (G H G' H':Hp):Prop where
 hh:Same H H'
 gg:Same G G'
 gh:Same G' H'
 nw:∀a o,G' a=some o->G a=some o\/H a=none
section
variable {G H G' H' G'' H'':Hp} {a:Addr} {o:HO}
theorem Ext.refl (h:Same G H):Ext G H G H:=⟨.refl _,.refl _,h,fun _ _ e=>.inl e⟩
theorem Ext.trans (x:Ext G H G' H') (y:Ext G' H' G'' H''):Ext G H G'' H'':=
 ⟨x.hh.trans y.hh,x.gg.trans y.gg,y.gh,fun a o e=>by
  rcases y.nw a o e with z | z
  . exact x.nw a o z
  . exact .inr (x.hh.free z)⟩
theorem Ext.new (h:Same G H) (hn:H a=none):Ext G H G (upd H a o):=⟨.upd hn,.refl _,fun b u e=>by rw [jz (jD (h b u e) hn)];exact h b u e,fun _ _ e=>.inl e⟩
theorem Ext.freeze (x:Ext G H G' H') (hn:H a=none) (hg:G' a=none) (ho:H' a=some o):Ext G H (upd G' a o) H':=
 ⟨x.hh,x.gg.trans (.upd hg),fun b u e=>by
  by_cases hb:b=a
  . subst hb;rw [jB] at e;cases e;exact ho
  . rw [jz hb] at e;exact x.gh b u e,fun b u e=>by
  by_cases hb:b=a
  . subst hb;exact .inr hn
  . rw [jz hb] at e;exact x.nw b u e⟩
theorem Ext.gone (x:Ext G H G' H') (hg:G a=none) (hh:H a=some o):G' a=none:=by
 cases e:G' a with
 | none=>rfl
 | some u=>
   rcases x.nw a u e with z | z
   . rw [hg] at z;cases z
   . rw [hh] at z;cases z
end
inductive Slot where
 | un | sh (d:D) | ow (ds:List D)
 /-- a dict of one's own -/
 | od (ks:List Int) (ds:List D)
 /-- a list of one's own, of lists of one's own -/
 | oo (dss:List (List D))
abbrev Env:=List Slot
abbrev ef:=L2.Env
inductive Rows (G H:Hp):List Addr->List (List D)->Prop where
 | nil:Rows G H [] []
 | cons {b:Addr} {us:List V} {ds:List D} {bs:List Addr} {dss:List (List D)} (h:H b=some (.lst us)) (r:Reps G us ds) (t:Rows G H bs dss):Rows G H (b::bs) (ds::dss)
def Qm (H:Hp):Option V->Slot->Addr->Prop
 | some (.ref a),.ow _,b=>b=a
 | some (.ref a),.od _ _,b=>b=a
 | some (.ref a),.oo _,b=>b=a\/∃vs,H a=some (.lst vs)/\V.ref b∈vs
 | _,_,_=>False
inductive SlotOk (H0 G H:Hp):Option V->Slot->Prop where
 | un (o:Option V):SlotOk H0 G H o .un
 | sh {v:V} {d:D} (r:Rep G v d):SlotOk H0 G H (some v) (.sh d)
 | ow {a:Addr} {vs:List V} {ds:List D} (h0:H0 a=none) (hg:G a=none) (h:H a=some (.lst vs)) (r:Reps G vs ds):SlotOk H0 G H (some (.ref a)) (.ow ds)
 | od {a:Addr} {ks:List Int} {vs:List V} {ds:List D} (h0:H0 a=none) (hg:G a=none) (h:H a=some (.dK (qF ks vs))) (hl:ks.length=vs.length) (r:Reps G vs ds):SlotOk H0 G H (some (.ref a)) (.od ks ds)
 | oo {a:Addr} {bs:List Addr} {dss:List (List D)} (h:H a=some (.lst (bs.map V.ref))) (nd:(a::bs).Nodup) (own:∀b∈a::bs,H0 b=none/\G b=none) (rows:Rows G H bs dss):SlotOk H0 G H (some (.ref a)) (.oo dss)
structure EnvOk (G0 H0 G H:Hp) (σ:St) (ρ:ef):Prop where
 ext:Ext G0 H0 G H
 len:σ.length=ρ.length
 slot:∀(i:Nat) o s,σ[i]?=some o->ρ[i]?=some s->SlotOk H0 G H o s
 dist:∀(i j:Nat) o o' s s' b,σ[i]?=some o->ρ[i]?=some s->σ[j]?=some o'->ρ[j]?=some s'->Qm H o s b->Qm H o' s' b->i=j
section
variable {G0 H0 G H G' H':Hp} {σ:St} {ρ:ef} {i:Nat} {d:D} {ds:List D} {v:V} {vs:List V} {a:Addr}
theorem Rows.there {bs:List Addr} {dss:List (List D)} (h:Rows G H bs dss):∀b∈bs,∃us,H b=some (.lst us):=by
 induction h with
 | nil=>intro b hb;cases hb
 | cons h r t ih=>
   intro b hb;rcases Yk.mp hb with rfl | hb
   . exact ⟨_,h⟩
   . exact ih b hb
theorem Rows.keep {bs:List Addr} {dss:List (List D)} (h:Rows G H bs dss) (gg:Same G G') (k:∀b∈bs,H' b=H b):Rows G' H' bs dss:=by
 induction h with
 | nil=>exact .nil
 | cons h r t ih=>exact .cons (by rw [k _ Ye];exact h) (r.mono gg) (ih fun b hb=>k b (Yf _ hb))
theorem Rows.length {bs:List Addr} {dss:List (List D)} (h:Rows G H bs dss):bs.length=dss.length:=by
 induction h with
 | nil=>rfl
 | cons h r t ih=>simp [ih]
theorem Rows.get {bs:List Addr} {dss:List (List D)} (h:Rows G H bs dss):∀{j:Nat} {ds:List D},dss[j]?=some ds->∃b us,bs[j]?=some b/\H b=some (.lst us)/\Reps G us ds:=by
 induction h with
 | nil=>intro j ds e;simp at e
 | cons h r t ih=>
   intro j ds e;cases j with
   | zero=>simp at e;subst e;exact ⟨_,_,rfl,h,r⟩
   | succ j=>obtain ⟨b,us,h1,h2,h3⟩:=ih (j:=j) (ds:=ds) (by simpa using e);exact ⟨b,us,by simpa using h1,h2,h3⟩
theorem Rows.put {bs:List Addr} {dss:List (List D)} {us:List V} (h:Rows G H bs dss) (r:Reps G us ds):∀{j:Nat} {b:Addr},bs.Nodup->bs[j]?=some b->Rows G (upd H b (.lst us)) bs (dss.set j ds):=by
 induction h with
 | nil=>intro j b _ e;simp at e
 | @cons c us' ds' bs dss h q t ih=>
   intro j b nd e;have nd':=Y9.mp nd;cases j with
   | zero=>simp at e;subst e;exact .cons jB r (t.keep (.refl _) fun b' hb'=>jz fun z=>nd'.1 (z ▸ hb'))
   | succ j=>
     have e':bs[j]?=some b:=by simpa using e
     have hb:c≠b:=fun z=>nd'.1 (z ▸ Yz e');exact .cons (by rw [jz hb];exact h) q (ih nd'.2 e')
theorem Rows.frozen {bs:List Addr} {dss:List (List D)} (h:Rows G H bs dss) (gg:Same G G') (k:∀b∈bs,G' b=H b):Reps G' (bs.map V.ref) (dss.map D.lst):=by
 induction h with
 | nil=>exact .nil
 | cons h r t ih=>exact .cons (.lst (.inl ((k _ Ye).trans h)) (r.mono gg)) (ih fun b hb=>k b (Yf _ hb))
theorem EnvOk.same (e:EnvOk G0 H0 G H σ ρ):Same G H:=e.ext.gh
theorem SlotOk.foot {o:Option V} {s:Slot} {b:Addr} (h:SlotOk H0 G H o s) (f:Qm H o s b):H0 b=none/\G b=none/\∃u,H b=some u:=by
 cases h with
 | un=>cases o with | none=>exact f.elim | some v=>cases v <;> exact f.elim
 | @sh v d r=>cases v <;> exact f.elim
 | ow h0 hg h r=>cases (show b=_ from f);exact ⟨h0,hg,_,h⟩
 | od h0 hg h hl r=>cases (show b=_ from f);exact ⟨h0,hg,_,h⟩
 | @oo a bs dss h nd own rows=>
   have f':b=a\/∃vs,H a=some (.lst vs)/\V.ref b∈vs:=f;rcases f' with rfl | ⟨vs,q,hb⟩
   . exact ⟨(own b Ye).1,(own b Ye).2,_,h⟩
   . rw [h] at q;cases q;obtain ⟨c,hc,e⟩:=YX.mp hb;injection e with e;subst e;obtain ⟨us,hu⟩:=rows.there c hc;exact ⟨(own c (Yf _ hc)).1,(own c (Yf _ hc)).2,_,hu⟩
theorem JE {bs:List Addr} {dss:List (List D)} {b:Addr} (h:H a=some (.lst (bs.map V.ref))):Qm H (some (.ref a)) (.oo dss) b ↔ b∈a::bs:=by
 show (b=a\/∃vs,H a=some (.lst vs)/\V.ref b∈vs) ↔ _;rw [Yk];constructor
 . rintro (z | ⟨vs,q,hb⟩)
   . exact .inl z
   . rw [h] at q;cases q;obtain ⟨c,hc,e⟩:=YX.mp hb;injection e with e;subst e;exact .inr hc
 . rintro (z | z)
   . exact .inl z
   . exact .inr ⟨_,h,yv z⟩
theorem SlotOk.keep {o:Option V} {s:Slot} (h:SlotOk H0 G H o s) (gg:Same G G') (k:∀b,Qm H o s b->H' b=H b/\G' b=none):SlotOk H0 G' H' o s/\∀b,Qm H' o s b->Qm H o s b:=by
 cases h with
 | un=>exact ⟨.un _,fun b f=>by cases o with | none=>exact f.elim | some v=>cases v <;> exact f.elim⟩
 | @sh v d r=>exact ⟨.sh (r.mono gg),fun b f=>by cases v <;> exact f.elim⟩
 | @ow a vs ds h0 hg h r=>have q:=k a rfl;exact ⟨.ow h0 q.2 (by rw [q.1];exact h) (r.mono gg),fun b f=>f⟩
 | @od a ks vs ds h0 hg h hl r=>have q:=k a rfl;exact ⟨.od h0 q.2 (by rw [q.1];exact h) hl (r.mono gg),fun b f=>f⟩
 | @oo a bs dss h nd own rows=>
   have h':H' a=some (.lst (bs.map V.ref)):=by rw [(k a (.inl rfl)).1];exact h
   refine ⟨.oo h' nd (fun b hb=>⟨(own b hb).1,(k b ((JE h).mpr hb)).2⟩) (rows.keep gg fun b hb=>(k b ((JE h).mpr (Yf _ hb))).1),fun b f=>?_⟩;exact (JE h).mpr ((JE h').mp f)
theorem EnvOk.grow (e:EnvOk G0 H0 G H σ ρ) (x:Ext G H G' H'):EnvOk G0 H0 G' H' σ ρ:=by
 have key:∀(i:Nat) o s,σ[i]?=some o->ρ[i]?=some s->_:=fun i o s h1 h2=>(e.slot i o s h1 h2).keep (H':=H') x.gg fun b f=>by obtain ⟨_,g,u,hu⟩:=(e.slot i o s h1 h2).foot f;exact ⟨by rw [hu];exact x.hh _ _ hu,x.gone g hu⟩
 exact ⟨e.ext.trans x,e.len,fun i o s h1 h2=>(key i o s h1 h2).1,fun i j o o' s s' b h1 h2 h3 h4 f f'=>e.dist i j o o' s s' b h1 h2 h3 h4 ((key i o s h1 h2).2 b f) ((key j o' s' h3 h4).2 b f')⟩
theorem EnvOk.at {s:Slot} (e:EnvOk G0 H0 G H σ ρ) (h:ρ[i]?=some s):∃o,σ[i]?=some o/\SlotOk H0 G H o s:=by
 have hi:i<σ.length:=by rw [e.len];exact (Yj.mp h).1
 exact ⟨σ[i],Yb hi,e.slot i _ _ (Yb hi) h⟩
theorem EnvOk.sh (e:EnvOk G0 H0 G H σ ρ) (h:ρ[i]?=some (.sh d)):∃v,σ[i]?=some (some v)/\Rep G v d:=by
 obtain ⟨o,h1,h2⟩:=e.at h;cases h2 with
 | sh r=>exact ⟨_,h1,r⟩
theorem EnvOk.ow (e:EnvOk G0 H0 G H σ ρ) (h:ρ[i]?=some (.ow ds)):∃a vs,σ[i]?=some (some (.ref a))/\H0 a=none/\G a=none/\H a=some (.lst vs)/\Reps G vs ds:=by
 obtain ⟨o,h1,h2⟩:=e.at h;cases h2 with
 | ow h0 hg h r=>exact ⟨_,_,h1,h0,hg,h,r⟩
theorem EnvOk.od {ks:List Int} (e:EnvOk G0 H0 G H σ ρ) (h:ρ[i]?=some (.od ks ds)):∃a vs,σ[i]?=some (some (.ref a))/\H0 a=none/\G a=none/\H a=some (.dK (qF ks vs))/\ks.length=vs.length/\Reps G vs ds:=by
 obtain ⟨o,h1,h2⟩:=e.at h;cases h2 with
 | od h0 hg h hl r=>exact ⟨_,_,h1,h0,hg,h,hl,r⟩
theorem EnvOk.oo {dss:List (List D)} (e:EnvOk G0 H0 G H σ ρ) (h:ρ[i]?=some (.oo dss)):∃a bs,σ[i]?=some (some (.ref a))/\H a=some (.lst (bs.map V.ref))/\(a::bs).Nodup/\(∀b∈a::bs,H0 b=none/\G b=none)/\Rows G H bs dss:=by
 obtain ⟨o,h1,h2⟩:=e.at h;cases h2 with
 | oo h nd own rows=>exact ⟨_,_,h1,h,nd,own,rows⟩
theorem EnvOk.change {o':Option V} {s':Slot} (e:EnvOk G0 H0 G H σ ρ) (x:Ext G0 H0 G' H') (gg:Same G G')
 (keep:∀j,j≠i->∀o s,σ[j]?=some o->ρ[j]?=some s->∀b,Qm H o s b->H' b=H b/\G' b=none) (new:SlotOk H0 G' H' o' s')
 (foot:∀b,Qm H' o' s' b->H b=none\/∃o s,σ[i]?=some o/\ρ[i]?=some s/\Qm H o s b):EnvOk G0 H0 G' H' (σ.set i o') (ρ.set i s'):=by
 have key:∀(j:Nat) o s,j≠i->σ[j]?=some o->ρ[j]?=some s->_:=fun j o s hj h1 h2=>(e.slot j o s h1 h2).keep (H':=H') gg (keep j hj o s h1 h2);have at_i:∀o s,(σ.set i o')[i]?=some o->(ρ.set i s')[i]?=some s->o=o'/\s=s':=fun o s h1 h2=>by rw [List.getElem?_set] at h1 h2;simp at h1 h2;exact ⟨h1.2.symm,h2.2.symm⟩
 refine ⟨x,by simp [e.len],fun j o s h1 h2=>?_,fun j k o p s t b h1 h2 h3 h4 f g=>?_⟩
 . by_cases hj:i=j
   . subst hj;obtain ⟨rfl,rfl⟩:=at_i o s h1 h2;exact new
   . rw [YY hj] at h1 h2;exact (key j o s (Ne.symm hj) h1 h2).1
 . have other:∀(m:Nat) q u,i≠m->(σ.set i o')[m]?=some q->(ρ.set i s')[m]?=some u->Qm H' q u b->Qm H' o' s' b->False:=fun m q u hm g1 g2 f1 f2=>by
    rw [YY hm] at g1 g2;have f1':=(key m q u (Ne.symm hm) g1 g2).2 b f1;obtain ⟨_,_,w,hw⟩:=(e.slot m q u g1 g2).foot f1';rcases foot b f2 with z | ⟨o2,s2,z1,z2,z3⟩
    . rw [hw] at z;cases z
    . exact hm (e.dist i m _ _ _ _ b z1 z2 g1 g2 z3 f1')
   by_cases hj:i=j
   . by_cases hk:i=k
     . exact hj.symm.trans hk
     . subst hj;obtain ⟨rfl,rfl⟩:=at_i o s h1 h2;exact (other k p t hk h3 h4 g f).elim
   . by_cases hk:i=k
     . subst hk;obtain ⟨rfl,rfl⟩:=at_i p t h3 h4;exact (other j o s hj h1 h2 f g).elim
     . rw [YY hj] at h1 h2;rw [YY hk] at h3 h4;exact e.dist j k o p s t b h1 h2 h3 h4 ((key j o s (Ne.symm hj) h1 h2).2 b f) ((key k p t (Ne.symm hk) h3 h4).2 b g)
theorem EnvOk.stay (e:EnvOk G0 H0 G H σ ρ):∀j,j≠i->∀o s,σ[j]?=some o->ρ[j]?=some s->∀b,Qm H o s b->H b=H b/\G b=none:=fun j _ o s h1 h2 b f=>⟨rfl,((e.slot j o s h1 h2).foot f).2.1⟩
theorem EnvOk.set (e:EnvOk G0 H0 G H σ ρ) (r:Rep G v d):EnvOk G0 H0 G H (σ.set i (some v)) (ρ.set i (.sh d)):=e.change e.ext (.refl _) e.stay (.sh r) fun b f=>by cases v <;> exact f.elim
theorem EnvOk.fresh (e:EnvOk G0 H0 G H σ ρ) (x:Ext G H G' H') {o':Option V} {s':Slot} (new:SlotOk H0 G' H' o' s') (foot:∀b,Qm H' o' s' b->H b=none):EnvOk G0 H0 G' H' (σ.set i o') (ρ.set i s'):=
 e.change (e.ext.trans x) x.gg (fun j _ o s h1 h2 b f=>by obtain ⟨_,g,u,hu⟩:=(e.slot j o s h1 h2).foot f;exact ⟨by rw [hu];exact x.hh _ _ hu,x.gone g hu⟩) new fun b f=>.inl (foot b f)
theorem EnvOk.setO (e:EnvOk G0 H0 G H σ ρ) (x:Ext G H G' H') (hn:H a=none) (hg:G' a=none) (h:H' a=some (.lst vs)) (r:Reps G' vs ds):EnvOk G0 H0 G' H' (σ.set i (some (.ref a))) (ρ.set i (.ow ds)):=e.fresh x (.ow (e.ext.hh.free hn) hg h r) fun b f=>by cases (show b=a from f);exact hn
theorem EnvOk.setD {ks:List Int} (e:EnvOk G0 H0 G H σ ρ) (x:Ext G H G' H') (hn:H a=none) (hg:G' a=none) (h:H' a=some (.dK (qF ks vs))) (hl:ks.length=vs.length) (r:Reps G' vs ds):EnvOk G0 H0 G' H' (σ.set i (some (.ref a))) (ρ.set i (.od ks ds)):=e.fresh x (.od (e.ext.hh.free hn) hg h hl r) fun b f=>by cases (show b=a from f);exact hn
theorem EnvOk.setOO {bs:List Addr} {dss:List (List D)} (e:EnvOk G0 H0 G H σ ρ) (x:Ext G H G' H') (hn:∀b∈a::bs,H b=none/\G' b=none) (nd:(a::bs).Nodup) (h:H' a=some (.lst (bs.map V.ref))) (r:Rows G' H' bs dss):EnvOk G0 H0 G' H' (σ.set i (some (.ref a))) (ρ.set i (.oo dss)):=e.fresh x (.oo h nd (fun b hb=>⟨e.ext.hh.free (hn b hb).1,(hn b hb).2⟩) r) fun b f=>(hn b ((JE h).mp f)).1
theorem EnvOk.write {u:HO} {o:Option V} {s s':Slot} (e:EnvOk G0 H0 G H σ ρ) (h1:ρ[i]?=some s) (h2:σ[i]?=some o) (f:Qm H o s a) (new:SlotOk H0 G (upd H a u) o s') (foot:∀b,Qm (upd H a u) o s' b->Qm H o s b):EnvOk G0 H0 G (upd H a u) σ (ρ.set i s'):=by
 obtain ⟨q1,q2,_⟩:=(e.slot i o s h2 h1).foot f;have hi:i<σ.length:=(Yj.mp h2).1;have key:=e.change (i:=i) (o':=o) (s':=s') (G':=G) (H':=upd H a u) ⟨fun b o z=>by rw [jz (jD z q1)];exact e.ext.hh b o z,e.ext.gg,fun b o z=>by rw [jz (jD z q2)];exact e.ext.gh b o z,e.ext.nw⟩ (.refl _)
  (fun j hj o' s' g1 g2 b f'=>by
   have hb:b≠a:=fun z=>by subst z;exact hj (e.dist j i _ _ _ _ b g1 g2 h2 h1 f' f)
   exact ⟨jz hb,((e.slot j o' s' g1 g2).foot f').2.1⟩) new fun b f'=>.inr ⟨o,s,h2,h1,foot b f'⟩
 have e':σ.set i o=σ:=by
  refine Ko fun j=>?_;by_cases hj:i=j
  . subst hj;rw [yo hi,h2]
  . rw [YY hj]
 rw [e'] at key;exact key
theorem EnvOk.put (e:EnvOk G0 H0 G H σ ρ) (h1:ρ[i]?=some (.ow ds)) (h2:σ[i]?=some (some (.ref a))) {es:List D} (r:Reps G vs es):EnvOk G0 H0 G (upd H a (.lst vs)) σ (ρ.set i (.ow es)):=by obtain ⟨b,us,q1,q2,q3,q4,q5⟩:=e.ow h1;rw [h2] at q1;cases q1;exact e.write h1 h2 rfl (.ow q2 q3 jB r) fun b f=>f
theorem EnvOk.putD {ks ls:List Int} (e:EnvOk G0 H0 G H σ ρ) (h1:ρ[i]?=some (.od ks ds)) (h2:σ[i]?=some (some (.ref a))) {es:List D} (hl:ls.length=vs.length) (r:Reps G vs es):EnvOk G0 H0 G (upd H a (.dK (qF ls vs))) σ (ρ.set i (.od ls es)):=by obtain ⟨b,us,q1,q2,q3,q4,_,q5⟩:=e.od h1;rw [h2] at q1;cases q1;exact e.write h1 h2 rfl (.od q2 q3 jB hl r) fun b f=>f
theorem EnvOk.putOO {dss:List (List D)} {bs:List Addr} {j:Nat} {b:Addr} (e:EnvOk G0 H0 G H σ ρ) (h1:ρ[i]?=some (.oo dss)) (h2:σ[i]?=some (some (.ref a))) (h3:H a=some (.lst (bs.map V.ref))) (hb:bs[j]?=some b) (r:Reps G vs ds):EnvOk G0 H0 G (upd H b (.lst vs)) σ (ρ.set i (.oo (dss.set j ds))):=by
 obtain ⟨a',bs',q1,q2,q3,q4,q5⟩:=e.oo h1;rw [h2] at q1;cases q1;rw [h3] at q2;have ebs:bs'=bs:=by have:=HO.lst.inj (Option.some.inj q2);exact ((List.map_inj_right (f:=V.ref) fun x y z=>V.ref.inj z).mp this).symm
 subst ebs;have nd':=Y9.mp q3;have hm:=Yz hb;have hab:a≠b:=fun z=>nd'.1 (z ▸ hm);have h3':upd H b (.lst vs) a=some (.lst (bs'.map V.ref)):=by rw [jz hab];exact h3
 exact e.write h1 h2 ((JE h3).mpr (Yf _ hm)) (.oo h3' q3 q4 (q5.put r nd'.2 hb)) fun c f=>(JE h3).mpr ((JE h3').mp f)
def frz (i:Nat) (ρ:ef):ef:=match ρ[i]? with
 | some (.ow ds)=>ρ.set i (.sh (.lst ds))
 | some (.oo dss)=>ρ.set i (.sh (.lst (dss.map .lst)))
 | _=>ρ
theorem EnvOk.let {o:Option V} {s s':Slot} (e:EnvOk G0 H0 G H σ ρ) (h1:ρ[i]?=some s) (h2:σ[i]?=some o) (gg:Same G G') (gh:Same G' H) (nw:∀b u,G' b=some u->G b=some u\/Qm H o s b)
 (new:SlotOk H0 G' H o s') (foot:∀b,Qm H o s' b->Qm H o s b):EnvOk G0 H0 G' H σ (ρ.set i s'):=by
 have hi:i<σ.length:=(Yj.mp h2).1;have key:=e.change (i:=i) (o':=o) (s':=s') (G':=G') (H':=H) ⟨e.ext.hh,e.ext.gg.trans gg,gh,fun b u z=>by
  rcases nw b u z with w | w
  . exact e.ext.nw b u w
  . exact .inr ((e.slot i o s h2 h1).foot w).1⟩ gg
  (fun j hj o' s' g1 g2 b f'=>⟨rfl,by
   obtain ⟨_,g,_⟩:=(e.slot j o' s' g1 g2).foot f';cases q:G' b with
   | none=>rfl
   | some u=>
     rcases nw b u q with w | w
     . rw [g] at w;cases w
     . exact (hj (e.dist j i _ _ _ _ b g1 g2 h2 h1 f' w)).elim⟩) new fun b f'=>.inr ⟨o,s,h2,h1,foot b f'⟩
 have e':σ.set i o=σ:=by
  refine Ko fun j=>?_;by_cases hj:i=j
  . subst hj;rw [yo hi,h2]
  . rw [YY hj]
 rw [e'] at key;exact key
theorem jp5 {u w:HO} {b:Addr} (h:upd G a u b=some w):G b=some w\/b=a:=by
 by_cases hb:b=a
 . exact .inr hb
 . rw [jz hb] at h;exact .inl h
theorem jqg {u:HO} (s:Same G H) (h:H a=some u):Same (upd G a u) H:=fun b w e=>by
 by_cases hb:b=a
 . subst hb;rw [jB] at e;cases e;exact h
 . rw [jz hb] at e;exact s b w e
theorem EnvOk.freeze (e:EnvOk G0 H0 G H σ ρ) (h1:ρ[i]?=some (.ow ds)) (h2:σ[i]?=some (some (.ref a))) (h3:H a=some (.lst vs)) (h4:Reps G vs ds):EnvOk G0 H0 (upd G a (.lst vs)) H σ (ρ.set i (.sh (.lst ds))):=by obtain ⟨b,us,q1,q2,q3,q4,q5⟩:=e.ow h1;rw [h2] at q1;cases q1;have up:Same G (upd G a (.lst vs)):=.upd q3;exact e.let h1 h2 up (jqg e.same h3) (fun b u z=>jp5 z) (.sh (.lst (.inl jB) (h4.mono up))) fun b f=>f.elim
open Classical in
/-- the heap with more of it known -/
def more (G H:Hp) (bs:List Addr):Hp:=fun b=>if b∈bs then H b else G b
theorem jeG {bs:List Addr} {b:Addr} (h:b∈bs):more G H bs b=H b:=if_pos h
theorem ZH {bs:List Addr} {b:Addr} (h:b∉bs):more G H bs b=G b:=if_neg h
theorem jdC {bs:List Addr} (s:Same G H):Same G (more G H bs)/\Same (more G H bs) H:=by
 refine ⟨fun b u e=>?_,fun b u e=>?_⟩
 . by_cases hb:b∈bs
   . rw [jeG hb];exact s b u e
   . rw [ZH hb];exact e
 . by_cases hb:b∈bs
   . rw [jeG hb] at e;exact e
   . rw [ZH hb] at e;exact s b u e
theorem EnvOk.half {dss:List (List D)} {bs:List Addr} (e:EnvOk G0 H0 G H σ ρ) (h1:ρ[i]?=some (.oo dss)) (h2:σ[i]?=some (some (.ref a))) (h3:H a=some (.lst (bs.map V.ref))) (nd:(a::bs).Nodup) (own:∀b∈a::bs,H0 b=none/\G b=none) (rows:Rows G H bs dss) :
 EnvOk G0 H0 (more G H bs) H σ (ρ.set i (.ow (dss.map .lst)))/\Reps (more G H bs) (bs.map V.ref) (dss.map D.lst):=by
 have ss:=jdC (bs:=bs) e.same;have nd':=Y9.mp nd;have rr:=rows.frozen ss.1 fun b hb=>jeG hb;refine ⟨e.let h1 h2 ss.1 ss.2 (fun b u z=>?_) (.ow (own a Ye).1 (by rw [ZH nd'.1];exact (own a Ye).2) h3 rr) fun b f=>.inl f,rr⟩;by_cases hb:b∈bs
 . exact .inr ((JE h3).mpr (Yf _ hb))
 . rw [ZH hb] at z;exact .inl z
end
def EOk (t:TE) (f:ef->Option D):Prop:=∀G0 H0 G H σ ρ (Q:VK) d,EnvOk G0 H0 G H σ ρ->f ρ=some d->(∀v G' H',Ext G H G' H'->Rep G' v d->Q v H')->t σ H Q
def zx (t:TE) (f:ef->Option D):Prop:=∀G0 H0 G H σ ρ (Q:VK) d,EnvOk G0 H0 G H σ ρ->f ρ=some d->(∀v G' H',Ext G H G' H'->RepT G' H' v d->Q v H')->t σ H Q
def EOkO (t:TE) (f:ef->Option (List D)):Prop:=∀G0 H0 G H σ ρ (Q:VK) ds,EnvOk G0 H0 G H σ ρ->f ρ=some ds->
 ‹"ai"›->t σ H Q
def TOk (t:TT) (f:ef->Option Bool):Prop:=∀G0 H0 G H σ ρ (Q:Bool->Hp->Prop) b,EnvOk G0 H0 G H σ ρ->f ρ=some b->(∀G' H',Ext G H G' H'->Q b H')->t σ H Q
def AOk (t:TA) (f:ef->Option (List D)):Prop:=∀G0 H0 G H σ ρ (Q:List V->Hp->Prop) ds,EnvOk G0 H0 G H σ ρ->f ρ=some ds->(∀vs G' H',Ext G H G' H'->Reps G' vs ds->Q vs H')->t σ H Q
def jbs (t:TA) (f:ef->Option (List D)):Prop:=∀G0 H0 G H σ ρ (Q:List V->Hp->Prop) ds,EnvOk G0 H0 G H σ ρ->f ρ=some ds->(∀vs G' H',Ext G H G' H'->RepTs G' H' vs ds->Q vs H')->t σ H Q
def jK (f:ef->Option (List D)):ef->Option D:=fun ρ=>(f ρ).map .lst
theorem EOkO.e {t:TE} {f:ef->Option (List D)} (h:EOkO t f):EOk t (jK f):=fun G0 H0 G H σ ρ Q d e q k=>by
 unfold jK at q;cases z:f ρ with
 | none=>rw [z] at q;cases q
 | some ds=>rw [z] at q;cases q;exact h G0 H0 G H σ ρ Q ds e z fun a vs G' H' x hn hg ha r=>k _ _ _ (x.freeze hn hg ha) (.lst (.inl jB) (r.mono (.upd hg)))
theorem EOk.t {t:TE} {f:ef->Option D} (h:EOk t f):zx t f:=fun G0 H0 G H σ ρ Q d e q k=>h G0 H0 G H σ ρ Q d e q fun v G' H' x r=>k v G' H' x (r.top x.gh)
theorem AOk.t {t:TA} {f:ef->Option (List D)} (h:AOk t f):jbs t f:=fun G0 H0 G H σ ρ Q d e q k=>h G0 H0 G H σ ρ Q d e q fun v G' H' x r=>k v G' H' x (by
 clear k e q;induction r using Reps.rec (motive_1:=fun _ _ _=>True) with
 | nil=>exact .nil
 | cons r _ _ ih=>exact .cons (r.top x.gh) ih
 | _=>trivial)
def jn (i:Nat):ef->Option D:=fun ρ=>match ρ[i]? with
 | some (.sh d)=>some d
 | _=>none
def ja (i:Nat):ef->Option D:=fun ρ=>match ρ[i]? with
 | some (.sh d)=>some d
 | some (.ow ds)=>some (.lst ds)
 | some (.od ks ds)=>some (.dic ks ds)
 | _=>none
def eC (d:D):ef->Option D:=fun _=>some d
theorem jr1 (i:Nat):EOk (je1 i) (jn i):=fun G0 H0 G H σ ρ Q d e q k=>by
 unfold jn at q;split at q
 . rename_i d' h;cases q;obtain ⟨v,h1,r⟩:=e.sh h;exact ⟨v,h1,k v G H (.refl e.same) r⟩
 . cases q
theorem jqr (i:Nat):zx (je1 i) (ja i):=fun G0 H0 G H σ ρ Q d e q k=>by
 unfold ja at q;split at q
 . rename_i d' h;cases q;obtain ⟨v,h1,r⟩:=e.sh h;exact ⟨v,h1,k v G H (.refl e.same) (r.top e.same)⟩
 . rename_i ds h;cases q;obtain ⟨a,vs,h1,_,_,h2,r⟩:=e.ow h;exact ⟨_,h1,k _ G H (.refl e.same) (.lst (.inl h2) r)⟩
 . rename_i ks ds h;cases q;obtain ⟨a,vs,h1,_,_,h2,hl,r⟩:=e.od h;exact ⟨_,h1,k _ G H (.refl e.same) (.dic (.inl h2) hl r)⟩
 . cases q
theorem jom {i:Int}:EOk (tC (.int i)) (eC (.int i)):=fun G0 H0 G H σ ρ Q d e q k=>by cases q;exact k _ G H (.refl e.same) (.int i)
theorem jsy {i:Bool}:EOk (tC (.bl i)) (eC (.bl i)):=fun G0 H0 G H σ ρ Q d e q k=>by cases q;exact k _ G H (.refl e.same) (.bl i)
theorem jrE:EOk (tC .non) (eC .non):=fun G0 H0 G H σ ρ Q d e q k=>by cases q;exact k _ G H (.refl e.same) .non
def ROk (r:R2) (f:D->D->Option D):Prop:=∀G H x y dx dy d (Q:VK),Same G H->RepT G H x dx->RepT G H y dy->f dx dy=some d->(∀v G' H',Ext G H G' H'->Rep G' v d->Q v H')->r x y H Q
def jqc (r:R2) (f:D->D->Option (List D)):Prop:=∀G H x y dx dy ds (Q:VK),Same G H->RepT G H x dx->RepT G H y dy->f dx dy=some ds->
 ‹"ai"›->r x y H Q
def jw {β:Type} (f:D->D->Option β) (a b:ef->Option D):ef->Option β:=fun ρ=>(a ρ).bind fun x=>(b ρ).bind fun y=>f x y
section
variable {ta tb tc:TE} {fa fb fc:ef->Option D} {r r':R2} {f f':D->D->Option D}
theorem jmS (h:ROk r f) (ha:zx ta fa) (hb:zx tb fb):EOk (tOp r ta tb) (jw f fa fb):=fun G0 H0 G H σ ρ Q d e q k=>by obtain ⟨x,qa,q⟩:=bind_some q;obtain ⟨y,qb,q⟩:=bind_some q;refine ha G0 H0 G H σ ρ _ x e qa fun u G1 H1 x1 r1=>?_;refine hb G0 H0 G1 H1 σ ρ _ y (e.grow x1) qb fun v G2 H2 x2 r2=>?_;exact h G2 H2 u v x y d Q x2.gh (r1.mono x2.gg x2.hh) r2 q fun w G3 H3 x3 r3=>k w G3 H3 ‹"Y"› r3
theorem jn9 {f:D->D->Option (List D)} (h:jqc r f) (ha:zx ta fa) (hb:zx tb fb):EOkO (tOp r ta tb) (jw f fa fb):=fun G0 H0 G H σ ρ Q d e q k=>by obtain ⟨x,qa,q⟩:=bind_some q;obtain ⟨y,qb,q⟩:=bind_some q;refine ha G0 H0 G H σ ρ _ x e qa fun u G1 H1 x1 r1=>?_;refine hb G0 H0 G1 H1 σ ρ _ y (e.grow x1) qb fun v G2 H2 x2 r2=>?_;exact h G2 H2 u v x y d Q x2.gh (r1.mono x2.gg x2.hh) r2 q fun w vs G3 H3 x3 hn hg hh r3=>k w vs G3 H3 ‹"Y"› ((x1.hh.trans x2.hh).free hn) hg hh r3
def dI0 (g:Int->Int->D):D->D->Option D
 | .int i,.int j=>some (g i j)
 | _,_=>none
def dI (C:Int->Int->Prop) [∀i j,Decidable (C i j)] (g:Int->Int->D):D->D->Option D
 | .int i,.int j=>if C i j then some (g i j) else none
 | _,_=>none
theorem qf {α:Type} {P:Prop} {d:α} (h:none=some d):P:=nomatch h
theorem jmz {m:Int->Int->D} {x y d:D} (q:dI0 m x y=some d):∃i j,x=.int i/\y=.int j/\m i j=d:=by
 cases x with
 | int i=>
   cases y with
   | int j=>exact ⟨i,j,rfl,rfl,Option.some.inj q⟩
   | _=>exact qf q
 | _=>exact qf q
theorem jpK {C:Int->Int->Prop} [∀i j,Decidable (C i j)] {m:Int->Int->D} {x y d:D} (q:dI C m x y=some d):∃i j,x=.int i/\y=.int j/\C i j/\m i j=d:=by
 cases x with
 | int i=>
   cases y with
   | int j=>
     by_cases c:C i j
     . exact ⟨i,j,rfl,rfl,c,Option.some.inj ((if_pos c).symm.trans q)⟩
     . exact qf ((if_neg c).symm.trans q)
   | _=>exact qf q
 | _=>exact qf q
theorem jja {g:Int->Int->V} {m:Int->Int->D} (hg:∀G i j,Rep G (g i j) (m i j)):ROk (rI0 g) (dI0 m):=fun G H x y dx dy d Q s rx ry q k=>by
 obtain ⟨i,j,rfl,rfl,rfl⟩:=jmz q
 (have hh:=RepT.of_int rx;subst hh)
 (have hh:=RepT.of_int ry;subst hh)
 exact ⟨_,_,rfl,rfl,k _ G H (.refl s) (hg _ _ _)⟩
theorem o_I {C:Int->Int->Prop} [∀i j,Decidable (C i j)] {g:Int->Int->V} {m:Int->Int->D} (hg:∀G i j,Rep G (g i j) (m i j)):ROk (rI C g) (dI C m):=fun G H x y dx dy d Q s rx ry q k=>by
 obtain ⟨i,j,rfl,rfl,hc,rfl⟩:=jpK q
 (have hh:=RepT.of_int rx;subst hh)
 (have hh:=RepT.of_int ry;subst hh)
 exact ⟨_,_,rfl,rfl,hc,k _ G H (.refl s) (hg _ _ _)⟩
instance (i j:Int):Decidable (jhP i j):=inferInstanceAs (Decidable (_/\_))
instance (i j:Int):Decidable (jeH i j):=inferInstanceAs (Decidable (_/\_))
def zc:=dI0 fun i j=>.int (i+j)
def JT:=dI0 fun i j=>.int (i-j)
def zZ:=dI CMulB fun i j=>.int (i*j)
def Q9:=dI jhP fun i j=>.int (i/j)
def zw:=dI (fun _ j=>0<j) fun i j=>.int (i%j)
def Zb:=dI jeH fun i j=>.int (i ^ j.toNat)
def dLt:=dI0 fun i j=>.bl (decide (i<j))
def dLe:=dI0 fun i j=>.bl (decide (i<=j))
def dGt:=dI0 fun i j=>.bl (decide (j<i))
def dGe:=dI0 fun i j=>.bl (decide (j<=i))
theorem jrv:ROk (rI0 fun i j=>.int (i+j)) zc:=jja fun _ _ _=>.int _
theorem jr8:ROk (rI0 fun i j=>.int (i-j)) JT:=jja fun _ _ _=>.int _
theorem jrD:ROk (rI CMulB fun i j=>.int (i*j)) zZ:=o_I fun _ _ _=>.int _
theorem jsg:ROk (rI jhP fun i j=>.int (i/j)) Q9:=o_I fun _ _ _=>.int _
theorem jsl:ROk (rI (fun _ j=>0<j) fun i j=>.int (i%j)) zw:=o_I fun _ _ _=>.int _
theorem jq5:ROk (rI jeH fun i j=>.int (i ^ j.toNat)) Zb:=o_I fun _ _ _=>.int _
theorem js2:ROk (rI0 fun i j=>.bl (decide (i<j))) dLt:=jja fun _ _ _=>.bl _
theorem jsZ:ROk (rI0 fun i j=>.bl (decide (i<=j))) dLe:=jja fun _ _ _=>.bl _
theorem jsB:ROk (rI0 fun i j=>.bl (decide (j<i))) dGt:=jja fun _ _ _=>.bl _
theorem jsJ:ROk (rI0 fun i j=>.bl (decide (j<=i))) dGe:=jja fun _ _ _=>.bl _
def qt:D->D->Option D
 | .lst l,.int i=>atI l i
 | .tup l,.int i=>atI l i
 | .scr ns,.int i=>(atI ns i).map .int
 | .str z,.int i=>if z.length<=sizeLine then (atI z.cps.toList i).map fun c=>.str ⟨#[c]⟩ else none
 | _,_=>none
theorem Reps.atI {G:Hp} {vs:List V} {ds:List D} {i:Int} {d:D} (r:Reps G vs ds) (h:L2.atI ds i=some d):∃v,L2.atI vs i=some v/\Rep G v d:=by unfold L2.atI at h ⊢;rw [r.length];obtain ⟨j,h1,h2⟩:=bind_some h;obtain ⟨v,h3,h4⟩:=r.get h2;exact ⟨v,by rw [h1];exact h3,h4⟩
theorem jmV {x y d:D} (q:qt x y=some d):∃i,y=.int i/\((∃l,x=.lst l/\atI l i=some d)\/(∃l,x=.tup l/\atI l i=some d)\/(∃ns n,x=.scr ns/\atI ns i=some n/\d=.int n)\/∃z c,x=.str z/\z.length<=sizeLine/\atI z.cps.toList i=some c/\d=.str ⟨#[c]⟩):=by
 cases y with
 | int i=>
   refine ⟨i,rfl,?_⟩;cases x with
   | lst l=>exact .inl ⟨l,rfl,q⟩
   | tup l=>exact .inr (.inl ⟨l,rfl,q⟩)
   | scr ns=>obtain ⟨n,h1,h2⟩:=map_some (show (atI ns i).map D.int=some d from q);exact .inr (.inr (.inl ⟨ns,n,rfl,h1,h2.symm⟩))
   | str z=>
     have q':(if z.length<=sizeLine then (atI z.cps.toList i).map fun c=>D.str ⟨#[c]⟩ else none)=some d:=q;by_cases c:z.length<=sizeLine
     . rw [if_pos c] at q';obtain ⟨n,h1,h2⟩:=map_some q';exact .inr (.inr (.inr ⟨z,n,rfl,c,h1,h2.symm⟩))
     . rw [if_neg c] at q';exact qf q'
   | _=>exact qf q
 | _=>exact qf (show none=some d from by cases x <;> exact q)
theorem js1:ROk (rIx Fr.K) qt:=fun G H x y dx dy d Q s rx ry q k=>by
 obtain ⟨i,rfl,z⟩:=jmV q
 (have hh:=RepT.of_int ry;subst hh)
 rcases z with ⟨l,rfl,q⟩ | ⟨l,rfl,q⟩ | ⟨ns,n,rfl,e,rfl⟩ | ⟨z,c,rfl,hz,e,rfl⟩
 . cases rx with
   | lst h r=>obtain ⟨v,h1,h2⟩:=r.atI q;exact .inl ⟨_,_,_,v,rfl,rfl,.inl h,h1,k v G H (.refl s) h2⟩
 . cases rx with
   | tup h r=>obtain ⟨v,h1,h2⟩:=r.atI q;exact .inr (.inl ⟨_,_,_,v,rfl,rfl,.inl (.inl h),h1,k v G H (.refl s) h2⟩)
 . cases rx with
   | scr h=>exact .inl ⟨_,_,_,_,rfl,rfl,h,by rw [jmU,e];rfl,k _ G H (.refl s) (.int n)⟩
 . cases rx with
   | str z=>exact .inr (.inr ⟨_,_,c,rfl,rfl,hz,e,k _ G H (.refl s) (.str _)⟩)
def jkS (fa:ef->Option D):ef->Option D:=fun ρ=>match fa ρ with
 | some (.int i)=>some (.int (-i))
 | _=>none
theorem jrw (ha:zx ta fa):EOk (tUn (rU fun i=>.int (-i)) ta) (jkS fa):=fun G0 H0 G H σ ρ Q d e q k=>by
 unfold jkS at q;split at q
 . rename_i i h;cases q;refine ha G0 H0 G H σ ρ _ _ e h fun v G' H' x r=>?_
   (have hh:=RepT.of_int r;subst hh)
   exact ⟨_,rfl,k _ G' H' x (.int _)⟩
 . cases q
def qT (fa:ef->Option D):ef->Option Bool:=fun ρ=>match fa ρ with
 | some (.bl b)=>some b
 | _=>none
theorem jcJ (ha:zx ta fa) {G0 H0 G H:Hp} {σ:St} {ρ:ef} {b:Bool} {Q:VK} (e:EnvOk G0 H0 G H σ ρ) (q:qT fa ρ=some b) (k:∀G' H',Ext G H G' H'->Q (.bl b) H'):ta σ H Q:=by
 unfold qT at q;split at q
 . rename_i i h;cases q;refine ha G0 H0 G H σ ρ _ _ e h fun v G' H' x r=>?_
   (have hh:=RepT.of_bl r;subst hh)
   exact k G' H' x
 . cases q
def jmL (fa:ef->Option D):ef->Option D:=fun ρ=>(qT fa ρ).map fun b=>.bl (!b)
theorem jr2 (ha:zx ta fa):EOk (jn6 ta) (jmL fa):=fun G0 H0 G H σ ρ Q d e q k=>by
 unfold jmL at q;cases h:qT fa ρ with
 | none=>rw [h] at q;cases q
 | some b=>rw [h] at q;cases q;exact jcJ ha e h fun G' H' x=>⟨_,rfl,k _ G' H' x (.bl _)⟩
def jeg (fa fb:ef->Option D):ef->Option D:=fun ρ=>match qT fa ρ with
 | some true=>fb ρ
 | some false=>some (.bl false)
 | none=>none
theorem jse (ha:zx ta fa) (hb:EOk tb fb):EOk (jot ta tb) (jeg fa fb):=fun G0 H0 G H σ ρ Q d e q k=>by
 unfold jeg at q;split at q
 . rename_i h;exact jcJ ha e h fun G' H' x=>⟨true,rfl,by rw [if_pos rfl];exact hb _ _ _ _ _ _ _ _ (e.grow x) q fun v G2 H2 x2 r=>k v G2 H2 (x.trans x2) r⟩
 . rename_i h;cases q;exact jcJ ha e h fun G' H' x=>⟨false,rfl,by rw [if_neg Yh];exact k _ G' H' x (.bl _)⟩
 . cases q
def jtl (fa:ef->Option D):ef->Option D:=fun ρ=>(fa ρ).map fun d=>.bl (match d with | .non=>true | _=>false)
def jbH (fa:ef->Option D):ef->Option D:=fun ρ=>(fa ρ).map fun d=>.bl (match d with | .non=>false | _=>true)
theorem jpU (ha:zx ta fa):EOk (jn2 ta) (jbH fa):=fun G0 H0 G H σ ρ Q d e q k=>by
 unfold jbH at q;cases h:fa ρ with
 | none=>rw [h] at q;cases q
 | some dx=>rw [h] at q;cases q;refine ha G0 H0 G H σ ρ _ _ e h fun v G' H' x r=>?_;cases r <;> exact k _ G' H' x (by simp;exact .bl _)
def jb8 (f f':D->D->Option D) (fa fb fc:ef->Option D):ef->Option D:=fun ρ=>(fa ρ).bind fun x=>(fb ρ).bind fun y=>(f x y).bind fun z=>match z with
 | .bl true=>(fc ρ).bind fun w=>f' y w
 | .bl false=>some (.bl false)
 | _=>none
theorem jnB (h:ROk r f) (h':ROk r' f') (ha:zx ta fa) (hb:zx tb fb) (hc:zx tc fc):EOk (jkw r r' ta tb tc) (jb8 f f' fa fb fc):=fun G0 H0 G H σ ρ Q d e q k=>by
 obtain ⟨x,qa,q⟩:=bind_some q;obtain ⟨y,qb,q⟩:=bind_some q;obtain ⟨z,qz,q⟩:=bind_some q;refine ha G0 H0 G H σ ρ _ x e qa fun u G1 H1 x1 r1=>?_;refine hb G0 H0 G1 H1 σ ρ _ y (e.grow x1) qb fun v G2 H2 x2 r2=>?_;refine h G2 H2 u v x y z _ x2.gh (r1.mono x2.gg x2.hh) r2 qz fun w G3 H3 x3 r3=>?_;cases r3 with
 | bl b=>
   refine ⟨b,rfl,?_⟩;cases b with
   | false=>rw [if_neg Yh];cases q;exact k _ G3 H3 ‹"Y"› (.bl _)
   | true=>rw [if_pos rfl];obtain ⟨w,qc,q⟩:=bind_some q;refine hc G0 H0 G3 H3 σ ρ _ w (e.grow ‹"Y"›) qc fun w' G4 H4 x4 r4=>?_;exact h' G4 H4 v w' y w d Q x4.gh (r2.mono (x3.trans x4).gg (x3.trans x4).hh) r4 q fun z G5 H5 x5 r5=>k z G5 H5 ((‹"Y"›.trans x4).trans x5) r5
 | _=>cases q
theorem t_B (ha:zx ta fa):TOk (tB ta) (qT fa):=fun G0 H0 G H σ ρ Q b e q k=>jcJ ha e q fun G' H' x=>⟨b,rfl,k G' H' x⟩
theorem jo6 (ha:zx ta fa):TOk (jog ta) (qT fa):=fun G0 H0 G H σ ρ Q b e q k=>jcJ ha e q fun G' H' x=>⟨b,rfl,k G' H' x⟩
variable {ca cb:TT} {ga gb:ef->Option Bool}
def Z2 (ga gb:ef->Option Bool):ef->Option Bool:=fun ρ=>match ga ρ with
 | some true=>gb ρ
 | some false=>some false
 | none=>none
def bOr (ga gb:ef->Option Bool):ef->Option Bool:=fun ρ=>match ga ρ with
 | some true=>some true
 | some false=>gb ρ
 | none=>none
def jdj (ga:ef->Option Bool):ef->Option Bool:=fun ρ=>(ga ρ).map (!·)
theorem jdL (ha:TOk ca ga) (hb:TOk cb gb):TOk (jru ca cb) (Z2 ga gb):=fun G0 H0 G H σ ρ Q b e q k=>by
 unfold Z2 at q;split at q
 . rename_i h;exact ha _ _ _ _ _ _ _ _ e h fun G' H' x=>by rw [if_pos rfl];exact hb _ _ _ _ _ _ _ _ (e.grow x) q fun G2 H2 x2=>k G2 H2 (x.trans x2)
 . rename_i h;cases q;exact ha _ _ _ _ _ _ _ _ e h fun G' H' x=>by rw [if_neg Yh];exact k G' H' x
 . cases q
theorem jsX (ha:TOk ca ga) (hb:TOk cb gb):TOk (tOr ca cb) (bOr ga gb):=fun G0 H0 G H σ ρ Q b e q k=>by
 unfold bOr at q;split at q
 . rename_i h;cases q;exact ha _ _ _ _ _ _ _ _ e h fun G' H' x=>by rw [if_pos rfl];exact k G' H' x
 . rename_i h;exact ha _ _ _ _ _ _ _ _ e h fun G' H' x=>by rw [if_neg Yh];exact hb _ _ _ _ _ _ _ _ (e.grow x) q fun G2 H2 x2=>k G2 H2 (x.trans x2)
 . cases q
theorem jfC (ha:TOk ca ga):TOk (jry ca) (jdj ga):=fun G0 H0 G H σ ρ Q b e q k=>by
 unfold jdj at q;cases h:ga ρ with
 | none=>rw [h] at q;cases q
 | some c=>rw [h] at q;cases q;exact ha _ _ _ _ _ _ _ _ e h fun G' H' x=>k G' H' x
theorem jpQ:TOk jn0 ‹"m"›:=fun G0 H0 G H σ ρ Q b e q k=>by cases q;exact k G H (.refl e.same)
def eIf (ga:ef->Option Bool) (fa fb:ef->Option D):ef->Option D:=fun ρ=>match ga ρ with
 | some true=>fa ρ
 | some false=>fb ρ
 | none=>none
theorem jsx (hc:TOk ca ga) (ha:EOk ta fa) (hb:EOk tb fb):EOk (tIf ca ta tb) (eIf ga fa fb):=fun G0 H0 G H σ ρ Q d e q k=>by
 unfold eIf at q;split at q
 . rename_i h;exact hc _ _ _ _ _ _ _ _ e h fun G' H' x=>by rw [if_pos rfl];exact ha _ _ _ _ _ _ _ _ (e.grow x) q fun v G2 H2 x2 r=>k v G2 H2 (x.trans x2) r
 . rename_i h;exact hc _ _ _ _ _ _ _ _ e h fun G' H' x=>by rw [if_neg Yh];exact hb _ _ _ _ _ _ _ _ (e.grow x) q fun v G2 H2 x2 r=>k v G2 H2 (x.trans x2) r
 . cases q
end
section
variable {ta tb tc:TE} {fa fb fc:ef->Option D} {As:TA} {fs:ef->Option (List D)}
def jo:ef->Option (List D):=fun _=>some []
def jd (fa:ef->Option D) (fs:ef->Option (List D)):ef->Option (List D):=fun ρ=>(fa ρ).bind fun d=>(fs ρ).map (d::·)
theorem jci {ρ:ef} {ds:List D} (h:jd fa fs ρ=some ds):∃d es,fa ρ=some d/\fs ρ=some es/\ds=d::es:=by
 obtain ⟨d,h1,h2⟩:=bind_some h;cases z:fs ρ with
 | none=>rw [z] at h2;cases h2
 | some es=>rw [z] at h2;cases h2;exact ⟨d,es,h1,rfl,rfl⟩
theorem a_nil:AOk jjI jo:=fun G0 H0 G H σ ρ Q d e q k=>by cases q;exact k [] G H (.refl e.same) .nil
theorem jlo (ha:EOk ta fa) (hs:AOk As fs):AOk (jda ta As) (jd fa fs):=fun G0 H0 G H σ ρ Q ds e q k=>by obtain ⟨d,es,q1,q2,rfl⟩:=jci q;refine ha _ _ _ _ _ _ _ _ e q1 fun v G1 H1 x1 r1=>hs _ _ _ _ _ _ _ _ (e.grow x1) q2 fun vs G2 H2 x2 r2=>?_;exact k _ G2 H2 (x1.trans x2) (.cons (r1.mono x2.gg) r2)
theorem jqp:jbs jjI jo:=a_nil.t
theorem jnA (ha:zx ta fa) (hs:jbs As fs):jbs (jda ta As) (jd fa fs):=fun G0 H0 G H σ ρ Q ds e q k=>by obtain ⟨d,es,q1,q2,rfl⟩:=jci q;refine ha _ _ _ _ _ _ _ _ e q1 fun v G1 H1 x1 r1=>hs _ _ _ _ _ _ _ _ (e.grow x1) q2 fun vs G2 H2 x2 r2=>?_;exact k _ G2 H2 (x1.trans x2) (.cons (r1.mono x2.gg x2.hh) r2)
def zG (n:Nat):Bool:=decide (n<sizeLine)
def QW (fs:ef->Option (List D)):ef->Option D:=fun ρ=>(fs ρ).bind fun ds=>if zG ds.length then some (.tup ds) else none
def JU (fs:ef->Option (List D)):ef->Option (List D):=fun ρ=>(fs ρ).bind fun ds=>if zG ds.length then some ds else none
theorem jgr {n:Nat} (h:zG n=true):n<=sizeLine:=yP (yQ h)
theorem Zg {n:Nat} (h:zG n=true):n<sizeLine:=yQ h
theorem jrR (h:AOk As fs):EOk (jqJ As) (QW fs):=fun G0 H0 G H σ ρ Q d e q k=>by
 obtain ⟨ds,q1,q2⟩:=bind_some q;split at q2
 . rename_i hz;cases q2;refine h _ _ _ _ _ _ _ _ e q1 fun vs G1 H1 x1 r1=>⟨by rw [r1.length];exact jgr hz,fun p hp=>?_⟩;have hg:G1 p=none:=x1.gh.free hp;have x2:Ext G1 H1 (upd G1 p (.tup vs)) (upd H1 p (.tup vs)):=(Ext.new x1.gh hp).freeze hp hg jB;exact k _ _ _ (x1.trans x2) (.tup jB (r1.mono x2.gg))
 . cases q2
theorem jrL (h:AOk As fs):EOkO (jri As) (JU fs):=fun G0 H0 G H σ ρ Q d e q k=>by
 obtain ⟨ds,q1,q2⟩:=bind_some q;split at q2
 . rename_i hz;cases q2;refine h _ _ _ _ _ _ _ _ e q1 fun vs G1 H1 x1 r1=>⟨by rw [r1.length];exact jgr hz,fun p hp=>?_⟩;exact k p vs G1 _ (x1.trans (.new x1.gh hp)) (x1.hh.free hp) (x1.gh.free hp) jB r1
 . cases q2
def jeo (r:List V->Hp->VK->Prop) (f:List D->Option D):Prop:=∀G H xs ds d (Q:VK),Same G H->RepTs G H xs ds->f ds=some d->(∀v G' H',Ext G H G' H'->Rep G' v d->Q v H')->r xs H Q
def jix (r:List V->Hp->VK->Prop) (f:List D->Option (List D)):Prop:=∀G H xs ds es (Q:VK),Same G H->RepTs G H xs ds->f ds=some es->
 (∀a vs G' H',Ext G H G' H'->H a=none->G' a=none->H' a=some (.lst vs)->Reps G' vs es->Q (.ref a) H')->r xs H Q
def jk {β:Type} (f:List D->Option β) (fs:ef->Option (List D)):ef->Option β:=fun ρ=>(fs ρ).bind f
theorem jsE {r:List V->Hp->VK->Prop} {f:List D->Option D} (h:jeo r f) (ha:jbs As fs):EOk (tCB r As) (jk f fs):=fun G0 H0 G H σ ρ Q d e q k=>by obtain ⟨ds,q1,q2⟩:=bind_some q;exact ha _ _ _ _ _ _ _ _ e q1 fun vs G1 H1 x1 r1=>h G1 H1 vs ds d Q x1.gh r1 q2 fun v G2 H2 x2 r2=>k v G2 H2 (x1.trans x2) r2
theorem jqS {r:List V->Hp->VK->Prop} {f:List D->Option (List D)} (h:jix r f) (ha:jbs As fs):EOkO (tCB r As) (jk f fs):=fun G0 H0 G H σ ρ Q d e q k=>by obtain ⟨ds,q1,q2⟩:=bind_some q;exact ha _ _ _ _ _ _ _ _ e q1 fun vs G1 H1 x1 r1=>h G1 H1 vs ds d Q x1.gh r1 q2 fun a us G2 H2 x2 hn hg hh r2=>k a us G2 H2 (x1.trans x2) (x1.hh.free hn) hg hh r2
def spS (f:List D->Option D):Sp:=fun vs H Q _=>∃G ds d,Same G H/\Reps G vs ds/\f ds=some d/\∀v G' H',Ext G H G' H'->Rep G' v d->Q v H'
def spO (f:List D->Option (List D)):Sp:=fun vs H Q _=>∃G ds es,Same G H/\Reps G vs ds/\f ds=some es/\∀a us G' H',Ext G H G' H'->H a=none->G' a=none->H' a=some (.lst us)->Reps G' us es->Q (.ref a) H'
theorem jpd {f:List D->Option D} {E:XK} (ha:AOk As fs):EOk (jj3 (spS f) [] E As) (jk f fs):=fun G0 H0 G H σ ρ Q d e q k=>by obtain ⟨ds,q1,q2⟩:=bind_some q;exact ha _ _ _ _ _ _ _ _ e q1 fun vs G1 H1 x1 r1=>⟨G1,ds,d,x1.gh,by rw [yW];exact r1,q2,fun v G2 H2 x2 r2=>k v G2 H2 (x1.trans x2) r2⟩
theorem jne {f:List D->Option (List D)} {E:XK} (ha:AOk As fs):EOkO (jj3 (spO f) [] E As) (jk f fs):=fun G0 H0 G H σ ρ Q d e q k=>by obtain ⟨ds,q1,q2⟩:=bind_some q;exact ha _ _ _ _ _ _ _ _ e q1 fun vs G1 H1 x1 r1=>⟨G1,ds,d,x1.gh,by rw [yW];exact r1,q2,fun a us G2 H2 x2 hn hg hh r2=>k a us G2 H2 (x1.trans x2) (x1.hh.free hn) hg hh r2⟩
end
inductive Res where
 | next (ρ:ef) | ret (d:D) | retO (ds:List D) | brk (ρ:ef) | cnt (ρ:ef) | fail
def ResOk (G0 H0 Gc:Hp) (r:Res) (E:Ends):Prop:=match r with
 | .next ρ=>∀G H σ,Same Gc G->EnvOk G0 H0 G H σ ρ->E.nx σ H
 | .brk ρ=>∀G H σ,Same Gc G->EnvOk G0 H0 G H σ ρ->E.bk σ H
 | .cnt ρ=>∀G H σ,Same Gc G->EnvOk G0 H0 G H σ ρ->E.ct σ H
 | .ret d=>∀G H v,Ext G0 H0 G H->Rep G v d->E.rt v H
 | .retO ds=>∀G H a vs,Ext G0 H0 G H->H0 a=none->G a=none->H a=some (.lst vs)->Reps G vs ds->E.rt (.ref a) H
 | .fail=>False
theorem ResOk.mono {G0 H0 G G':Hp} {r:Res} {E:Ends} (s:Same G G') (h:ResOk G0 H0 G r E):ResOk G0 H0 G' r E:=by
 cases r with
 | next ρ=>exact fun G2 H2 σ s2 e=>h G2 H2 σ (s.trans s2) e
 | brk ρ=>exact fun G2 H2 σ s2 e=>h G2 H2 σ (s.trans s2) e
 | cnt ρ=>exact fun G2 H2 σ s2 e=>h G2 H2 σ (s.trans s2) e
 | ret d=>exact h
 | retO d=>exact h
 | fail=>exact h
abbrev FS:=ef->Res
def Z1 (t:TS) (F:FS):Prop:=∀G0 H0 G H σ ρ E,EnvOk G0 H0 G H σ ρ->ResOk G0 H0 G (F ρ) E->t E σ H
section
variable {t u:TS} {F F':FS} {te:TE} {fe:ef->Option D} {fo:ef->Option (List D)} {tc:TT} {fc:ef->Option Bool}
def ql:FS:=.next
theorem jpN:Z1 job ql:=fun G0 H0 G H σ ρ E e h=>h G H σ (.refl _) e
def jC (F F':FS):FS:=fun ρ=>match F ρ with
 | .next ρ'=>F' ρ'
 | r=>r
theorem jr3 (h:Z1 t F) (h':Z1 u F'):Z1 (jqL t u) (jC F F'):=fun G0 H0 G H σ ρ E e q=>by
 refine h G0 H0 G H σ ρ _ e ?_;unfold jC at q;cases z:F ρ with
 | next ρ'=>rw [z] at q;exact fun G' H' σ' s' e'=>h' G0 H0 G' H' σ' ρ' E e' (q.mono s')
 | ret d=>rw [z] at q;exact q
 | retO d=>rw [z] at q;exact q
 | brk d=>rw [z] at q;exact q
 | cnt d=>rw [z] at q;exact q
 | fail=>rw [z] at q;exact q
def jft (fe:ef->Option D):FS:=fun ρ=>match fe ρ with
 | some _=>.next ρ
 | none=>.fail
theorem joE (h:zx te fe):Z1 (jk2 te) (jft fe):=fun G0 H0 G H σ ρ E e q=>by
 unfold jft at q;split at q
 . rename_i d z;exact h _ _ _ _ _ _ _ _ e z fun v G' H' x r=>q G' H' σ x.gg (e.grow x)
 . exact q.elim
def qM (fe:ef->Option D):FS:=fun ρ=>match fe ρ with
 | some d=>.ret d
 | none=>.fail
theorem jrx (h:EOk te fe):Z1 (jmv te) (qM fe):=fun G0 H0 G H σ ρ E e q=>by
 unfold qM at q;split at q
 . rename_i d z;exact h _ _ _ _ _ _ _ _ e z fun v G' H' x r=>q G' H' v (e.ext.trans x) r
 . exact q.elim
def zO (fo:ef->Option (List D)):FS:=fun ρ=>match fo ρ with
 | some d=>.retO d
 | none=>.fail
theorem jpb (h:EOkO te fo):Z1 (jmv te) (zO fo):=fun G0 H0 G H σ ρ E e q=>by
 unfold zO at q;split at q
 . rename_i d z;exact h _ _ _ _ _ _ _ _ e z fun a vs G' H' x hn hg hh r=>q G' H' a vs (e.ext.trans x) (e.ext.hh.free hn) hg hh r
 . exact q.elim
def jdI (i:Nat):FS:=fun ρ=>match ρ[i]? with
 | some (.ow ds)=>.retO ds
 | _=>.fail
theorem jpB (i:Nat):Z1 (jmv (je1 i)) (jdI i):=fun G0 H0 G H σ ρ E e q=>by
 unfold jdI at q;split at q
 . rename_i ds z;obtain ⟨a,vs,h1,h2,h3,h4,h5⟩:=e.ow z;exact ⟨_,h1,q G H a vs e.ext h2 h3 h4 h5⟩
 . exact q.elim
def Qq (fc:ef->Option Bool) (F F':FS):FS:=fun ρ=>match fc ρ with
 | some true=>F ρ
 | some false=>F' ρ
 | none=>.fail
theorem jsI (hc:TOk tc fc) (h:Z1 t F) (h':Z1 u F'):Z1 (jr4 tc t u) (Qq fc F F'):=fun G0 H0 G H σ ρ E e q=>by
 unfold Qq at q;split at q
 . rename_i z;exact hc _ _ _ _ _ _ _ _ e z fun G' H' x=>by rw [if_pos rfl];exact h _ _ _ _ _ _ _ (e.grow x) (q.mono x.gg)
 . rename_i z;exact hc _ _ _ _ _ _ _ _ e z fun G' H' x=>by rw [if_neg Yh];exact h' _ _ _ _ _ _ _ (e.grow x) (q.mono x.gg)
 . exact q.elim
def jP (i:Nat) (fe:ef->Option D):FS:=fun ρ=>match fe ρ with
 | some d=>.next (ρ.set i (.sh d))
 | none=>.fail
theorem jn8 (i:Nat) (h:EOk te fe):Z1 (jds te (jaa i)) (jP i fe):=fun G0 H0 G H σ ρ E e q=>by
 unfold jP at q;split at q
 . rename_i d z;exact h _ _ _ _ _ _ _ _ e z fun v G' H' x r=>q G' H' _ x.gg ((e.grow x).set r)
 . exact q.elim
def J2 (i:Nat) (fo:ef->Option (List D)):FS:=fun ρ=>match fo ρ with
 | some d=>.next (ρ.set i (.ow d))
 | none=>.fail
theorem jpl (i:Nat) (h:EOkO te fo):Z1 (jds te (jaa i)) (J2 i fo):=fun G0 H0 G H σ ρ E e q=>by
 unfold J2 at q;split at q
 . rename_i d z;exact h _ _ _ _ _ _ _ _ e z fun a vs G' H' x hn hg hh r=>q G' H' _ x.gg (e.setO x hn hg hh r)
 . exact q.elim
def jm9 (i:Nat) (F:FS):FS:=fun ρ=>F (frz i ρ)
theorem Ext.back {G G' H:Hp} (sg:Same G G') (gh:Same G' H):∀G2 H2,Ext G' H G2 H2->∃G3,Ext G H G3 H2/\∀v d,zR d=true->Rep G2 v d->Rep G3 v d:=fun G2 H2 x=>by
 refine ⟨fun b=>match G b,G' b with | none,some _=>none | _,_=>G2 b,⟨x.hh,fun b o q=>?_,fun b o q=>?_,fun b o q=>?_⟩,fun v d f r=>r.flat f⟩
 . show (match G b,G' b with | none,some _=>none | _,_=>G2 b)=some o;rw [q,sg b o q];exact x.gg b o (sg b o q)
 . have q':(match G b,G' b with | none,some _=>none | _,_=>G2 b)=some o:=q;split at q'
   . cases q'
   . exact x.gh b o q'
 . have q':(match G b,G' b with | none,some _=>none | _,_=>G2 b)=some o:=q;cases g:G b with
   | some u=>rw [g,sg b u g] at q';have:G2 b=some u:=x.gg b u (sg b u g);rw [this] at q';exact .inl q'
   | none=>
     cases g':G' b with
     | some u=>rw [g,g'] at q';cases q'
     | none=>
       rw [g,g'] at q';rcases x.nw b o q' with w | w
       . rw [g'] at w;cases w
       . exact .inr w
theorem EnvOk.frz {G0 H0 G H:Hp} {σ:St} {ρ:ef} (i:Nat) (e:EnvOk G0 H0 G H σ ρ):∃G',EnvOk G0 H0 G' H σ (L2.frz i ρ)/\Same G G'/\∀G2 H2,Ext G' H G2 H2->∃G3,Ext G H G3 H2/\∀v d,zR d=true->Rep G2 v d->Rep G3 v d:=by
 have fin:∀(ρ':ef) G',EnvOk G0 H0 G' H σ ρ'->Same G G'->∃G',EnvOk G0 H0 G' H σ ρ'/\Same G G'/\∀G2 H2,Ext G' H G2 H2->∃G3,Ext G H G3 H2/\∀v d,zR d=true->Rep G2 v d->Rep G3 v d:=fun ρ' G' e' s=>⟨G',e',s,Ext.back s e'.same⟩;unfold L2.frz;split
 . rename_i ds z;obtain ⟨a,vs,h1,h2,h3,h4,h5⟩:=e.ow z;exact fin _ _ (e.freeze z h1 h4 h5) (.upd h3)
 . rename_i dss z;obtain ⟨a,bs,h1,h2,h3,h4,h5⟩:=e.oo z;obtain ⟨e1,rr⟩:=e.half z h1 h2 h3 h4 h5;have hi:i<ρ.length:=(Yj.mp z).1;have e2:=e1.freeze (i:=i) (by rw [yo hi]) h1 h2 rr;rw [List.set_set] at e2;have nd':=Y9.mp h3;exact fin _ _ e2 ((jdC e.same).1.trans (.upd (by rw [ZH nd'.1];exact (h4 a Ye).2)))
 . exact fin _ _ e (.refl _)
theorem jsd (i:Nat) (h:Z1 t F):Z1 t (jm9 i F):=fun G0 H0 G H σ ρ E e q=>by obtain ⟨G',e',sg,_⟩:=e.frz i;exact h G0 H0 G' H σ _ E e' (q.mono sg)
variable {ta:TE} {fa:ef->Option D}
def Zf (i:Nat) (fa:ef->Option D):FS:=fun ρ=>match ρ[i]?,fa ρ with
 | some (.ow ds),some d=>if zG ds.length then .next (ρ.set i (.ow (ds++[d]))) else .fail
 | _,_=>.fail
theorem jq2 (i:Nat) (h:EOk ta fa):Z1 (jk2 (tBM Fr.K "list" jeJ (je1 i) (jda ta jjI))) (Zf i fa):=fun G0 H0 G H σ ρ E e q=>by
 unfold Zf at q;split at q
 . rename_i ds d z1 z2;split at q
   . rename_i hz;obtain ⟨a,vs,h1,h2,h3,h4,h5⟩:=e.ow z1;refine ⟨_,h1,.inl ⟨rfl,vs,.inl (.inl h4)⟩,h _ _ _ _ _ _ _ _ e z2 fun v G' H' x r=>?_⟩;have e':=e.grow x;exact ⟨a,vs,v,rfl,rfl,x.hh _ _ h4,by rw [h5.length];exact Zg hz,q G' _ σ x.gg (e'.put z1 h1 ((h5.mono x.gg).snoc r))⟩
   . exact q.elim
 . exact q.elim
def jkv (i:Nat) (fk fa:ef->Option D):FS:=fun ρ=>match ρ[i]?,fa ρ,fk ρ with
 | some (.ow ds),some d,some (.int k)=>match ixN ds.length k with
   | some j=>.next (ρ.set i (.ow (ds.set j d)))
   | none=>.fail
 | _,_,_=>.fail
theorem jrP {tk:TE} {fk:ef->Option D} (i:Nat) (hk:EOk tk fk) (h:EOk ta fa):Z1 (jds ta (jsb (je1 i) tk jlV)) (jkv i fk fa):=fun G0 H0 G H σ ρ E e q=>by
 unfold jkv at q;split at q
 . rename_i ds d k z1 z2 z3;split at q
   . rename_i j hj;obtain ⟨a,vs,h1,h2,h3,h4,h5⟩:=e.ow z1;refine h _ _ _ _ _ _ _ _ e z2 fun v G' H' x r=>⟨_,h1,hk _ _ _ _ _ _ _ _ (e.grow x) z3 fun w G2 H2 x2 r2=>?_⟩
     (have hh:=Rep.of_int r2;subst hh)
     have e':=(e.grow x).grow x2;exact ⟨a,vs,k,j,rfl,rfl,(x.trans x2).hh _ _ h4,by rw [h5.length];exact hj,q G2 _ σ (x.trans x2).gg (e'.put z1 h1 ((h5.mono (x.trans x2).gg).set (r.mono x2.gg) j))⟩
   . exact q.elim
 . exact q.elim
end
def GOk (g:TG) (m:D->ef->Option ef):Prop:=∀G0 H0 G H σ ρ v d ρ' (Q:St->Hp->Prop),EnvOk G0 H0 G H σ ρ->Rep G v d->m d ρ=some ρ'->(∀σ',EnvOk G0 H0 G H σ' ρ'->Q σ' H)->g v σ H Q
def jjl (g:TGs) (m:List D->ef->Option ef):Prop:=∀G0 H0 G H σ ρ vs ds ρ' (Q:St->Hp->Prop),EnvOk G0 H0 G H σ ρ->Reps G vs ds->m ds ρ=some ρ'->(∀σ',EnvOk G0 H0 G H σ' ρ'->Q σ' H)->g vs σ H Q
def jA (i:Nat):D->ef->Option ef:=fun d ρ=>some (ρ.set i (.sh d))
def JD:List D->ef->Option ef
 | [],ρ=>some ρ
 | _,_=>none
def jM (m:D->ef->Option ef) (ms:List D->ef->Option ef):List D->ef->Option ef
 | d::ds,ρ=>(m d ρ).bind fun ρ'=>ms ds ρ'
 | [],_=>none
def Ju (n:Nat) (ms:List D->ef->Option ef):D->ef->Option ef
 | .tup ds,ρ=>if ds.length=n then ms ds ρ else none
 | _,_=>none
theorem jgJ (i:Nat):GOk (jaa i) (jA i):=fun G0 H0 G H σ ρ v d ρ' Q e r q k=>by cases q;exact k _ (e.set r)
theorem jos:jjl joS JD:=fun G0 H0 G H σ ρ vs ds ρ' Q e r q k=>by
 cases r with
 | nil=>cases q;exact ⟨rfl,k _ e⟩
 | cons _ _=>cases q
theorem jk4 {g:TG} {gs:TGs} {m:D->ef->Option ef} {ms:List D->ef->Option ef} (h:GOk g m) (hs:jjl gs ms):jjl (jn5 g gs) (jM m ms):=fun G0 H0 G H σ ρ vs ds ρ' Q e r q k=>by
 cases r with
 | nil=>cases q
 | cons r t=>obtain ⟨ρ1,q1,q2⟩:=bind_some q;exact ⟨_,_,rfl,h _ _ _ _ _ _ _ _ _ _ e r q1 fun σ' e'=>hs _ _ _ _ _ _ _ _ _ _ e' t q2 k⟩
theorem jop {n:Nat} {gs:TGs} {ms:List D->ef->Option ef} (hs:jjl gs ms):GOk (jnJ Fr.K n gs) (Ju n ms):=fun G0 H0 G H σ ρ v d ρ' Q e r q k=>by
 cases r with
 | tup h r=>
   simp only [Ju] at q;split at q
   . rename_i hl;exact ⟨_,_,rfl,.inl (.inl (e.same _ _ h)),by rw [r.length];exact hl,hs _ _ _ _ _ _ _ _ _ _ e r q k⟩
   . cases q
 | _=>cases q
def jkf (m:D->ef->Option ef) (fe:ef->Option D):FS:=fun ρ=>match (fe ρ).bind fun d=>m d ρ with
 | some ρ'=>.next ρ'
 | none=>.fail
theorem jrT {g:TG} {m:D->ef->Option ef} {te:TE} {fe:ef->Option D} (hg:GOk g m) (h:EOk te fe):Z1 (jds te g) (jkf m fe):=fun G0 H0 G H σ ρ E e q=>by
 unfold jkf at q;split at q
 . rename_i ρ' z;obtain ⟨d,z1,z2⟩:=bind_some z;exact h _ _ _ _ _ _ _ _ e z1 fun v G' H' x r=>hg _ _ _ _ _ _ _ _ _ _ (e.grow x) r z2 fun σ' e'=>q G' H' σ' x.gg e'
 . exact q.elim
def Iter (G1 H1:Hp) (J:It) (ds:List D):Prop:=∀(i:Nat) G H,Same G1 G->Same H1 H->Same G H->
 (∀d,ds[i]?=some d->J.go i H/\∀x H',J.yld i H x H'->∃G',Ext G H G' H'/\Rep G' x d)/\(ds[i]?=none->J.stop i H)
def jiY (wi:TI) (f:ef->Option (List D)):Prop:=∀G0 H0 G H σ ρ (R:It->Hp->Prop) ds,EnvOk G0 H0 G H σ ρ->f ρ=some ds->(∀J G' H',Ext G H G' H'->Iter G' H' J ds->R J H')->wi σ H R
def IOk (wi:TI) (f:ef->Option (List D)):Prop:=∀G0 H0 G H σ ρ (R:It->Hp->Prop) ds,EnvOk G0 H0 G H σ ρ->f ρ=some ds->(∀J G' H',Ext G H G' H'->Iter G' G' J ds->R J H')->wi σ H R
theorem Iter.weak {G H:Hp} {J:It} {ds:List D} (h:Iter G G J ds):Iter G H J ds:=fun i G' H' a b c=>h i G' H' a (a.trans c) c
theorem IOk.t {wi:TI} {f:ef->Option (List D)} (h:IOk wi f):jiY wi f:=fun G0 H0 G H σ ρ R ds e q k=>h _ _ _ _ _ _ _ _ e q fun J G' H' x j=>k J G' H' x j.weak
section
variable {te:TE} {fe:ef->Option D} {ta:TA} {fa:ef->Option (List D)}
def qh (fe:ef->Option D):ef->Option (List D):=fun ρ=>match fe ρ with
 | some (.lst l)=>some l
 | _=>none
def jbF (fe:ef->Option D):ef->Option (List D):=fun ρ=>match fe ρ with
 | some (.tup l)=>some l
 | _=>none
end
end
end L2
namespace L2
open PySem PySem.Spec PyProof.Rows
section
variable [Fr]
section
variable {te:TE} {fe:ef->Option D} {ta:TA} {fa:ef->Option (List D)}
theorem Reps.none_of {G:Hp} {vs:List V} {ds:List D} {i:Nat} (r:Reps G vs ds) (h:ds[i]?=none):vs.length<=i:=by rw [r.length];exact Y0.mp h
theorem jdw {G1 H1:Hp} {a:Addr} {vs:List V} {ds:List D} (h:Rd H1 a (.lst vs)) (r:Reps G1 vs ds):Iter G1 H1 (Itl Fr.K a) ds:=fun i G H s1 s2 s3=>by have hq:Jf Fr.K H a vs:=.inl (h.same s2);refine ⟨fun d hd=>?_,fun hd=>⟨vs,hq,r.none_of hd⟩⟩;obtain ⟨v,h1,h2⟩:=r.get hd;refine ⟨⟨vs,v,hq,h1⟩,fun x H' y=>?_⟩;obtain ⟨e,y⟩:=y;subst e;have z:=y vs hq;rw [h1] at z;cases z;exact ⟨G,.refl s3,h2.mono s1⟩
theorem jkO {G1 H1:Hp} {a:Addr} {vs:List V} {ds:List D} (h:H1 a=some (.tup vs)) (r:Reps G1 vs ds):Iter G1 H1 (Itt Fr.K a) ds:=fun i G H s1 s2 s3=>by have hq:SqT Fr.K H a vs:=.inl (.inl (s2 _ _ h));refine ⟨fun d hd=>?_,fun hd=>⟨vs,hq,r.none_of hd⟩⟩;obtain ⟨v,h1,h2⟩:=r.get hd;refine ⟨⟨vs,v,hq,h1⟩,fun x H' y=>?_⟩;obtain ⟨e,y⟩:=y;subst e;have z:=y vs hq;rw [h1] at z;cases z;exact ⟨G,.refl s3,h2.mono s1⟩
def rng (lo:Int) (n:Nat):List D:=(List.range n).map fun (i:Nat)=>D.int (lo+(i:Int))
theorem jkG {G1 H1:Hp} {lo:Int} {n:Nat}:Iter G1 H1 (Itr lo n) (rng lo n):=fun i G H s1 s2 s3=>by
 refine ⟨fun d hd=>?_,fun hd=>?_⟩
 . unfold rng at hd;rw [List.getElem?_map] at hd;cases e:(List.range n)[i]? with
   | none=>rw [e] at hd;cases hd
   | some j=>rw [e] at hd;cases hd;obtain ⟨hi,hj⟩:=Yj.mp e;simp at hi hj;subst hj;refine ⟨hi,fun x H' y=>?_⟩;obtain ⟨e1,e2⟩:=y;subst e1 e2;exact ⟨G,.refl s3,.int _⟩
 . have:=Y0.mp hd;simp [rng] at this;exact this
theorem Ext.newT {G H:Hp} {t:Addr} {o:HO} (s:Same G H) (hn:H t=none):Ext G H (upd G t o) (upd H t o):=(Ext.new s hn).freeze hn (s.free hn) jB
def jaf (l m:List D):List D:=(l.zip m).map fun p=>.tup [p.1,p.2]
theorem jl4 {G1 H1:Hp} {a b:Addr} {vs us:List V} {ds es:List D} (h:Rd H1 a (.lst vs)) (h':Rd H1 b (.lst us)) (r:Reps G1 vs ds) (r':Reps G1 us es):Iter G1 H1 (Itz Fr.K a b) (jaf ds es):=fun i G H s1 s2 s3=>by
 have hq:Jf Fr.K H a vs:=.inl (h.same s2);have hq':Jf Fr.K H b us:=.inl (h'.same s2);refine ⟨fun d hd=>?_,fun hd=>⟨vs,us,hq,hq',?_⟩⟩
 . unfold jaf at hd;rw [List.getElem?_map] at hd;cases e:(ds.zip es)[i]? with
   | none=>rw [e] at hd;cases hd
   | some p=>rw [e] at hd;cases hd;obtain ⟨g1,g2⟩:=YO.mp e;obtain ⟨v,h1,h2⟩:=r.get g1;obtain ⟨u,h3,h4⟩:=r'.get g2;refine ⟨⟨vs,us,v,u,hq,hq',h1,h3⟩,fun x H' y=>?_⟩;obtain ⟨t,x',y',hn,e1,e2,y1,y2⟩:=y;subst e1 e2;have z1:=y1 vs hq;have z2:=y2 us hq';rw [h1] at z1;rw [h3] at z2;cases z1;cases z2;have x:=Ext.newT (o:=.tup [v,u]) s3 hn;exact ⟨_,x,.tup jB (.cons (h2.mono (s1.trans x.gg)) (.cons (h4.mono (s1.trans x.gg)) .nil))⟩
 . have:=Y0.mp hd;simp [jaf] at this;rw [r.length,r'.length];omega
def Zp (l:List D):List D:=(l.zipIdx).map fun p=>.tup [.int p.2,p.1]
theorem jjC {G1 H1:Hp} {a:Addr} {vs:List V} {ds:List D} (h:Rd H1 a (.lst vs)) (r:Reps G1 vs ds):Iter G1 H1 (Ite Fr.K a) (Zp ds):=fun i G H s1 s2 s3=>by
 have hq:Jf Fr.K H a vs:=.inl (h.same s2);refine ⟨fun d hd=>?_,fun hd=>⟨vs,hq,?_⟩⟩
 . unfold Zp at hd;rw [List.getElem?_map,List.getElem?_zipIdx] at hd;cases e:ds[i]? with
   | none=>rw [e] at hd;cases hd
   | some p=>rw [e] at hd;cases hd;obtain ⟨v,h1,h2⟩:=r.get e;refine ⟨⟨vs,v,hq,h1⟩,fun x H' y=>?_⟩;obtain ⟨t,x',hn,e1,e2,y1⟩:=y;subst e1 e2;have z1:=y1 vs hq;rw [h1] at z1;cases z1;have x:=Ext.newT (o:=.tup [.int i,v]) s3 hn;refine ⟨_,x,.tup jB (.cons ?_ (.cons (h2.mono (s1.trans x.gg)) .nil))⟩;simp;exact .int _
 . have:=Y0.mp hd;simp [Zp] at this;rw [r.length];omega
theorem jcw {ρ:ef} {ds:List D} (h:qh fe ρ=some ds):fe ρ=some (.lst ds):=by unfold qh at h;split at h <;> first | (cases h;assumption) | cases h
theorem jhp {ρ:ef} {ds:List D} (h:jbF fe ρ=some ds):fe ρ=some (.tup ds):=by unfold jbF at h;split at h <;> first | (cases h;assumption) | cases h
theorem joL (h:EOk te fe):IOk (jgh Fr.K te) (qh fe):=fun G0 H0 G H σ ρ R ds e q k=>by refine h _ _ _ _ _ _ _ _ e (jcw q) fun v G' H' x r=>?_;obtain ⟨_,_,rfl,h,r⟩:=r.of_lst;exact ⟨_,rfl,⟨_,.inl (h.same x.gh)⟩,k _ G' H' x (jdw h r)⟩
theorem jnz (h:zx te fe):jiY (jgh Fr.K te) (qh fe):=fun G0 H0 G H σ ρ R ds e q k=>by refine h _ _ _ _ _ _ _ _ e (jcw q) fun v G' H' x r=>?_;obtain ⟨_,_,rfl,h,r⟩:=r.of_lst;exact ⟨_,rfl,⟨_,.inl h⟩,k _ G' H' x (jdw h r)⟩
theorem jr5 (h:EOk te fe):IOk (jqe Fr.K te) (jbF fe):=fun G0 H0 G H σ ρ R ds e q k=>by refine h _ _ _ _ _ _ _ _ e (jhp q) fun v G' H' x r=>?_;obtain ⟨_,_,rfl,h,r⟩:=r.of_tup;exact ⟨_,rfl,⟨_,.inl (.inl (x.gh _ _ h))⟩,k _ G' H' x (jkO h r)⟩
def je4 (fa:ef->Option (List D)):ef->Option (List D):=fun ρ=>match fa ρ with
 | some [.int j]=>if -(2 ^ 62)<=j/\j<2 ^ 62 then some (rng 0 j.toNat) else none
 | _=>none
theorem jqf (h:jbs ta fa):IOk (jnR ta) (je4 fa):=fun G0 H0 G H σ ρ R ds e q k=>by
 unfold je4 at q;split at q
 . rename_i j z;split at q
   . rename_i hb;cases q;refine h _ _ _ _ _ _ _ _ e z fun vs G' H' x r=>?_;cases r with
     | cons r t=>(have hh:=RepT.of_int r;subst hh);cases t;exact ⟨j,rfl,hb.1,hb.2,k _ G' H' x jkG⟩
   . cases q
 . cases q
def Zi (fa:ef->Option (List D)):ef->Option (List D):=fun ρ=>match fa ρ with
 | some [.lst l,.lst m]=>some (jaf l m)
 | _=>none
theorem jo4 (h:jbs ta fa):jiY (joF Fr.K ta) (Zi fa):=fun G0 H0 G H σ ρ R ds e q k=>by
 unfold Zi at q;split at q
 . rename_i l m z;cases q;refine h _ _ _ _ _ _ _ _ e z fun vs G' H' x r=>?_;cases r with
   | cons r t=>cases t with | cons r' t=>cases t;cases r with | lst h1 r1=>cases r' with | lst h2 r2=>exact ⟨_,_,_,_,rfl,.inl h1,.inl h2,k _ G' H' x (jl4 h1 h2 r1 r2)⟩
 . cases q
def Qe (fa:ef->Option (List D)):ef->Option (List D):=fun ρ=>match fa ρ with
 | some [.lst l]=>some (Zp l)
 | _=>none
theorem jpC (h:AOk ta fa):IOk (jkJ Fr.K ta) (Qe fa):=fun G0 H0 G H σ ρ R ds e q k=>by
 unfold Qe at q;split at q
 . rename_i l z;cases q;refine h _ _ _ _ _ _ _ _ e z fun vs G' H' x r=>?_;cases r with
   | cons r t=>cases t;cases r with | lst h1 r1=>exact ⟨_,_,rfl,.inl (h1.same x.gh),k _ G' H' x (jjC h1 r1)⟩
 . cases q
end
def Jp (m:D->ef->Option ef) (B:FS):List D->FS
 | [],ρ=>.next ρ
 | d::ds,ρ=>match m d ρ with
   | none=>.fail
   | some ρ1=>match B ρ1 with
     | .next ρ2=>Jp m B ds ρ2
     | .cnt ρ2=>Jp m B ds ρ2
     | .brk ρ2=>.next ρ2
     | .ret d=>.ret d
     | .retO l=>.retO l
     | .fail=>.fail
def JC (fi:ef->Option (List D)) (m:D->ef->Option ef) (B:FS):FS:=fun ρ=>match fi ρ with
 | some ds=>Jp m B ds ρ
 | none=>.fail
theorem jrI {wi:TI} {fi:ef->Option (List D)} {g:TG} {m:D->ef->Option ef} {tb:TS} {B:FS} (hi:IOk wi fi) (hg:GOk g m) (hb:Z1 tb B):Z1 (jrN wi g tb) (JC fi m B):=fun G0 H0 G H σ ρ E e q=>by
 unfold JC at q;split at q
 . rename_i ds z;refine hi _ _ _ _ _ _ _ _ e z fun J G1 H1 x1 it=>?_;refine ⟨fun i n σ' H'=>n=ds.length-i/\i<=ds.length/\∃G' ρ',Same G1 G'/\EnvOk G0 H0 G' H' σ' ρ'/\ResOk G0 H0 G' (Jp m B (ds.drop i) ρ') E,⟨_,rfl,yf _,G1,ρ,.refl _,e.grow x1,q.mono x1.gg⟩,?_⟩;rintro i n σ' H' ⟨rfl,hl,G',ρ',s1,e1,q1⟩;obtain ⟨go,stop⟩:=it i G' H' s1 (s1.trans e1.same) e1.same;by_cases hlt:i<ds.length
   . have hd:ds[i]?=some ds[i]:=Yb hlt;obtain ⟨g1,g2⟩:=go _ hd;rw [Kg hlt] at q1;simp only [Jp] at q1;split at q1
     . exact q1.elim
     . rename_i ρ1 hm;refine .inr ⟨g1,fun σ2 H2=>∃G2 ρ2,Same G1 G2/\EnvOk G0 H0 G2 H2 σ2 ρ2/\ResOk G0 H0 G2 (Jp m B (ds.drop (i+1)) ρ2) E,fun σ2 H2 ⟨G2,ρ2,a1,a2,a3⟩=>⟨_,by omega,rfl,hlt,G2,ρ2,a1,a2,a3⟩,fun x H2 y=>?_⟩;obtain ⟨G2,x2,r2⟩:=g2 x H2 y;refine hg _ _ _ _ _ _ _ _ _ _ (e1.grow x2) r2 hm fun σ2 e2=>hb _ _ _ _ _ _ _ e2 ?_;have q2:=q1.mono x2.gg;have s2:=s1.trans x2.gg;cases hB:B ρ1 with
       | next ρ2=>rw [hB] at q2;exact fun G3 H3 σ3 s3 e3=>⟨G3,ρ2,s2.trans s3,e3,q2.mono s3⟩
       | cnt ρ2=>rw [hB] at q2;exact fun G3 H3 σ3 s3 e3=>⟨G3,ρ2,s2.trans s3,e3,q2.mono s3⟩
       | brk ρ2=>rw [hB] at q2;exact q2
       | ret d=>rw [hB] at q2;exact q2
       | retO d=>rw [hB] at q2;exact q2
       | fail=>rw [hB] at q2;exact q2
   . have hd:ds[i]?=none:=Y0.mpr (by omega);rw [K4 (by omega)] at q1;exact .inl ⟨stop hd,q1 G' H' σ' (.refl _) e1⟩
 . exact q.elim
def wh (c:ef->Option Bool) (B:FS):Nat->ef->Option Res
 | 0,_=>none
 | n+1,ρ=>match c ρ with
   | none=>some .fail
   | some false=>some (.next ρ)
   | some true=>match B ρ with
     | .next ρ2=>wh c B n ρ2
     | .cnt ρ2=>wh c B n ρ2
     | .brk ρ2=>some (.next ρ2)
     | .ret d=>some (.ret d)
     | .retO l=>some (.retO l)
     | .fail=>some .fail
open Classical in
def JZ (c:ef->Option Bool) (B:FS):FS:=fun ρ=>if h:∃n r,wh c B n ρ=some r then h.choose_spec.choose else .fail
omit [Fr] in
theorem jh2 {c:ef->Option Bool} {B:FS}:∀{n k:Nat} {ρ:ef} {r:Res},wh c B n ρ=some r->wh c B (n+k) ρ=some r
 | 0,_,_,_,h=>by cases h
 | n+1,k,ρ,r,h=>by
   rw [Nat.add_right_comm];unfold wh at h ⊢;cases hc:c ρ with
   | none=>rw [hc] at h;exact h
   | some b=>
     rw [hc] at h;cases b with
     | false=>exact h
     | true=>
       dsimp only at h ⊢;cases hB:B ρ with
       | next ρ2=>rw [hB] at h;exact jh2 h
       | cnt ρ2=>rw [hB] at h;exact jh2 h
       | brk ρ2=>rw [hB] at h;exact h
       | ret d=>rw [hB] at h;exact h
       | retO d=>rw [hB] at h;exact h
       | fail=>rw [hB] at h;exact h
omit [Fr] in
theorem jpS {c:ef->Option Bool} {B:FS} {n k:Nat} {ρ:ef} {r r':Res} (h:wh c B n ρ=some r) (h':wh c B k ρ=some r'):r=r':=by have a:=jh2 (k:=k) h;have b:=jh2 (k:=n) h';rw [Nat.add_comm k n,a] at b;exact Option.some.inj b
omit [Fr] in
theorem jdV {c:ef->Option Bool} {B:FS} {n:Nat} {ρ:ef} {r:Res} (h:wh c B n ρ=some r):JZ c B ρ=r:=by unfold JZ;have hx:∃n r,wh c B n ρ=some r:=⟨n,r,h⟩;rw [dif_pos hx];exact jpS hx.choose_spec.choose_spec h
theorem jnG {tc:TT} {c:ef->Option Bool} {tb:TS} {B:FS} (hc:TOk tc c) (hb:Z1 tb B):Z1 (jhb tc tb) (JZ c B):=fun G0 H0 G H σ ρ E e q=>by
 by_cases hx:∃n r,wh c B n ρ=some r
 . obtain ⟨n,r,hr⟩:=hx;rw [jdV hr] at q;refine ⟨fun n σ' H'=>∃G' ρ' r,EnvOk G0 H0 G' H' σ' ρ'/\wh c B n ρ'=some r/\ResOk G0 H0 G' r E,⟨n,G,ρ,r,e,hr,q⟩,?_⟩;rintro n σ' H' ⟨G',ρ',r,e1,h1,q1⟩;cases n with
   | zero=>cases h1
   | succ n=>
     unfold wh at h1;split at h1
     . cases h1;exact q1.elim
     . rename_i z;cases h1;exact hc _ _ _ _ _ _ _ _ e1 z fun G2 H2 x=>by rw [if_neg Yh];exact q1 G2 H2 σ' x.gg (e1.grow x)
     . rename_i z;refine hc _ _ _ _ _ _ _ _ e1 z fun G2 H2 x=>?_;rw [if_pos rfl];refine ⟨fun σ2 H2=>∃G' ρ' r,EnvOk G0 H0 G' H2 σ2 ρ'/\wh c B n ρ'=some r/\ResOk G0 H0 G' r E,fun σ2 H2 w=>⟨n,yK n,w⟩,hb _ _ _ _ _ _ _ (e1.grow x) ?_⟩;have q2:=q1.mono x.gg;cases hB:B ρ' with
       | next ρ2=>rw [hB] at h1;exact fun G3 H3 σ3 s3 e3=>⟨G3,ρ2,r,e3,h1,q2.mono s3⟩
       | cnt ρ2=>rw [hB] at h1;exact fun G3 H3 σ3 s3 e3=>⟨G3,ρ2,r,e3,h1,q2.mono s3⟩
       | brk ρ2=>rw [hB] at h1;cases h1;exact q2
       | ret d=>rw [hB] at h1;cases h1;exact q2
       | retO d=>rw [hB] at h1;cases h1;exact q2
       | fail=>rw [hB] at h1;cases h1;exact q2
 . unfold JZ at q;rw [dif_neg hx] at q;exact q.elim
def zU (n:Nat) (ix:List Nat) (ρ:ef):ef:=List.replicate n .un++ix.map fun k=>match ρ[k]? with
 | some (.sh d)=>.sh d
 | _=>.un
theorem jkk {G0 H0 G H:Hp} {σ:St} {ρ:ef} (n:Nat) (ix:List Nat) (e:EnvOk G0 H0 G H σ ρ):EnvOk G0 H0 G H (Jv n σ ix) (zU n ix ρ):=by
 have key:∀(i:Nat) s,(zU n ix ρ)[i]?=some s->s=.un\/∃d k,s=.sh d/\n<=i/\ix[i-n]?=some k/\ρ[k]?=some (.sh d):=fun i s h=>by
  unfold zU at h;rcases yh i n with hi | hi
  . rw [YD ‹"ab"›,List.getElem?_replicate] at h;simp [hi] at h;exact .inl h.symm
  . rw [YH ‹"ab"›,List.length_replicate,List.getElem?_map] at h;cases e1:ix[i-n]? with
    | none=>rw [e1] at h;cases h
    | some k=>
      rw [e1] at h;simp only [Yy,Option.some.injEq] at h;split at h
      . rename_i d hd;exact .inr ⟨d,k,h.symm,hi,rfl,hd⟩
      . exact .inl h.symm
 refine ⟨e.ext,by simp [Jv,zU,capt],fun i o s h1 h2=>?_,fun i j o o' s s' b h1 h2 h3 h4 f f'=>?_⟩
 . rcases key i s h2 with rfl | ⟨d,k,rfl,hi,hk,hd⟩
   . exact .un _
   . obtain ⟨v,hv,r⟩:=e.sh hd;unfold Jv at h1;rw [YH ‹"ab"›,List.length_replicate] at h1;unfold capt at h1;rw [List.getElem?_map,hk] at h1;simp only [Yy,Option.some.injEq] at h1;rw [hv] at h1;subst h1;exact .sh r
 . rcases key i _ h2 with z | ⟨d,k,z,_⟩
   . subst z;cases o with | none=>exact f.elim | some v=>cases v <;> exact f.elim
   . subst z;cases o with | none=>exact f.elim | some v=>cases v <;> exact f.elim
def jak (m:D->ef->Option ef) (ft:ef->Option Bool) (fe:ef->Option D) (ρ:ef):List D->Option (List D)
 | []=>some []
 | d::ds=>(m d ρ).bind fun ρ1=>(ft ρ1).bind fun b=>if b then (fe ρ1).bind fun y=>(jak m ft fe ρ ds).map (y::·) else jak m ft fe ρ ds
def Qp (fi:ef->Option (List D)) (m:D->ef->Option ef) (ft:ef->Option Bool) (fe:ef->Option D) (n:Nat) (ix:List Nat):ef->Option (List D):=fun ρ=>(fi ρ).bind fun ds=>if zG ds.length then jak m ft fe (zU n ix ρ) ds else none
theorem jrf {wi:TI} {fi:ef->Option (List D)} {g:TG} {m:D->ef->Option ef} {tt:TT} {ft:ef->Option Bool} {te:TE} {fe:ef->Option D} (n:Nat) (ix:List Nat) (hi:jiY wi fi) (hg:GOk g m) (ht:TOk tt ft) (he:EOk te fe) :
 EOkO (tLC wi g tt te n ix) (Qp fi m ft fe n ix):=fun G0 H0 G H σ ρ Q es e q k=>by
 obtain ⟨ds,q1,q2⟩:=bind_some q;split at q2
 . rename_i hz;refine hi _ _ _ _ _ _ _ _ e q1 fun J G1 H1 x1 it=>?_;refine ⟨fun i n' ys H'=>n'=ds.length-i/\i<=ds.length/\ys.length<=i/\∃G' gs hs,Ext G1 H1 G' H'/\Reps G' ys gs/\jak m ft fe (zU n ix ρ) (ds.drop i)=some hs/\gs++hs=es,⟨_,rfl,yf _,Ym _,G1,[],es,.refl x1.gh,.nil,q2,rfl⟩,?_⟩;rintro i n' ys H' ⟨rfl,hl,hy,G',gs,hs,x2,r2,hlc,hes⟩;have hz':=Zg hz;obtain ⟨go,stop⟩:=it i G' H' x2.gg x2.hh x2.gh;by_cases hlt:i<ds.length
   . have hd:ds[i]?=some ds[i]:=Yb hlt;obtain ⟨g1,g2⟩:=go _ hd;rw [Kg hlt] at hlc;simp only [jak] at hlc;obtain ⟨ρ1,hm,hlc⟩:=bind_some hlc;obtain ⟨b,hb,hlc⟩:=bind_some hlc;refine .inr ⟨g1,by omega,fun ys' H'=>ys'.length<=i+1/\∃G' gs hs,Ext G1 H1 G' H'/\Reps G' ys' gs/\jak m ft fe (zU n ix ρ) (ds.drop (i+1))=some hs/\gs++hs=es,fun ys' H' ⟨a0,a⟩=>⟨_,by omega,rfl,hlt,a0,a⟩,fun x H2 y=>?_⟩;obtain ⟨G2,x3,r3⟩:=g2 x H2 y;have e3:EnvOk G0 H0 G2 H2 (Jv n σ ix) (zU n ix ρ):=(jkk n ix e).grow ‹"Y"›;refine hg _ _ _ _ _ _ _ _ _ _ e3 r3 hm fun σ2 e4=>ht _ _ _ _ _ _ _ _ e4 hb fun G4 H4 x4=>?_;have x24:=(x2.trans x3).trans x4;cases b with
     | false=>rw [if_neg Yh] at hlc ⊢;exact ⟨by omega,G4,gs,hs,x24,r2.mono (x3.trans x4).gg,hlc,hes⟩
     | true=>rw [if_pos rfl] at hlc ⊢;obtain ⟨y',hy',hlc⟩:=bind_some hlc;obtain ⟨hs',hh,hlc⟩:=map_some hlc;subst hlc;refine he _ _ _ _ _ _ _ _ (e4.grow x4) hy' fun v G5 H5 x5 r5=>⟨by simp;omega,G5,gs++[y'],hs',x24.trans x5,((r2.mono ((x3.trans x4).trans x5).gg).snoc r5),hh,by simpa using hes⟩
   . have hd:ds[i]?=none:=Y0.mpr (by omega);rw [K4 (by omega)] at hlc;cases hlc;rw [yW] at hes;subst hes;refine .inl ⟨stop hd,by omega,fun p hp=>?_⟩;exact k p ys G' _ ((x1.trans x2).trans (.new x2.gh hp)) ((x1.trans x2).hh.free hp) (x2.gh.free hp) jB r2
 . cases q2
def qK (n:Nat) (ds:List D):ef:=ds.map .sh++List.replicate (n-ds.length) .un
def jei:Res->Option D
 | .ret d=>some d
 | .retO es=>some (.lst es)
 | .next _=>some .non
 | _=>none
def jdt:Res->Option (List D)
 | .retO es=>some es
 | _=>none
def ze (k n:Nat) (F:FS) (ds:List D):Option D:=if ds.length=k then jei (F (qK n ds)) else none
def Jk (k n:Nat) (F:FS) (ds:List D):Option (List D):=if ds.length=k then jdt (F (qK n ds)) else none
theorem jid {G H:Hp} {vs:List V} {ds:List D} {k n:Nat} (s:Same G H) (r:Reps G vs ds) (hk:k=n-vs.length):EnvOk G H G H (vs.map some++List.replicate k none) (qK n ds):=by
 have hl:=r.length;refine ⟨.refl s,by simp [qK,hl,hk],fun i o s' h1 h2=>?_,fun i j o o' s s' b h1 h3 _ _ f _=>?_⟩
 . unfold qK at h2;rcases yh i ds.length with hi | hi
   . rw [YD ‹"ab"›,List.getElem?_map] at h2;rw [YD (by simpa [hl] using hi),List.getElem?_map] at h1;have hd:ds[i]?=some ds[i]:=Yb hi;obtain ⟨v,g1,g2⟩:=r.get hd;rw [g1] at h1;rw [hd] at h2;cases h1;cases h2;exact .sh g2
   . rw [YH ‹"ab"›,List.getElem?_replicate] at h2;split at h2
     . cases h2;exact .un _
     . cases h2
 . exfalso;unfold qK at h3;rcases yh i ds.length with hi | hi
   . rw [YD ‹"ab"›,List.getElem?_map] at h3;have hd:ds[i]?=some ds[i]:=Yb hi;rw [hd] at h3;cases h3;cases o with | none=>exact f.elim | some v=>cases v <;> exact f.elim
   . rw [YH ‹"ab"›,List.getElem?_replicate] at h3;split at h3
     . cases h3;cases o with | none=>exact f.elim | some v=>cases v <;> exact f.elim
     . cases h3
theorem jrh {k n:Nat} {F:FS} {vs:List V} {H:Hp} {Q:VK} {E:XK} (q:spS (ze k n F) vs H Q E):vs.length=k:=by
 obtain ⟨G,ds,d,s,r,hf,fin⟩:=q;unfold ze at hf;split at hf
 . rename_i h;rw [r.length];exact h
 . cases hf
theorem jq3 {k n:Nat} {F:FS} {vs:List V} {H:Hp} {Q:VK} {E:XK} (q:spO (Jk k n F) vs H Q E):vs.length=k:=by
 obtain ⟨G,ds,d,s,r,hf,fin⟩:=q;unfold Jk at hf;split at hf
 . rename_i h;rw [r.length];exact h
 . cases hf
theorem jp3 {t:TS} {F:FS} {a n k:Nat} {vs:List V} {H:Hp} {Q:VK} {E:XK} (h:Z1 t F) (hk:k=n-vs.length) (q:spS (ze a n F) vs H Q E):t { nx:=fun _ H'=>Q .non H',rt:=Q } (vs.map some++List.replicate k none) H:=by
 obtain ⟨G,ds,d,s,r,hf,fin⟩:=q;refine h G H G H _ _ _ (jid s r hk) ?_;unfold ze at hf;split at hf
 . cases z:F (qK n ds) with
   | next ρ=>rw [z] at hf;cases hf;exact fun G' H' σ _ e=>fin _ G' H' e.ext .non
   | ret d=>rw [z] at hf;cases hf;exact fun G' H' v x r=>fin v G' H' x r
   | retO es=>rw [z] at hf;cases hf;exact fun G' H' a us x hn hg hh r=>fin _ _ H' (x.freeze hn hg hh) (.lst (.inl jB) (r.mono (.upd hg)))
   | brk _=>rw [z] at hf;cases hf
   | cnt _=>rw [z] at hf;cases hf
   | fail=>rw [z] at hf;cases hf
 . cases hf
theorem joT {t:TS} {F:FS} {a n k:Nat} {vs:List V} {H:Hp} {Q:VK} {E:XK} (h:Z1 t F) (hk:k=n-vs.length) (q:spO (Jk a n F) vs H Q E):t { nx:=fun _ H'=>Q .non H',rt:=Q } (vs.map some++List.replicate k none) H:=by
 obtain ⟨G,ds,d,s,r,hf,fin⟩:=q;refine h G H G H _ _ _ (jid s r hk) ?_;unfold Jk at hf;split at hf
 . cases z:F (qK n ds) with
   | retO es=>rw [z] at hf;cases hf;exact fun G' H' a us x hn hg hh r=>fin a us G' H' x hn hg hh r
   | _=>rw [z] at hf;cases hf
 . cases hf
end
end L2
namespace L2
open PySem PySem.Spec PyProof.Rows
def J8:List D->Option (List Int)
 | []=>some []
 | .int i::l=>(J8 l).map (i::·)
 | _=>none
theorem JL:∀ns:List Int,J8 (ns.map D.int)=some ns
 | []=>rfl
 | n::ns=>by simp [J8,JL ns]
theorem Jd:∀{l:List D} {ns:List Int},J8 l=some ns->l=ns.map D.int
 | [],_,h=>by cases h;rfl
 | .int i::l,ns,h=>by obtain ⟨ms,h1,h2⟩:=map_some h;subst h2;rw [Jd h1];rfl
 | .bl _::_,_,h=>by cases h
 | .non::_,_,h=>by cases h
 | .str _::_,_,h=>by cases h
 | .lst _::_,_,h=>by cases h
 | .tup _::_,_,h=>by cases h
 | .scr _::_,_,h=>by cases h
def jdk:List D->Option (List Bool)
 | []=>some []
 | .bl i::l=>(jdk l).map (i::·)
 | _=>none
theorem ZM:∀ns:List Bool,jdk (ns.map D.bl)=some ns
 | []=>rfl
 | n::ns=>by simp [jdk,ZM ns]
theorem jbc:∀{l:List D} {ns:List Bool},jdk l=some ns->l=ns.map D.bl
 | [],_,h=>by cases h;rfl
 | .bl i::l,ns,h=>by obtain ⟨ms,h1,h2⟩:=map_some h;subst h2;rw [jbc h1];rfl
 | .int _::_,_,h=>by cases h
 | .non::_,_,h=>by cases h
 | .str _::_,_,h=>by cases h
 | .lst _::_,_,h=>by cases h
 | .tup _::_,_,h=>by cases h
 | .scr _::_,_,h=>by cases h
def jfF:List Int->Option Int
 | []=>none
 | x::l=>match jfF l with
   | none=>some x
   | some y=>some (if y<x then y else x)
def jb9:List Int->Option Int
 | []=>none
 | x::l=>match jb9 l with
   | none=>some x
   | some y=>some (if x<y then y else x)
theorem jgk:∀{l:List Int},jfF l=none->l=[]
 | [],_=>rfl
 | x::l,h=>by unfold jfF at h;split at h <;> cases h
theorem jdd:∀{l:List Int},jb9 l=none->l=[]
 | [],_=>rfl
 | x::l,h=>by unfold jb9 at h;split at h <;> cases h
theorem jes:∀{l:List Int} {m:Int},jfF l=some m->m∈l/\∀a∈l,m<=a
 | [],_,h=>by cases h
 | x::l,m,h=>by
   unfold jfF at h;split at h
   . rename_i z;cases h;rw [jgk z];simp
   . rename_i y z;cases h;obtain ⟨h1,h2⟩:=jes z;refine ⟨by split <;> simp [h1],fun a ha=>?_⟩;rcases Yk.mp ha with rfl | ha
     . split <;> omega
     . have:=h2 a ha;split <;> omega
theorem jeM:∀{l:List Int} {m:Int},jb9 l=some m->m∈l/\∀a∈l,a<=m
 | [],_,h=>by cases h
 | x::l,m,h=>by
   unfold jb9 at h;split at h
   . rename_i z;cases h;rw [jdd z];simp
   . rename_i y z;cases h;obtain ⟨h1,h2⟩:=jeM z;refine ⟨by split <;> simp [h1],fun a ha=>?_⟩;rcases Yk.mp ha with rfl | ha
     . split <;> omega
     . have:=h2 a ha;split <;> omega
section
variable [Fr]
theorem RepTs.one {G H:Hp} {xs:List V} {d:D} (h:RepTs G H xs [d]):∃v,xs=[v]/\RepT G H v d:=by cases h with | cons r t=>cases t;exact ⟨_,rfl,r⟩
theorem RepTs.two {G H:Hp} {xs:List V} {d e:D} (h:RepTs G H xs [d,e]):∃v u,xs=[v,u]/\RepT G H v d/\RepT G H u e:=by cases h with | cons r t=>cases t with | cons r' t=>cases t;exact ⟨_,_,rfl,r,r'⟩
section
variable {As:TA} {fs:ef->Option (List D)} {ta:TE} {fa:ef->Option D}
def QX:List D->Option D
 | [.lst l]=>some (.int l.length)
 | [.tup l]=>some (.int l.length)
 | [.scr l]=>some (.int l.length)
 | [.str z]=>if z.length<=sizeLine then some (.int z.length) else none
 | _=>none
theorem jkN {ds:List D} {d:D} (q:QX ds=some d):(∃l,ds=[.lst l]/\D.int l.length=d)\/(∃l,ds=[.tup l]/\D.int l.length=d)\/(∃l,ds=[.scr l]/\D.int l.length=d)\/∃z,ds=[.str z]/\z.length<=sizeLine/\D.int z.length=d:=by
 cases ds with
 | nil=>exact qf q
 | cons x t=>
   cases t with
   | cons y t=>cases x <;> exact qf q
   | nil=>
     cases x with
     | lst l=>exact .inl ⟨l,rfl,Option.some.inj q⟩
     | tup l=>exact .inr (.inl ⟨l,rfl,Option.some.inj q⟩)
     | scr l=>exact .inr (.inr (.inl ⟨l,rfl,Option.some.inj q⟩))
     | str z=>
       by_cases c:z.length<=sizeLine
       . exact .inr (.inr (.inr ⟨z,rfl,c,Option.some.inj ((if_pos c).symm.trans q)⟩))
       . exact qf ((if_neg c).symm.trans q)
     | _=>exact qf q
theorem jrn:jeo (fun xs H Q=>(∃p ys,xs=[.ref p]/\(Jf Fr.K H p ys\/SqT Fr.K H p ys)/\Q (.int ys.length) H)\/∃z,xs=[.str z]/\z.length<=sizeLine/\Q (.int z.length) H) QX:=fun G H xs ds d Q s rr q k=>by
 rcases jkN q with ⟨l,rfl,rfl⟩ | ⟨l,rfl,rfl⟩ | ⟨l,rfl,rfl⟩ | ⟨z,rfl,hz,rfl⟩
 . obtain ⟨v,rfl,r⟩:=rr.one;cases r with | lst h r=>exact .inl ⟨_,_,rfl,.inl (.inl h),by rw [r.length];exact k _ G H (.refl s) (.int _)⟩
 . obtain ⟨v,rfl,r⟩:=rr.one;cases r with | tup h r=>exact .inl ⟨_,_,rfl,.inr (.inl (.inl h)),by rw [r.length];exact k _ G H (.refl s) (.int _)⟩
 . obtain ⟨v,rfl,r⟩:=rr.one;cases r with | scr h=>exact .inl ⟨_,_,rfl,.inl h,by rw [Yd];exact k _ G H (.refl s) (.int _)⟩
 . obtain ⟨v,rfl,r⟩:=rr.one
   (have hh:=RepT.of_str r;subst hh)
   exact .inr ⟨_,rfl,hz,k _ G H (.refl s) (.int _)⟩
def jdF:List D->Option (List D)
 | [.lst l]=>some l
 | [.tup l]=>some l
 | _=>none
theorem jpZ:jix (fun xs H Q=>∃p ys,xs=[.ref p]/\(Jf Fr.K H p ys\/SqT Fr.K H p ys)/\∀l,H l=none->Q (.ref l) (upd H l (.lst ys))) jdF:=fun G H xs ds d Q s rr q k=>by
 unfold jdF at q;split at q
 . cases q;obtain ⟨v,rfl,r⟩:=rr.one;cases r with | lst h r=>exact ⟨_,_,rfl,.inl (.inl h),fun l hl=>k l _ G _ (.new s hl) hl (s.free hl) jB r⟩
 . cases q;obtain ⟨v,rfl,r⟩:=rr.one;cases r with | tup h r=>exact ⟨_,_,rfl,.inr (.inl (.inl h)),fun l hl=>k l _ G _ (.new s hl) hl (s.free hl) jB r⟩
 . cases q
def js8:List D->Option D
 | [.lst l]=>some (.tup l)
 | _=>none
def Qb:List D->Option D
 | [.lst l]=>(J8 l).map fun ns=>.int ns.sum
 | _=>none
theorem jq1:jeo (fun xs H Q=>∃(p:Addr) (ns:List Int),xs=[.ref p]/\Jf Fr.K H p (ns.map V.int)/\Q (.int ns.sum) H) Qb:=fun G H xs ds d Q s rr q k=>by
 unfold Qb at q;split at q
 . obtain ⟨ns,q1,q2⟩:=map_some q;subst q2;obtain ⟨v,rfl,r⟩:=rr.one;obtain ⟨_,_,rfl,h,r⟩:=r.of_lst;rw [Jd q1] at r;rw [r.ints] at h;exact ⟨_,ns,rfl,.inl h,k _ G H (.refl s) (.int _)⟩
 . cases q
def ji3:List D->Option D
 | [.lst l]=>(jdk l).map fun ns=>.bl (ns.all id)
 | _=>none
theorem jqM:jeo (fun xs H Q=>∃(p:Addr) (ns:List Bool),xs=[.ref p]/\Jf Fr.K H p (ns.map V.bl)/\Q (.bl (ns.all id)) H) ji3:=fun G H xs ds d Q s rr q k=>by
 unfold ji3 at q;split at q
 . obtain ⟨ns,q1,q2⟩:=map_some q;subst q2;obtain ⟨v,rfl,r⟩:=rr.one;obtain ⟨_,_,rfl,h,r⟩:=r.of_lst;rw [jbc q1] at r;rw [r.bls] at h;exact ⟨_,ns,rfl,.inl h,k _ G H (.refl s) (.bl _)⟩
 . cases q
def jcB:List D->Option D
 | [.int i,.int j]=>some (.int (if j<i then j else i))
 | _=>none
def jgu:List D->Option D
 | [.int i,.int j]=>some (.int (if j>i then j else i))
 | _=>none
theorem joD:jeo (fun xs H Q=>∃i j,xs=[.int i,.int j]/\Q (.int (if j<i then j else i)) H) jcB:=fun G H xs ds d Q s rr q k=>by
 unfold jcB at q;split at q
 . cases q;obtain ⟨v,u,rfl,r,r'⟩:=rr.two
   (have hh:=RepT.of_int r;subst hh)
   (have hh:=RepT.of_int r';subst hh)
   exact ⟨_,_,rfl,k _ G H (.refl s) (.int _)⟩
 . cases q
theorem jpR:jeo (fun xs H Q=>∃i j,xs=[.int i,.int j]/\Q (.int (if j>i then j else i)) H) jgu:=fun G H xs ds d Q s rr q k=>by
 unfold jgu at q;split at q
 . cases q;obtain ⟨v,u,rfl,r,r'⟩:=rr.two
   (have hh:=RepT.of_int r;subst hh)
   (have hh:=RepT.of_int r';subst hh)
   exact ⟨_,_,rfl,k _ G H (.refl s) (.int _)⟩
 . cases q
def jfi:List D->Option D
 | [.lst l]=>(J8 l).bind fun ns=>(jfF ns).map .int
 | _=>none
theorem jqy:jeo (fun xs H Q=>∃(p:Addr) (ns:List Int),xs=[.ref p]/\Jf Fr.K H p (ns.map V.int)/\0<ns.length/\∀M,M∈ns->(∀a∈ns,M<=a)->Q (.int M) H) jfi:=fun G H xs ds d Q s rr q k=>by
 unfold jfi at q;split at q
 . obtain ⟨ns,q1,q2⟩:=bind_some q;obtain ⟨m,q4,q3⟩:=map_some q2;subst q3;obtain ⟨v,rfl,r⟩:=rr.one;obtain ⟨m1,m2⟩:=jes q4;obtain ⟨_,_,rfl,h,r⟩:=r.of_lst;rw [Jd q1] at r;rw [r.ints] at h;refine ⟨_,ns,rfl,.inl h,List.length_pos_of_mem m1,fun M h1 h2=>?_⟩;have e:M=m:=by have:=h2 m m1;have:=m2 M h1;omega
   subst e;exact k _ G H (.refl s) (.int _)
 . cases q
def jpf:List D->Option D
 | [.int i]=>some (.int i)
 | [.bl b]=>some (.int (if b then 1 else 0))
 | _=>none
theorem jrr:jeo (fun xs H Q=>(∃i,xs=[.int i]/\Q (.int i) H)\/∃k,xs=[.bl k]/\Q (.int (if k then 1 else 0)) H) jpf:=fun G H xs ds d Q s rr q k=>by
 unfold jpf at q;split at q
 . cases q;obtain ⟨v,rfl,r⟩:=rr.one
   (have hh:=RepT.of_int r;subst hh)
   exact .inl ⟨_,rfl,k _ G H (.refl s) (.int _)⟩
 . cases q;obtain ⟨v,rfl,r⟩:=rr.one
   (have hh:=RepT.of_bl r;subst hh)
   exact .inr ⟨_,rfl,k _ G H (.refl s) (.int _)⟩
 . cases q
def vOf:D->V
 | .int i=>.int i
 | .bl b=>.bl b
 | .str z=>.str z
 | _=>.non
theorem RepT.v {G H:Hp} {v:V} {d:D} (r:RepT G H v d) (f:zR d=true):v=vOf d:=by cases r <;> first | rfl | cases f
theorem Rep.v {G:Hp} {v:V} {d:D} (r:Rep G v d) (f:zR d=true):v=vOf d:=by cases r <;> first | rfl | cases f
theorem jaU {d:D} (f:zR d=true):jfR (vOf d)=true:=by cases d <;> first | rfl | cases f
def Qc (xs:List D) (lo hi:Option Int):List D:=(xs.drop (HT.sIx xs.length 0 lo)).take ‹"aq"›
def POk (t:TO) (f:ef->Option (Option Int)):Prop:=∀G0 H0 G H σ ρ (Q:Option Int->Hp->Prop) b,EnvOk G0 H0 G H σ ρ->f ρ=some b->(∀G' H',Ext G H G' H'->Q b H')->t σ H Q
def pNo:ef->Option (Option Int):=fun _=>some none
def pSo (fa:ef->Option D):ef->Option (Option Int):=fun ρ=>match fa ρ with
 | some (.int i)=>some (some i)
 | _=>none
theorem jsS:POk jiE pNo:=fun G0 H0 G H σ ρ Q b e q k=>by cases q;exact k G H (.refl e.same)
theorem jsU (h:zx ta fa):POk (jnW ta) (pSo fa):=fun G0 H0 G H σ ρ Q b e q k=>by
 unfold pSo at q;split at q
 . rename_i i z;cases q;refine h _ _ _ _ _ _ _ _ e z fun v G' H' x r=>?_
   (have hh:=RepT.of_int r;subst hh)
   exact ⟨_,rfl,k G' H' x⟩
 . cases q
def eSl (fa:ef->Option D) (fl fh:ef->Option (Option Int)):ef->Option (List D):=fun ρ=>match fa ρ,fl ρ,fh ρ with
 | some (.lst l),some lo,some hi=>some (Qc l lo hi)
 | some (.scr ns),some lo,some hi=>some (Qc (ns.map .int) lo hi)
 | _,_,_=>none
theorem jsR {tl th:TO} {fl fh:ef->Option (Option Int)} (h:zx ta fa) (hl:POk tl fl) (hh:POk th fh):EOkO (tSl (jpA Fr.K) ta tl th) (eSl fa fl fh):=fun G0 H0 G H σ ρ Q ds e q k=>by
 unfold eSl at q;split at q
 . rename_i l lo hi z1 z2 z3;cases q;refine h _ _ _ _ _ _ _ _ e z1 fun v G1 H1 x1 r=>hl _ _ _ _ _ _ _ _ (e.grow x1) z2 fun G2 H2 x2=>hh _ _ _ _ _ _ _ _ ((e.grow x1).grow x2) z3 fun G3 H3 x3=>?_;obtain ⟨_,_,rfl,h,r⟩:=r.of_lst;have x:=(x1.trans x2).trans x3;have r3:=r.mono (x2.trans x3).gg;refine ⟨_,_,rfl,.inl (h.same (x2.trans x3).hh),fun p hp=>k p _ G3 _ (x.trans (.new x3.gh hp)) (x.hh.free hp) (x3.gh.free hp) jB ?_⟩;unfold jiQ Qc;rw [r.length];exact (r3.drop _).take _
 . rename_i ns lo hi z1 z2 z3;cases q;refine h _ _ _ _ _ _ _ _ e z1 fun v G1 H1 x1 r=>hl _ _ _ _ _ _ _ _ (e.grow x1) z2 fun G2 H2 x2=>hh _ _ _ _ _ _ _ _ ((e.grow x1).grow x2) z3 fun G3 H3 x3=>?_;obtain ⟨_,rfl,h⟩:=r.of_scr;have x:=(x1.trans x2).trans x3;refine ⟨_,_,rfl,(x2.trans x3).hh.seq h,fun p hp=>k p _ G3 _ (x.trans (.new x3.gh hp)) (x.hh.free hp) (x3.gh.free hp) jB ?_⟩;unfold jiQ Qc;rw [Yd,Yd];exact ((Reps.of_ints ns).drop _).take _
 . cases q
def isD (T:String):D->Option Bool
 | .int _=>some (T == "int")
 | .bl _=>some (T == "bool" || T == "int")
 | .non=>some false
 | .str _=>some (T == "str")
 | .lst _=>some (T == "list")
 | .tup _=>some (T == "tuple")
 | .scr _=>none
 | .dic _ _=>none
def jjM (T:String) (fa:ef->Option D):ef->Option D:=fun ρ=>(fa ρ).bind fun d=>(isD T d).map .bl
def eLZ (fs:ef->Option (List D)):ef->Option (List D):=fun ρ=>match fs ρ with
 | some [.lst l,.lst m]=>if zG l.length then some (jaf l m) else none
 | _=>none
theorem js0 (h:jbs As fs):EOkO (jcl Fr.K As) (eLZ fs):=fun G0 H0 G H σ ρ Q ds e q k=>by
 unfold eLZ at q;split at q
 . rename_i l m z;split at q
   . rename_i hz;cases q;refine h _ _ _ _ _ _ _ _ e z fun vs G1 H1 x1 rr=>?_;obtain ⟨v,u,rfl,r1,r2⟩:=rr.two;cases r1 with
     | @lst a vs l h1 r1=>
       cases r2 with
       | @lst b us m h2 r2=>
         refine ⟨a,b,vs,us,rfl,.inl h1,.inl h2,by rw [r1.length];exact Zg hz,fun c ts H' hc hts hcn hnd tL hoth hcl htup=>?_⟩;have G2:∃G2:Hp,G2=fun x=>if x∈ts then H' x else G1 x:=⟨_,rfl⟩
         obtain ⟨G2,eG2⟩:=G2;have inT:∀x,x∈ts->G2 x=H' x:=fun x hx=>by rw [eG2];exact if_pos hx
         have outT:∀x,x∉ts->G2 x=G1 x:=fun x hx=>by rw [eG2];exact if_neg hx
         have sG:Same G1 G2:=fun x o w=>by rw [outT x fun z=>by have:=hts x z;rw [x1.gh x o w] at this;cases this];exact w
         have sH:Same H1 H':=fun x o w=>by rw [hoth x (jD w hc) fun z=>by have:=hts x z;rw [w] at this;cases this];exact w
         have x2:Ext G1 H1 G2 H':=⟨sH,sG,fun x o w=>by
          by_cases hx:x∈ts
          . rw [inT x hx] at w;exact w
          . rw [outT x hx] at w;exact sH x o (x1.gh x o w),fun x o w=>by
          by_cases hx:x∈ts
          . exact .inr (hts x hx)
          . rw [outT x hx] at w;exact .inl w⟩
         have gc:G2 c=none:=by rw [outT c hcn];exact x1.gh.free hc
         refine k c _ G2 H' (x1.trans x2) (x1.hh.free hc) gc hcl ?_;have len:(ts.map V.ref).length=(jaf l m).length:=by simp [jaf,tL,r1.length,r2.length]
         have build:∀(vs:List V) (ds:List D),vs.length=ds.length->(∀(i:Nat) v d,vs[i]?=some v->ds[i]?=some d->Rep G2 v d)->Reps G2 vs ds:=by
          intro vs;induction vs with
          | nil=>intro ds hl _;cases ds with | nil=>exact .nil | cons _ _=>simp at hl
          | cons v vs ih=>
            intro ds hl hh;cases ds with
            | nil=>simp at hl
            | cons d ds=>exact .cons (hh 0 v d rfl rfl) ‹"ap"›
         refine build _ _ len fun i v d g1 g2=>?_;rw [List.getElem?_map] at g1;cases et:ts[i]? with
         | none=>rw [et] at g1;cases g1
         | some t=>
           rw [et] at g1;cases g1;unfold jaf at g2;rw [List.getElem?_map] at g2;cases ep:(l.zip m)[i]? with
           | none=>rw [ep] at g2;cases g2
           | some p=>rw [ep] at g2;cases g2;obtain ⟨w1,w2⟩:=YO.mp ep;obtain ⟨v1,y1,y2⟩:=r1.get w1;obtain ⟨v2,y3,y4⟩:=r2.get w2;have ht:=htup i t v1 v2 et y1 y3;exact .tup (by rw [inT t (Yz et)];exact ht) (.cons (y2.mono sG) (.cons (y4.mono sG) .nil))
   . cases q
 . cases q
end
def eqB (x y:D):Option Bool:=if zR x=true then (if zR y=true then some (eqV (vOf x) (vOf y)) else none) else none
def jcn (f:D->D->Option Bool):List D->List D->Option Bool
 | x::l,y::m=>(f x y).bind fun b=>(jcn f l m).map (b && ·)
 | _,_=>some true
def eqF:Nat->D->D->Option Bool
 | n+1,.lst l,.lst m=>if l.length=m.length then jcn (eqF n) l m else some false
 | n+1,.tup l,.tup m=>(jcn (eqF n) l m).map (· && l.length == m.length)
 | _,x,y=>eqB x y
def jdM (x y:D):Option Bool:=if zR x && zR y then (if jpV (vOf x) (vOf y) then some (decide (vOf x=vOf y)) else none) else eqF 40 x y
def jgG:R2:=fun x y H Q=>∃G dx dy b,Same G H/\RepT G H x dx/\RepT G H y dy/\jdM dx dy=some b/\Q (.bl b) H
def jhe:R2:=fun x y H Q=>∃G dx dy b,Same G H/\RepT G H x dx/\RepT G H y dy/\jdM dx dy=some b/\Q (.bl (!b)) H
def dEq:D->D->Option D:=fun x y=>(jdM x y).map .bl
def dNe:D->D->Option D:=fun x y=>(jdM x y).map fun b=>.bl (!b)
theorem jsA:ROk jgG dEq:=fun G H x y dx dy d Q s rx ry q k=>by obtain ⟨b,q1,q2⟩:=map_some q;subst q2;exact ⟨G,dx,dy,b,s,rx,ry,q1,k _ G H (.refl s) (.bl _)⟩
theorem jsL:ROk jhe dNe:=fun G H x y dx dy d Q s rx ry q k=>by obtain ⟨b,q1,q2⟩:=map_some q;subst q2;exact ⟨G,dx,dy,b,s,rx,ry,q1,k _ G H (.refl s) (.bl _)⟩
def jov:R2:=fun x y H Q=>∃l b xs zs,x=.ref l/\y=.ref b/\Rd H l (.lst xs)/\Rd H b (.lst zs)/\xs.length+zs.length<=sizeLine/\∀p,H p=none->Q (.ref p) (upd H p (.lst (xs++zs)))
def jcf:D->D->Option (List D)
 | .lst l,.lst m=>if l.length+m.length<=sizeLine then some (l++m) else none
 | _,_=>none
theorem jqY:jqc jov jcf:=fun G H x y dx dy d Q s rx ry q k=>by
 unfold jcf at q;split at q
 . split at q
   . rename_i hz;cases q;obtain ⟨_,_,rfl,h,r⟩:=rx.of_lst;obtain ⟨_,_,rfl,h',r'⟩:=ry.of_lst;exact ⟨_,_,_,_,rfl,rfl,h,h',by rw [r.length,r'.length];exact hz,fun p hp=>k p _ G _ (.new s hp) hp (s.free hp) jB (r.append r')⟩
   . cases q
 . cases q
end
end L2
namespace L2
open PySem PySem.Spec PyProof.Rows
section
variable {es:List Expr} {env:PySem.Env} {p:Pos}
end
section
variable {X:Cx}
theorem jiK:CallR X (.builtin "len") (fun xs H Q=>(∃p ys,xs=[.ref p] ∧ (Jf X.K H p ys ∨ SqT X.K H p ys) ∧ Q (.int ys.length) H) ∨ ∃z,xs=[.str z] ∧ z.length ≤ sizeLine ∧ Q (.int z.length) H):=call_len_seq.or jek
theorem jmo:OpR X (binaryOp .Add) jov:=by
 intro tu s σ H x y v u Q I rx ry h;obtain ⟨l,b,xs,zs,rfl,rfl,hH,hB,hz,q⟩:=h;cases rx;cases ry;obtain ⟨z,its,n,r,e⟩:=hH.ok I.hok;obtain ⟨z2,its2,n2,r2,e2⟩:=hB.ok I.hok;have hl:=r.length;have hl2:=r2.length;refine PySem.P.add_list e e2 ?_ (by rw [YA,YA];omega);have ea:its.toArray++its2.toArray=(its++its2).toArray:=by simp
 rw [ea];exact ⟨.ref _,_,I.lnew (t':=s.toks) (r.append r2) (by rw [YG];omega),rfl,q _ I.fresh⟩
end
def jrK (k:Int):List Int->List Int
 | []=>[k]
 | x::l=>if k<=x then k::x::l else x::jrK k l
def jsH (l:List Int):List Int:=l.foldr jrK []
section
variable {X:Cx}
end
section
variable [Fr]
def jtg:List D->Option (List D)
 | [.lst l]=>(J8 l).bind fun ns=>if ns.length<64 then some ((jsH ns).map .int) else none
 | _=>none
def jfs (fs:ef->Option (List D)):ef->Option (List D):=fun ρ=>match fs ρ with
 | some [.lst l]=>(J8 l).bind fun ns=>if ns.length<64 then some ((srt ns).map .int) else none
 | _=>none
theorem jpu {X:Cx} {As:TA} {fs:ef->Option (List D)} (ha:jbs As fs):EOkO (tCB (fun xs H Q=>∃(a:Addr) (ns:List Int),xs=[.ref a]/\H a=some (jec X a ns)/\ns.length<64 /\
 ∀(l:Addr) (ks:List Int),H l=none->ks.Pairwise (· < ·)->(∀k,k∈ks ↔ k∈ns)->ks.length<=ns.length->Q (.ref l) (upd H l (.lst (ks.map V.int))))
 (jda (tCB (fun xs H Q=>∃(p:Addr) (ns:List Int),xs=[.ref p]/\Jf Fr.K H p (ns.map V.int)/\ns.length<64/\∀a,H a=none->Q (.ref a) (upd H a (jec X a ns))) As) jjI)) (jfs fs):=fun G0 H0 G H σ ρ Q es e q k=>by
 unfold jfs at q;split at q
 . rename_i l z;obtain ⟨ns,q1,q2⟩:=bind_some q;split at q2
   . rename_i hz;cases q2;refine ha _ _ _ _ _ _ _ _ e z fun vs G1 H1 x1 rr=>?_;obtain ⟨v,rfl,r⟩:=rr.one;obtain ⟨_,_,rfl,h,r⟩:=r.of_lst;rw [Jd q1] at r;rw [r.ints] at h;refine ⟨_,ns,rfl,.inl h,hz,fun a ha'=>?_⟩;have x2:Ext G1 H1 G1 (upd H1 a (jec X a ns)):=.new x1.gh ha';refine ⟨a,ns,rfl,jB,hz,fun l ks hl hp hm hn=>?_⟩;have ek:ks=srt ns:=jcV hp jao fun j=>by rw [hm j,je0]
     subst ek;exact k l _ G1 _ ((x1.trans x2).trans (.new x2.gh hl)) ((x1.trans x2).hh.free hl) (x2.gh.free hl) jB (Reps.of_ints _)
   . cases q2
 . cases q
def okT (T:String):Bool:=T == "int" || T == "bool" || T == "str" || T == "list" || T == "tuple"
theorem jmF {G H:Hp} {x:V} {d:D} {T:String} {b:Bool} (r:RepT G H x d) (q:isD T d=some b) (hT:okT T=true):IsT Fr.K H x T b:=by
 have hT':T = "int" ∨ T="bool" ∨ T="str" ∨ T="list" ∨ T="tuple":=by simpa [okT,or_assoc] using hT
 cases r with
 | int i=>rcases hT' with rfl | rfl | rfl | rfl | rfl <;> (simp [isD] at q;subst q;exact ⟨_,.int i,by rfl⟩)
 | bl i=>rcases hT' with rfl | rfl | rfl | rfl | rfl <;> (simp [isD] at q;subst q;exact ⟨_,.bl i,by rfl⟩)
 | non=>rcases hT' with rfl | rfl | rfl | rfl | rfl <;> (simp [isD] at q;subst q;exact ⟨_,.non,by rfl⟩)
 | str i=>rcases hT' with rfl | rfl | rfl | rfl | rfl <;> (simp [isD] at q;subst q;exact ⟨_,.str i,by rfl⟩)
 | lst h r=>
   rcases h with h | ⟨o,h⟩
   . rcases hT' with rfl | rfl | rfl | rfl | rfl <;> (simp [isD] at q;subst q;exact ⟨_,.lst h,by rfl⟩)
   . rcases hT' with rfl | rfl | rfl | rfl | rfl <;> (simp [isD] at q;subst q;exact ⟨_,.frz h,by rfl⟩)
 | tup h r=>rcases hT' with rfl | rfl | rfl | rfl | rfl <;> (simp [isD] at q;subst q;exact ⟨_,.tup h,by rfl⟩)
 | scr h=>cases q
 | dic h hl r=>cases q
theorem jrk {T:String} {ta:TE} {fa:ef->Option D} (ha:zx ta fa) (hT:okT T=true):EOk (tCB (fun xs H Q=>∃x T b,xs=[x,.ty T]/\IsT Fr.K H x T b/\Q (.bl b) H) (jda ta (jda (tC (.ty T)) jjI))) (jjM T fa):=fun G0 H0 G H σ ρ Q d e q k=>by obtain ⟨dx,q1,q2⟩:=bind_some q;obtain ⟨b,q4,q3⟩:=map_some q2;subst q3;exact ha _ _ _ _ _ _ _ _ e q1 fun v G' H' x r=>⟨v,T,b,rfl,jmF r q4 hT,k _ G' H' x (.bl _)⟩
end
section
variable [Fr]
theorem jfZ {v:V} (f:jfR v=true):eqV v v=true:=by cases v <;> first | rfl | exact absurd f Yh | simp [eqV]
theorem ZF {x y:D} {b:Bool} (h:eqB x y=some b):zR x=true/\zR y=true/\b=eqV (vOf x) (vOf y):=by
 unfold eqB at h;by_cases f1:zR x=true
 . by_cases f2:zR y=true
   . rw [if_pos f1,if_pos f2] at h;exact ⟨f1,f2,(Option.some.inj h).symm⟩
   . rw [if_pos f1,if_neg f2] at h;exact qf h
 . rw [if_neg f1] at h;exact qf h
theorem jbU {n:Nat} {dx dy:D} {b:Bool} (h:eqF (n+1) dx dy=some b):(∃l m,dx=.lst l/\dy=.lst m/\(if l.length=m.length then jcn (eqF n) l m else some false)=some b)\/(∃l m,dx=.tup l/\dy=.tup m/\(jcn (eqF n) l m).map (· && l.length == m.length)=some b)\/eqB dx dy=some b:=by
 cases dx with
 | lst l=>
   cases dy with
   | lst m=>exact .inl ⟨l,m,rfl,rfl,h⟩
   | _=>exact qf h
 | tup l=>
   cases dy with
   | tup m=>exact .inr (.inl ⟨l,m,rfl,rfl,h⟩)
   | _=>exact qf h
 | _=>exact .inr (.inr h)
theorem jaI {f:D->D->Option Bool}:∀{l m:List D} {b:Bool},jcn f l m=some b->∃e:Nat->Bool,(∀(j:Nat) x y,l[j]?=some x->m[j]?=some y->f x y=some (e j))/\(List.range (min l.length m.length)).all e=b:=by
 intro l;induction l with
 | nil=>intro m b h;cases h;exact ⟨fun _=>true,fun j x y h1 _=>(by rw [Kz] at h1;cases h1),by rw [yI,Nat.zero_min];rfl⟩
 | cons x l ih=>
   intro m b h;cases m with
   | nil=>cases h;exact ⟨fun _=>true,fun j x y _ h2=>(by rw [Kz] at h2;cases h2),by rw [yI,Nat.min_zero];rfl⟩
   | cons y m=>
     obtain ⟨c,h1,h2⟩:=bind_some h;obtain ⟨c',h3,h4⟩:=map_some h2;obtain ⟨e,he,hb⟩:=ih h3;refine ⟨fun j=>Nat.casesOn j c e,fun j u v g1 g2=>?_,?_⟩
     . cases j with
       | zero=>cases g1;cases g2;exact h1
       | succ j=>exact he j u v g1 g2
     . rw [<-h4,<- hb];simp only [Yx,Nat.add_min_add_right,List.range_succ_eq_map,List.all_cons,List.all_map];rfl
end
section
variable {X:Cx} {tu:List (Addr×Obj)} {σ:St} {H G:Hp} {s:Shared}
theorem jin [Fr] (hK:Fr.K=X.K) (I:Inv X tu σ H s) (sg:Same G H):∀(n:Nat) {v:V} {dx dy:D} {b:Bool},Rep G v dx->Rep G v dy->eqF n dx dy=some b->b=true:=by
 intro n;induction n with
 | zero=>intro v dx dy b rx ry h;obtain ⟨f1,f2,rfl⟩:=ZF (show eqB dx dy=some b from h);rw [<-rx.v f1,<- ry.v f2];exact jfZ (by rw [rx.v f1];exact jaU f1)
 | succ n ih=>
   have zz:∀{vs:List V} {l m:List D} {b:Bool},Reps G vs l->Reps G vs m->jcn (eqF n) l m=some b->b=true:=by
    intro vs;induction vs with
    | nil=>intro l m b r1 r2 h;cases r1;cases r2;cases h;rfl
    | cons v vs ihv=>
      intro l m b r1 r2 h;cases r1 with
      | cons a1 t1=>
        cases r2 with
        | cons a2 t2=>obtain ⟨c,h1,h2⟩:=bind_some h;obtain ⟨c',h3,h4⟩:=map_some h2;rw [ih a1 a2 h1,ihv t1 t2 h3] at h4;exact h4.symm
   intro v dx dy b rx ry h;rcases jbU h with ⟨l,m,rfl,rfl,q⟩ | ⟨l,m,rfl,rfl,q⟩ | q
   . obtain ⟨_,_,rfl,h1,r1⟩:=rx.of_lst;obtain ⟨_,_,e0,h2,r2⟩:=ry.of_lst;cases e0;have e:=I.list_inj (.inl (h1.same sg)) (.inl (h2.same sg));subst e;rw [if_pos (show l.length=m.length by rw [<-r1.length,<- r2.length])] at q;exact zz r1 r2 q
   . obtain ⟨_,_,rfl,h1,r1⟩:=rx.of_tup;obtain ⟨_,_,e0,h2,r2⟩:=ry.of_tup;cases e0;rw [h1] at h2;cases h2;have hl:l.length=m.length:=by rw [<-r1.length,<- r2.length]
     obtain ⟨c,h3,h4⟩:=map_some q;rw [zz r1 r2 h3,hl] at h4;simpa using h4.symm
   . obtain ⟨f1,f2,rfl⟩:=ZF q;rw [<-rx.v f1,<- ry.v f2];exact jfZ (by rw [rx.v f1];exact jaU f1)
theorem jh5 [Fr] {x y:V} {dx dy:D} {b:Bool} {u v:Value} {A:Around} (rx:Rep G x dx) (ry:Rep G y dy) (h:eqB dx dy=some b) (ru:RelV x u) (rv:RelV y v):SeqAt.EqAt A s u v b:=by obtain ⟨f1,f2,rfl⟩:=ZF h;rw [<-rx.v f1,<- ry.v f2];exact jej ru rv (by rw [rx.v f1];exact jaU f1) (by rw [ry.v f2];exact jaU f2)
theorem jaw [Fr] {vs us:List V} {l m:List D} {i1 i2:List Value} {e:Nat->Bool} {A:Around} {n:Nat} (r1:Reps G vs l) (r2:Reps G us m) (v1:Vals vs i1) (v2:Vals us i2)
 (he:∀(j:Nat) x y,l[j]?=some x->m[j]?=some y->eqF n x y=some (e j))
 (ih:∀{x y:V} {dx dy:D} {b:Bool} {u v:Value},Rep G x dx->Rep G y dy->eqF n dx dy=some b->RelV x u->RelV y v->SeqAt.EqAt A s u v b) :
 ∀j (h1:j<i1.toArray.size) (h2:j<i2.toArray.size),SeqAt.EqAt A s i1.toArray[j] i2.toArray[j] (e j):=fun j h1 h2=>by
 have l1:=v1.length;have l2:=v2.length;have hj1:j<vs.length:=by simp at h1;omega
 have hj2:j<us.length:=by simp at h2;omega
 obtain ⟨u1,g1,g2⟩:=v1.get (Yb hj1);obtain ⟨u2,g3,g4⟩:=v2.get (Yb hj2);obtain ⟨d1,k1,k2⟩:=r1.getV (Yb hj1);obtain ⟨d2,k3,k4⟩:=r2.getV (Yb hj2);have e1:i1.toArray[j]=u1:=by have:=Yj.mp g1;simpa using this.2
 have e2:i2.toArray[j]=u2:=by have:=Yj.mp g3;simpa using this.2
 rw [e1,e2];exact ih k2 k4 (he j _ _ k1 k3) g2 g4
theorem jfG [Fr] (hK:Fr.K=X.K) (I:Inv X tu σ H s) {a c:Addr} {vs us:List V} {l m:List D} {b:Bool} {n:Nat} {A:Around} (h1:Rd H a (.lst vs)) (h2:Rd H c (.lst us)) (r1:Reps G vs l) (r2:Reps G us m) (h:(if l.length=m.length then jcn (eqF n) l m else some false)=some b) (hu:A.units<cLine)
 (ih:∀{x y:V} {dx dy:D} {b:Bool} {u v:Value},Rep G x dx->Rep G y dy->eqF n dx dy=some b->RelV x u->RelV y v->SeqAt.EqAt A.in1 s u v b):SeqAt.RcAt A s (.ref a) (.ref c) b:=by
 obtain ⟨i1,v1,p1,_⟩:=I.list (.inl h1);obtain ⟨i2,v2,p2,_⟩:=I.list (.inl h2);have l1:=v1.length;have l2:=v2.length;have k1:=r1.length;have k2:=r2.length;split at h
 . rename_i hl;obtain ⟨e,he,hb⟩:=jaI h;have hb':(List.range i1.toArray.size).all e=b:=by rw [<-hb,<- hl,kO,YA,<- l1,k1]
   rw [<-hb'];exact SeqAt.RcAt.lists p1.isList p2.isList (by simp;omega) hu (jaw r1 r2 v1 v2 he ih)
 . rename_i hl;cases h;exact SeqAt.RcAt.lists_lengths p1.isList p2.isList (by simp;omega) hu
theorem jhU [Fr] (hK:Fr.K=X.K) (I:Inv X tu σ H s) {a c:Addr} {vs us:List V} {l m:List D} {b:Bool} {n:Nat} {A:Around} (h1:H a=some (.tup vs)) (h2:H c=some (.tup us)) (r1:Reps G vs l) (r2:Reps G us m) (h:(jcn (eqF n) l m).map (· && l.length == m.length)=some b) (hu:A.units<cLine)
 (ih:∀{x y:V} {dx dy:D} {b:Bool} {u v:Value},Rep G x dx->Rep G y dy->eqF n dx dy=some b->RelV x u->RelV y v->SeqAt.EqAt A.in1 s u v b):SeqAt.RcAt A s (.ref a) (.ref c) b:=by
 obtain ⟨i1,v1,p1,_⟩:=I.tuple (SqT.of h1);obtain ⟨i2,v2,p2,_⟩:=I.tuple (SqT.of h2);have l1:=v1.length;have l2:=v2.length;have k1:=r1.length;have k2:=r2.length;obtain ⟨c,h3,h4⟩:=map_some h;obtain ⟨e,he,hb⟩:=jaI h3;have q1:i1.toArray.size=l.length:=by simp;omega
 have q2:i2.toArray.size=m.length:=by simp;omega
 have hb':‹"ar"›=b:=by rw [q1,q2,hb];exact h4
 rw [<-hb'];exact SeqAt.RcAt.tuples (show s.heap.IsTuple a i1.toArray from p1) (show s.heap.IsTuple _ i2.toArray from p2) hu (jaw r1 r2 v1 v2 he ih)
theorem joi [Fr] (hK:Fr.K=X.K) (I:Inv X tu σ H s) (sg:Same G H):∀(n:Nat) {x y:V} {dx dy:D} {b:Bool} {u v:Value} {A:Around},Rep G x dx->Rep G y dy->eqF n dx dy=some b->RelV x u->RelV y v->A.units+n<cLine->SeqAt.EqAt A s u v b:=by
 intro n;induction n with
 | zero=>intro x y dx dy b u v A rx ry h ru rv _;exact jh5 rx ry (show eqB dx dy=some b from h) ru rv
 | succ n ih=>
   intro x y dx dy b u v A rx ry h ru rv hu;have hu1:A.units<cLine:=by omega
   have ih':∀{x y:V} {dx dy:D} {b:Bool} {u v:Value},Rep G x dx->Rep G y dy->eqF n dx dy=some b->RelV x u->RelV y v->SeqAt.EqAt A.in1 s u v b:=fun r1 r2 h ru rv=>ih r1 r2 h ru rv (by show A.units+1+n<cLine;omega);rcases jbU h with ⟨l,m,rfl,rfl,q⟩ | ⟨l,m,rfl,rfl,q⟩ | q
   . cases rx with
     | @lst a vs _ h1 r1=>
       cases ry with
       | @lst c us _ h2 r2=>
         cases ru;cases rv;by_cases hac:a=c
         . subst hac;rw [jin hK I sg (n+1) (.lst h1 r1) (.lst h2 r2) h];exact SeqAt.EqAt.same _
         . exact SeqAt.EqAt.of_refs hac (jfG hK I (h1.same sg) (h2.same sg) r1 r2 q hu1 ih')
   . cases rx with
     | @tup a vs _ h1 r1=>
       cases ry with
       | @tup c us _ h2 r2=>
         cases ru;cases rv;by_cases hac:a=c
         . subst hac;rw [jin hK I sg (n+1) (.tup h1 r1) (.tup h2 r2) h];exact SeqAt.EqAt.same _
         . exact SeqAt.EqAt.of_refs hac (jhU hK I (sg _ _ h1) (sg _ _ h2) r1 r2 q hu1 ih')
   . exact jh5 rx ry q ru rv
end
section
variable {X:Cx}
theorem jpy [Fr] (hK:Fr.K=X.K) {tu:List (Addr×Obj)} {σ:St} {H G:Hp} {s:Shared} (hu:X.A.units+64<cLine) (I:Inv X tu σ H s) (sg:Same G H) {x y:V} {dx dy:D} {b:Bool} {u v:Value} (rx:RepT G H x dx) (ry:RepT G H y dy) (h:eqF 40 dx dy=some b)
 (hf:(zR dx && zR dy)=false) (ru:RelV x u) (rv:RelV y v):SeqAt.RcAt X.A s u v b:=by
 have ih:∀{x y:V} {dx dy:D} {b:Bool} {u v:Value},Rep G x dx->Rep G y dy->eqF 39 dx dy=some b->RelV x u->RelV y v->SeqAt.EqAt X.A.in1 s u v b:=fun r1 r2 h ru rv=>joi hK I sg 39 r1 r2 h ru rv (by show X.A.units+1+39<cLine;omega);rcases jbU (n:=39) h with ⟨l,m,rfl,rfl,q⟩ | ⟨l,m,rfl,rfl,q⟩ | q
 . obtain ⟨_,_,rfl,h1,r1⟩:=rx.of_lst;obtain ⟨_,_,rfl,h2,r2⟩:=ry.of_lst;cases ru;cases rv;exact jfG hK I h1 h2 r1 r2 q (by omega) ih
 . obtain ⟨_,_,rfl,h1,r1⟩:=rx.of_tup;obtain ⟨_,_,rfl,h2,r2⟩:=ry.of_tup;cases ru;cases rv;exact jhU hK I h1 h2 r1 r2 q (by omega) ih
 . obtain ⟨f1,f2,_⟩:=ZF q;rw [f1,f2] at hf;exact absurd hf Bool.noConfusion
theorem jjq [Fr] (hK:Fr.K=X.K) (I:Inv X tu σ H s) {a c:Addr} {vs us:List V} {l m:List D} {b:Bool} {n:Nat} {A:Around} (h1:Rd H a (.lst vs)) (h2:Rd H c (.lst us)) (r1:Reps G vs l) (r2:Reps G us m) (h:(if l.length=m.length then jcn (eqF n) l m else some false)=some b) (hu:A.units<cLine)
 (ih:∀{x y:V} {dx dy:D} {b:Bool} {u v:Value},Rep G x dx->Rep G y dy->eqF n dx dy=some b->RelV x u->RelV y v->SeqAt.EqAt A.in1 s u v b):SeqAt.RcNeAt A s (.ref a) (.ref c) (!b):=by
 obtain ⟨i1,v1,p1,_⟩:=I.list (.inl h1);obtain ⟨i2,v2,p2,_⟩:=I.list (.inl h2);have l1:=v1.length;have l2:=v2.length;have k1:=r1.length;have k2:=r2.length;split at h
 . rename_i hl;obtain ⟨e,he,hb⟩:=jaI h;have hb':(List.range i1.toArray.size).all e=b:=by rw [<-hb,<- hl,kO,YA,<- l1,k1]
   rw [<-hb'];exact SeqAt.RcNeAt.lists p1.isList p2.isList (by simp;omega) hu (jaw r1 r2 v1 v2 he ih)
 . rename_i hl;cases h;exact SeqAt.RcNeAt.lists_lengths p1.isList p2.isList (by simp;omega) hu
theorem jli [Fr] (hK:Fr.K=X.K) (I:Inv X tu σ H s) {a c:Addr} {vs us:List V} {l m:List D} {b:Bool} {n:Nat} {A:Around} (h1:H a=some (.tup vs)) (h2:H c=some (.tup us)) (r1:Reps G vs l) (r2:Reps G us m) (h:(jcn (eqF n) l m).map (· && l.length == m.length)=some b) (hu:A.units<cLine)
 (ih:∀{x y:V} {dx dy:D} {b:Bool} {u v:Value},Rep G x dx->Rep G y dy->eqF n dx dy=some b->RelV x u->RelV y v->SeqAt.EqAt A.in1 s u v b):SeqAt.RcNeAt A s (.ref a) (.ref c) (!b):=by
 obtain ⟨i1,v1,p1,_⟩:=I.tuple (SqT.of h1);obtain ⟨i2,v2,p2,_⟩:=I.tuple (SqT.of h2);have l1:=v1.length;have l2:=v2.length;have k1:=r1.length;have k2:=r2.length;obtain ⟨c,h3,h4⟩:=map_some h;obtain ⟨e,he,hb⟩:=jaI h3;have q1:i1.toArray.size=l.length:=by simp;omega
 have q2:i2.toArray.size=m.length:=by simp;omega
 have hb':‹"ar"›=b:=by rw [q1,q2,hb];exact h4
 rw [<-hb'];exact SeqAt.RcNeAt.tuples (show s.heap.IsTuple a i1.toArray from p1) (show s.heap.IsTuple _ i2.toArray from p2) hu (jaw r1 r2 v1 v2 he ih)
theorem jnm [Fr] (hK:Fr.K=X.K) {tu:List (Addr×Obj)} {σ:St} {H G:Hp} {s:Shared} (hu:X.A.units+64<cLine) (I:Inv X tu σ H s) (sg:Same G H) {x y:V} {dx dy:D} {b:Bool} {u v:Value} (rx:RepT G H x dx) (ry:RepT G H y dy) (h:eqF 40 dx dy=some b)
 (hf:(zR dx && zR dy)=false) (ru:RelV x u) (rv:RelV y v):SeqAt.RcNeAt X.A s u v (!b):=by
 have ih:∀{x y:V} {dx dy:D} {b:Bool} {u v:Value},Rep G x dx->Rep G y dy->eqF 39 dx dy=some b->RelV x u->RelV y v->SeqAt.EqAt X.A.in1 s u v b:=fun r1 r2 h ru rv=>joi hK I sg 39 r1 r2 h ru rv (by show X.A.units+1+39<cLine;omega);rcases jbU (n:=39) h with ⟨l,m,rfl,rfl,q⟩ | ⟨l,m,rfl,rfl,q⟩ | q
 . obtain ⟨_,_,rfl,h1,r1⟩:=rx.of_lst;obtain ⟨_,_,rfl,h2,r2⟩:=ry.of_lst;cases ru;cases rv;exact jjq hK I h1 h2 r1 r2 q (by omega) ih
 . obtain ⟨_,_,rfl,h1,r1⟩:=rx.of_tup;obtain ⟨_,_,rfl,h2,r2⟩:=ry.of_tup;cases ru;cases rv;exact jli hK I h1 h2 r1 r2 q (by omega) ih
 . obtain ⟨f1,f2,_⟩:=ZF q;rw [f1,f2] at hf;exact absurd hf Bool.noConfusion
theorem jkr (hu:X.A.units+64<cLine):OpR X (compareOp .Eq) (@jgG ⟨X.K⟩):=by
 intro tu s σ H x y v u Q I rx ry h;obtain ⟨G,dx,dy,b,sg,r1,r2,he,q⟩:=h;unfold jdM at he;split at he
 . rename_i hf;simp only [KI] at hf;split at he
   . rename_i hs;cases he;have e1:=@RepT.v ⟨X.K⟩ _ _ _ _ r1 hf.1;have e2:=@RepT.v ⟨X.K⟩ _ _ _ _ r2 hf.2;rw [<-e1,<- e2] at q hs;exact jqK tu s σ H x y v u Q I rx ry ⟨hs,q⟩
   . cases he
 . rename_i hf;exact @jpy X ⟨X.K⟩ rfl _ _ _ _ _ hu I sg _ _ _ _ _ _ _ r1 r2 he (by simpa using hf) rx ry X.prog X.w _ _ ⟨.bl b,H,I,rfl,q⟩
theorem jlx (hu:X.A.units+64<cLine):OpR X (compareOp .NotEq) (@jhe ⟨X.K⟩):=by
 intro tu s σ H x y v u Q I rx ry h;obtain ⟨G,dx,dy,b,sg,r1,r2,he,q⟩:=h;unfold jdM at he;split at he
 . rename_i hf;simp only [KI] at hf;split at he
   . rename_i hs;cases he;have e1:=@RepT.v ⟨X.K⟩ _ _ _ _ r1 hf.1;have e2:=@RepT.v ⟨X.K⟩ _ _ _ _ r2 hf.2;rw [<-e1,<- e2] at q hs;exact jrF tu s σ H x y v u Q I rx ry ⟨hs,q⟩
   . cases he
 . rename_i hf;exact @jnm X ⟨X.K⟩ rfl _ _ _ _ _ hu I sg _ _ _ _ _ _ _ r1 r2 he (by simpa using hf) rx ry X.prog X.w _ _ ⟨.bl (!b),H,I,rfl,q⟩
end
def LcOk (sc:Scope) (N:List Str) (scope:Scope) (F:List Str) (ix:List Nat):Prop:=
 scope.kind=.function/\(∀x∈scope.names,x.2=.local->scope.names.lookup x.1=some .local)/\(∀y∈scope.names,y.2=.cell->scope.names.lookup y.1=some .cell) /\
 (∀y∈scope.names,y.2=.free->sc.names.lookup y.1=some .cell\/sc.names.lookup y.1=some .free)/\ix.length=F.length /\
 (∀p∈F.zip ix,N[p.2]?=some p.1/\(sc.names.lookup p.1=some .cell\/sc.names.lookup p.1=some .free)/\scope.names.lookup p.1=some .free)
instance (sc:Scope) (N:List Str) (scope:Scope) (F:List Str) (ix:List Nat):Decidable (LcOk sc N scope F ix):=by unfold LcOk;infer_instance
section
variable {X:Cx} {tg iter elt:Expr} {ifs:List Expr} {scope:Scope} {pos:Pos} {wi:TI} {g:TG} {tt:TT} {te:TE} {Lc F N:List Str} {ix:List Nat} {sc:Scope}
theorem LcOk.free (ok:LcOk sc N scope F ix) (hsc:X.env.scope=sc):∀n,(n,NameKind.free)∈scope.names->X.env.scope.names.lookup n=some .cell\/X.env.scope.names.lookup n=some .free:=fun n hn=>by rw [hsc];exact ok.2.2.2.1 (n,.free) hn rfl
theorem LcOk.capt (ok:LcOk sc N scope F ix) (hsc:X.env.scope=sc) (hN:X.N=N):∀(j:Nat) (x:Str) (k:Nat),F[j]?=some x->ix[j]?=some k->X.N[k]?=some x/\(X.env.scope.names.lookup x=some .cell\/X.env.scope.names.lookup x=some .free)/\scope.names.lookup x=some .free:=fun j x k h1 h2=>by rw [hsc,hN];exact ok.2.2.2.2.2 (x,k) (Yz (i:=j) (YO.mpr ⟨h1,h2⟩))
theorem jpX (hsc:X.env.scope=sc) (hN:X.N=N) (hc:X.calm=true) (ok:LcOk sc N scope F ix)
 (hi:PI X tg iter wi) (hg:∀C s H fp,PG ‹"d"› tg g) (hloc:jhu Lc.length g) (ht:∀C s H fp,PTs ‹"d"› ifs tt) (he:∀C s H fp,PE ‹"d"› elt te)
 (hs:∀x,foldedSetIterable iter X.env x=pure x:=by intro _;rfl):PE X ‹"k"› (tLC wi g tt te Lc.length ix):=
 jq7 hc ok.1 ok.2.1 ok.2.2.1 (ok.free hsc) ok.2.2.2.2.1 (ok.capt hsc hN) hi hg hloc ht he hs
theorem jcq {i:Nat} {y:Str} {py spos:Pos} (hNd:X.N.Nodup) (hy:X.N[i]?=some y) (hyl:X.env.scope.names.lookup y=some .local) (hsc:X.env.scope=sc) (hN:X.N=N) (hc:X.calm=true) (ok:LcOk sc N scope F ix)
 (hi:PI X tg iter wi) (hg:∀C s H fp,PG ‹"d"› tg g) (hloc:jhu Lc.length g) (ht:∀C s H fp,PTs ‹"d"› ifs tt) (he:∀C s H fp,PE ‹"d"› elt te)
 (hsw:swapsWith ‹"k"› (some (.Name y py)) spos.line X.env=pure true)
 (hs:∀x,foldedSetIterable iter X.env x=pure x:=by intro _;rfl):PS X (.Assign [.Name y py] ‹"k"› spos) (jds (tLC wi g tt te Lc.length ix) (jaa i)):=
 jiX hNd hy hyl hc ok.1 ok.2.1 ok.2.2.1 (ok.free hsc) ok.2.2.2.2.1 (ok.capt hsc hN) hi hg hloc ht he hsw hs
end
end L2
namespace L2
open PySem PySem.Spec PyProof.Rows
section
variable {i j:Int} {F F':FS} {ρ ρ':ef} {r:Res}
theorem jZ:zc (.int i) (.int j)=some (.int (i+j)):=rfl
theorem zm:JT (.int i) (.int j)=some (.int (i-j)):=rfl
theorem jbq (h1:-18446744073709551616<i) (h2:i<18446744073709551616):zZ (.int i) (.int j)=some (.int (i*j)):=by unfold zZ dI;simp only;rw [if_pos];exact .inl (.inl ⟨by omega,by omega⟩)
theorem ZI (h1:-18446744073709551616<j) (h2:j<18446744073709551616):zZ (.int i) (.int j)=some (.int (i*j)):=by unfold zZ dI;simp only;rw [if_pos];exact .inl (.inr ⟨by omega,by omega⟩)
theorem zr (h1:0<j) (h2:j<1606938044258990275541962092341162602522202993782792835301376):Q9 (.int i) (.int j)=some (.int (i/j)):=by unfold Q9 dI;simp only;rw [if_pos];exact ⟨h1,by show j<2 ^ 200;omega⟩
theorem jU (h1:0<j):zw (.int i) (.int j)=some (.int (i%j)):=by unfold zw dI;simp only;rw [if_pos];exact h1
theorem jbZ (h:jeH i j):Zb (.int i) (.int j)=some (.int (i ^ j.toNat)):=by unfold Zb dI;simp only;rw [if_pos h]
theorem jnV:Zb (.int 10) (.int 5)=some (.int 100000):=by rw [jbZ (by unfold jeH;omega)];rfl
theorem jrj:Zb (.int 10) (.int 9)=some (.int 1000000000):=by rw [jbZ (by unfold jeH;omega)];rfl
theorem jlM:Zb (.int 10) (.int 14)=some (.int 100000000000000):=by rw [jbZ (by unfold jeH;omega)];rfl
theorem jkj:Zb (.int 10) (.int 15)=some (.int 1000000000000000):=by rw [jbZ (by unfold jeH;omega)];rfl
theorem Zc:dLt (.int i) (.int j)=some (.bl (decide (i<j))):=rfl
theorem jhh:dLe (.int i) (.int j)=some (.bl (decide (i<=j))):=rfl
theorem jcy:dGt (.int i) (.int j)=some (.bl (decide (j<i))):=rfl
theorem jo1:dGe (.int i) (.int j)=some (.bl (decide (j<=i))):=rfl
theorem jj5:decide (V.int i=V.int j)=decide (i=j):=by
 by_cases q:i=j
 . subst q;simp
 . have:¬V.int i=V.int j:=fun z=>q (by injection z);simp [q,this]
theorem joG:dEq (.int i) (.int j)=some (.bl (decide (i=j))):=by show some (D.bl (decide (V.int i=V.int j)))=_;rw [jj5]
theorem js5:dNe (.int i) (.int j)=some (.bl (!decide (i=j))):=by show some (D.bl (!decide (V.int i=V.int j)))=_;rw [jj5]
theorem js3 {a b:Bool}:dEq (.bl a) (.bl b)=some (.bl (decide (a=b))):=by cases a <;> cases b <;> rfl
theorem jrQ {ds:List D} {i:Int} (h0:0<=i) (h1:i<ds.length):∃m,m∈ds/\qt (.lst ds) (.int i)=some m:=by
 have hi:i.toNat<ds.length:=by omega
 refine ⟨ds[i.toNat],KG hi,?_⟩;show atI ds i=_;unfold atI ixN;rw [if_pos h0,if_pos h1];simp [hi]
theorem ZA {ds:List D} {i:Int} {d:D} (h0:0<=i) (h:ds[i.toNat]?=some d):qt (.lst ds) (.int i)=some d:=by have hi:i.toNat<ds.length:=(Yj.mp h).1;show atI ds i=_;unfold atI ixN;rw [if_pos h0,if_pos (by omega)];simpa using h
theorem qP {n:Nat} (h:n<16777216):zG n=true:=YN h
theorem jam {a:D} {l:List D}:qt (.tup (a::l)) (.int 0)=some a:=by show atI (a::l) 0=_;unfold atI ixN;rw [if_pos (by decide),if_pos (by simp only [Yx];omega)];rfl
theorem ZE {a b:D} {l:List D}:qt (.tup (a::b::l)) (.int 1)=some b:=by show atI (a::b::l) 1=_;unfold atI ixN;rw [if_pos (by decide),if_pos (by simp only [Yx];omega)];rfl
theorem jeS {a b c:D} {l:List D}:qt (.tup (a::b::c::l)) (.int 2)=some c:=by show atI (a::b::c::l) 2=_;unfold atI ixN;rw [if_pos (by decide),if_pos (by simp only [Yx];omega)];rfl
theorem jgD {a b c d:D} {l:List D}:qt (.tup (a::b::c::d::l)) (.int 3)=some d:=by show atI (a::b::c::d::l) 3=_;unfold atI ixN;rw [if_pos (by decide),if_pos (by simp only [Yx];omega)];rfl
theorem jko {a:D} {l:List D}:qt (.lst (a::l)) (.int 0)=some a:=by show atI (a::l) 0=_;unfold atI ixN;rw [if_pos (by decide),if_pos (by simp only [Yx];omega)];rfl
end
end L2
namespace L2
open PySem PySem.Spec PyProof.Rows
structure Fm where
 ι:Type
 X:ι->Cx
 K:PySem.W.Frag
 N:List Str
 hK:∀i,(X i).K=K
 hN:∀i,(X i).N=N
 calm:∀i,(X i).calm=true
abbrev Fm.fr (M:Fm):Fr:=⟨M.K⟩
structure WE (M:Fm) (e:Expr) (f:ef->Option D):Prop where
 h:∃t,(∀i,PE (M.X i) e t)/\@EOk M.fr t f
structure WT (M:Fm) (e:Expr) (f:ef->Option D):Prop where
 h:∃t,(∀i,PE (M.X i) e t)/\@zx M.fr t f
structure WO (M:Fm) (e:Expr) (f:ef->Option (List D)):Prop where
 h:∃t,(∀i,PE (M.X i) e t)/\@EOkO M.fr t f
structure WC (M:Fm) (e:Expr) (f:ef->Option Bool):Prop where
 h:∃t,(∀i,PT (M.X i) e t)/\@TOk M.fr t f
structure WW (M:Fm) (e:Expr) (f:ef->Option Bool):Prop where
 h:∃t,(∀i,PW (M.X i) e t)/\@TOk M.fr t f
structure WTs (M:Fm) (e:List Expr) (f:ef->Option Bool):Prop where
 h:∃t,(∀i,PTs (M.X i) e t)/\@TOk M.fr t f
structure WA (M:Fm) (e:List Expr) (f:ef->Option (List D)):Prop where
 h:∃t,(∀i,PA (M.X i) e t)/\@AOk M.fr t f
structure WAT (M:Fm) (e:List Expr) (f:ef->Option (List D)):Prop where
 h:∃t,(∀i,PA (M.X i) e t)/\@jbs M.fr t f
structure WP (M:Fm) (e:Option Expr) (f:ef->Option (Option Int)):Prop where
 h:∃t,(∀i,PO (M.X i) e t)/\@POk M.fr t f
structure WI (M:Fm) (tg e:Expr) (f:ef->Option (List D)):Prop where
 h:∃t,(∀i,PI (M.X i) tg e t)/\@IOk M.fr t f
structure WIT (M:Fm) (tg e:Expr) (f:ef->Option (List D)):Prop where
 h:∃t,(∀i,PI (M.X i) tg e t)/\@jiY M.fr t f
structure WG (M:Fm) (tg:Expr) (m:D->ef->Option ef):Prop where
 h:∃t,(∀i,PG (M.X i) tg t)/\@GOk M.fr t m
structure WGs (M:Fm) (tg:List Expr) (m:List D->ef->Option ef):Prop where
 h:∃t,(∀i,PGs (M.X i) tg t)/\@jjl M.fr t m
structure WL (M:Fm) (n:Nat) (tg:Expr) (m:D->ef->Option ef):Prop where
 h:∃t,(∀i,PG (M.X i) tg t)/\@GOk M.fr t m/\jhu n t
structure WS (M:Fm) (st:Stmt) (F:FS):Prop where
 h:∃t,(∀i,PS (M.X i) st t)/\@Z1 M.fr t F
structure WSs (M:Fm) (st:List Stmt) (F:FS):Prop where
 h:∃t,(∀i,PSs (M.X i) st t)/\@Z1 M.fr t F
def qd:Expr->Bool
 | .Starred _ _=>true
 | _=>false
theorem j5 {e:Expr} {es:List Expr} {env:PySem.Env} (h:qd e=false):starEach (e::es) env=(false,eval e env)::starEach es env:=by cases e <;> first | rfl | cases h
theorem JQ {pos:Pos} {env:PySem.Env}:∀{es:List Expr},(es.all fun e=>!qd e)=true->(backTo pos (starEach es env)).any (·.1)=false
 | [],_=>rfl
 | e::es,h=>by simp only [List.all_cons,KI,Bool.not_eq_true'] at h;rw [j5 h.1];show (false || (backTo pos (starEach es env)).any (·.1))=false;rw [JQ h.2];rfl
section
variable {M:Fm} {a b c e o:Expr} {es:List Expr} {fa fb fc fe:ef->Option D} {fo:ef->Option (List D)} {fs:ef->Option (List D)} {ga gb:ef->Option Bool} {pos p apos cpos:Pos} {x:Str}
theorem WO.toE (h:WO M e fo):WE M e (jK fo):=let ⟨t,h1,h2⟩:=h.h;⟨t,h1,@EOkO.e M.fr _ _ h2⟩
theorem WE.toT (h:WE M e fe):WT M e fe:=let ⟨t,h1,h2⟩:=h.h;⟨t,h1,@EOk.t M.fr _ _ h2⟩
abbrev eg:=@WE.toT
theorem jl (i:Nat) (hN:M.N[i]?=some x:=by rfl) (hv:autoParam (∀j,Vis (M.X j).env.scope x) QA.a7._auto_1) (hd:‹"l"›=false:=by decide)
 (hcd:(x == ("__classdict__":Str))=false:=by decide):WE M (.Name x pos) (jn i):=⟨_,fun j=>Zq (by rw [M.hN j];exact hN) (hv j) hd hcd,@jr1 M.fr i⟩
theorem jb (i:Nat) (hN:M.N[i]?=some x:=by rfl) (hv:autoParam (∀j,Vis (M.X j).env.scope x) QA.a7._auto_1) (hd:‹"l"›=false:=by decide)
 (hcd:(x == ("__classdict__":Str))=false:=by decide):WT M (.Name x pos) (ja i):=⟨_,fun j=>Zq (by rw [M.hN j];exact hN) (hv j) hd hcd,@jqr M.fr i⟩
theorem qx {i:Int} {t:Tok} (hg:∀j,Gl (M.X j) x) (hm:∀j,(M.X j).mg x=some (.int i t)) (hd:‹"l"›=false:=by decide):WE M (.Name x pos) (eC (.int i)):=⟨_,fun j=>jmZ (hg j) (hm j) hd,@jom M.fr i⟩
theorem jt {i:Int} {k:Nat}:WE M (.Constant (.int i) k pos) (eC (.int i)):=⟨_,fun _=>jpG,@jom M.fr i⟩
theorem jc6 {i:Bool} {k:Nat}:WE M (.Constant (.bool i) k pos) (eC (.bl i)):=⟨_,fun _=>jrc,@jsy M.fr i⟩
theorem jkV {k:Nat}:WE M (.Constant .none k pos) (eC .non):=⟨_,fun _=>jp1,@jrE M.fr⟩
theorem jd4 {op:Operator} {r:R2} {f:D->D->Option D} (ho:∀j,OpR (M.X j) (binaryOp op) r) (hr:@ROk M.fr r f) (ha:WT M a fa) (hb:WT M b fb):WE M (.BinOp a op b pos) (jw f fa fb):=let ⟨_,h1,h2⟩:=ha.h;let ⟨_,k1,k2⟩:=hb.h;⟨_,fun j=>jkP (ho j) (h1 j) (k1 j),@jmS M.fr _ _ _ _ _ _ hr h2 k2⟩
theorem za (ha:WT M a fa) (hb:WT M b fb):WE M (.BinOp a .Add b pos) (jw zc fa fb):=jd4 (fun _=>jp4) (@jrv M.fr) ha hb
theorem Jw (ha:WT M a fa) (hb:WT M b fb):WE M (.BinOp a .Sub b pos) (jw JT fa fb):=jd4 (fun _=>jpq) (@jr8 M.fr) ha hb
theorem JY (ha:WT M a fa) (hb:WT M b fb):WE M (.BinOp a .Mult b pos) (jw zZ fa fb):=jd4 (fun _=>jnF) (@jrD M.fr) ha hb
theorem ZL (ha:WT M a fa) (hb:WT M b fb):WE M (.BinOp a .FloorDiv b pos) (jw Q9 fa fb):=jd4 (fun _=>jkQ) (@jsg M.fr) ha hb
theorem zt (ha:WT M a fa) (hb:WT M b fb):WE M (.BinOp a .Mod b pos) (jw zw fa fb):=jd4 (fun _=>jpJ) (@jsl M.fr) ha hb
theorem jcZ (ha:WT M a fa) (hb:WT M b fb):WE M (.BinOp a .Pow b pos) (jw Zb fa fb):=jd4 (fun _=>joM) (@jq5 M.fr) ha hb
theorem jfc (ha:WT M a fa) (hb:WT M b fb):WO M (.BinOp a .Add b pos) (jw jcf fa fb):=let ⟨_,h1,h2⟩:=ha.h;let ⟨_,k1,k2⟩:=hb.h;⟨_,fun j=>jkP jmo (h1 j) (k1 j),@jn9 M.fr _ _ _ _ _ _ (@jqY M.fr) h2 k2⟩
theorem jrX (ha:WT M a fa):WE M (.UnaryOp .USub a pos) (jkS fa):=let ⟨_,h1,h2⟩:=ha.h;⟨_,fun j=>jqQ joA (h1 j),@jrw M.fr _ _ h2⟩
theorem w_not (ha:WT M a fa):WE M (.UnaryOp .Not a pos) (jmL fa):=let ⟨_,h1,h2⟩:=ha.h;⟨_,fun j=>jpL (h1 j),@jr2 M.fr _ _ h2⟩
theorem qj (ha:WT M a fa) (hb:WT M b fb) (hs:jeD b:=by exact fun _ _=>rfl):WE M (.Subscript a b pos) (jw qt fa fb):=let ⟨_,h1,h2⟩:=ha.h;let ⟨_,k1,k2⟩:=hb.h;⟨_,fun j=>jnS (r:=rIx M.K) (by rw [<-M.hK j];exact jlQ) (h1 j) (k1 j) hs,@jmS M.fr _ _ _ _ _ _ (@js1 M.fr) h2 k2⟩
structure WCmp (M:Fm) (op:CmpOp) (f:D->D->Option D):Prop where
 h:∃r,(∀j,OpR (M.X j) (compareOp op) r)/\@ROk M.fr r f
theorem jfP:WCmp M .Lt dLt:=⟨_,fun _=>jrU,@js2 M.fr⟩
theorem jlZ:WCmp M .LtE dLe:=⟨_,fun _=>jrb,@jsZ M.fr⟩
theorem jjp:WCmp M .Gt dGt:=⟨_,fun _=>jq4,@jsB M.fr⟩
theorem jsF:WCmp M .GtE dGe:=⟨_,fun _=>jqU,@jsJ M.fr⟩
theorem jf6 (hu:∀j,(M.X j).A.units+64<cLine):WCmp M .Eq dEq:=⟨@jgG M.fr,fun j=>by have:=jkr (hu j);rw [M.hK j] at this;exact this,@jsA M.fr⟩
theorem jmB (hu:∀j,(M.X j).A.units+64<cLine):WCmp M .NotEq dNe:=⟨@jhe M.fr,fun j=>by have:=jlx (hu j);rw [M.hK j] at this;exact this,@jsL M.fr⟩
variable {op op':CmpOp} {f f':D->D->Option D}
theorem jdN (ho:WCmp M op f) (ha:WT M a fa) (hb:WT M b fb) (hm:autoParam (behindInMarks op b=false) QA.a9._auto_1):WE M (.Compare a [op] [b] pos) (jw f fa fb):=let ⟨_,r1,r2⟩:=ho.h;let ⟨_,h1,h2⟩:=ha.h;let ⟨_,k1,k2⟩:=hb.h;⟨_,fun j=>jm6 (r1 j) (h1 j) (k1 j) hm,@jmS M.fr _ _ _ _ _ _ r2 h2 k2⟩
theorem qL (ho:WCmp M op f) (ha:WT M a fa) (hb:WT M b fb) (hm:autoParam (behindInMarks op b=false) QA.a9._auto_1):WC M (.Compare a [op] [b] pos) (qT (jw f fa fb)):=let ⟨_,r1,r2⟩:=ho.h;let ⟨_,h1,h2⟩:=ha.h;let ⟨_,k1,k2⟩:=hb.h;⟨_,fun j=>jma (r1 j) (h1 j) (k1 j) hm,@jo6 M.fr _ _ (@EOk.t M.fr _ _ (@jmS M.fr _ _ _ _ _ _ r2 h2 k2))⟩
theorem jnv (ho:WCmp M op f) (ho':WCmp M op' f') (ha:WT M a fa) (hb:WT M b fb) (hc:WT M c fc) (hm:autoParam (lastMarks [op,op'] [b,c]=false) QA.a6._auto_1):WE M (.Compare a [op,op'] [b,c] pos) (jb8 f f' fa fb fc):=let ⟨_,r1,r2⟩:=ho.h;let ⟨_,r3,r4⟩:=ho'.h;let ⟨_,h1,h2⟩:=ha.h;let ⟨_,k1,k2⟩:=hb.h;let ⟨_,l1,l2⟩:=hc.h;⟨_,fun j=>jlN (r1 j) (r3 j) (h1 j) (k1 j) (l1 j) hm,@jnB M.fr _ _ _ _ _ _ _ _ _ _ r2 r4 h2 k2 l2⟩
theorem jel {k:Nat} {p':Pos} (ha:WT M a fa):WC M (.Compare a [.IsNot] [.Constant .none k p'] pos) (qT (jbH fa)):=let ⟨_,h1,h2⟩:=ha.h;⟨_,fun j=>jqj (jnN (h1 j)),@t_B M.fr _ _ (@EOk.t M.fr _ _ (@jpU M.fr _ _ h2))⟩
theorem jkY {bo:BoolOp} (h:WE M a fa):WE M (.BoolOp bo [a] pos) fa:=let ⟨_,h1,h2⟩:=h.h;⟨_,fun j=>joJ (h1 j),h2⟩
theorem jhO (ha:WT M a fa) (hb:WE M (.BoolOp .And (b::es) pos) fb):WE M (.BoolOp .And (a::b::es) pos) (jeg fa fb):=let ⟨_,h1,h2⟩:=ha.h;let ⟨_,k1,k2⟩:=hb.h;⟨_,fun j=>jpT (h1 j) (k1 j),@jse M.fr _ _ _ _ h2 k2⟩
theorem jrt (hc:WC M c ga) (ha:WE M a fa) (hb:WE M b fb):WE M (.IfExp c a b pos) (eIf ga fa fb):=let ⟨_,l1,l2⟩:=hc.h;let ⟨_,h1,h2⟩:=ha.h;let ⟨_,k1,k2⟩:=hb.h;⟨_,fun j=>jk3 (l1 j) (h1 j) (k1 j),@jsx M.fr _ _ _ _ _ _ l2 h2 k2⟩
theorem jde (h:WT M a fa) (he:∀j whole,isTrue a (M.X j).env whole=(do let v <- whole;standAt a.pos;holding [v] (truthy v)):=by intro _ _;rfl):WC M a (qT fa):=let ⟨_,h1,h2⟩:=h.h;⟨_,fun j=>jpr (h1 j) (he j),@t_B M.fr _ _ h2⟩
theorem WW.toC (h:WW M a ga):WC M a ga:=let ⟨_,h1,h2⟩:=h.h;⟨_,fun j=>(h1 j).pt,h2⟩
theorem je5 (h:WC M a ga):WW M (.BoolOp .And [a] pos) ga:=let ⟨_,h1,h2⟩:=h.h;⟨_,fun j=>jmy (h1 j),h2⟩
theorem joy (h:WC M a ga):WW M (.BoolOp .Or [a] pos) ga:=let ⟨_,h1,h2⟩:=h.h;⟨_,fun j=>jo7 (h1 j),h2⟩
theorem jgx (ha:WC M a ga) (hb:WW M (.BoolOp .And (b::es) pos) gb):WW M (.BoolOp .And (a::b::es) pos) (Z2 ga gb):=let ⟨_,h1,h2⟩:=ha.h;let ⟨_,k1,k2⟩:=hb.h;⟨_,fun j=>jqs (h1 j) (k1 j),@jdL M.fr _ _ _ _ h2 k2⟩
theorem jrC (ha:WC M a ga) (hb:WW M (.BoolOp .Or (b::es) pos) gb):WW M (.BoolOp .Or (a::b::es) pos) (bOr ga gb):=let ⟨_,h1,h2⟩:=ha.h;let ⟨_,k1,k2⟩:=hb.h;⟨_,fun j=>jrm (h1 j) (k1 j),@jsX M.fr _ _ _ _ h2 k2⟩
theorem jio (ha:WC M a ga):WC M (.UnaryOp .Not a pos) (jdj ga):=let ⟨_,h1,h2⟩:=ha.h;⟨_,fun j=>jpH (h1 j),@jfC M.fr _ _ h2⟩
theorem jq:WA M [] jo:=⟨_,fun _=>jba,@a_nil M.fr⟩
theorem jc (ha:WE M e fe) (hs:WA M es fs) (h:qd e=false:=by rfl):WA M (e::es) (jd fe fs):=let ⟨_,h1,h2⟩:=ha.h;let ⟨_,k1,k2⟩:=hs.h;⟨_,fun j=>QK (h1 j) (k1 j) (j5 h),@jlo M.fr _ _ _ _ h2 k2⟩
theorem jL:WAT M [] jo:=⟨_,fun _=>jba,@jqp M.fr⟩
theorem jy (ha:WT M e fe) (hs:WAT M es fs) (h:qd e=false:=by rfl):WAT M (e::es) (jd fe fs):=let ⟨_,h1,h2⟩:=ha.h;let ⟨_,k1,k2⟩:=hs.h;⟨_,fun j=>QK (h1 j) (k1 j) (j5 h),@jnA M.fr _ _ _ _ h2 k2⟩
theorem Zw {k:Nat} (h:WA M es fs):WE M (.Tuple es k pos) (QW fs):=let ⟨_,h1,h2⟩:=h.h;⟨_,fun j=>jpj (h1 j),@jrR M.fr _ _ h2⟩
theorem JP (h:WA M es fs):WO M (.List es pos) (JU fs):=let ⟨_,h1,h2⟩:=h.h;⟨_,fun j=>joZ (h1 j),@jrL M.fr _ _ h2⟩
theorem jbM:WP M none pNo:=⟨_,fun _=>jmw,@jsS M.fr⟩
theorem jbA (h:WT M e fe):WP M (some e) (pSo fe):=let ⟨_,h1,h2⟩:=h.h;⟨_,fun j=>jmj (h1 j),@jsU M.fr _ _ h2⟩
theorem jf7 {lo hi:Option Expr} {fl fh:ef->Option (Option Int)} {p2:Pos} (h:WT M e fe) (hl:WP M lo fl) (hh:WP M hi fh):WO M (.Subscript e (.Slice lo hi none p2) pos) (eSl fe fl fh):=let ⟨_,h1,h2⟩:=h.h;let ⟨_,k1,k2⟩:=hl.h;let ⟨_,l1,l2⟩:=hh.h;⟨_,fun j=>jkq (r:=jpA M.K) (by rw [<-M.hK j];exact jnl) (h1 j) (k1 j) (l1 j),@jsR M.fr _ _ _ _ _ _ h2 k2 l2⟩
structure WB (M:Fm) (g:Value) (f:List D->Option D):Prop where
 h:∃r,(∀j,CallR (M.X j) g r)/\@jeo M.fr r f
structure WBO (M:Fm) (g:Value) (f:List D->Option (List D)):Prop where
 h:∃r,(∀j,CallR (M.X j) g r)/\@jix M.fr r f
theorem tT:WB M (.builtin "len") QX:=⟨_,fun j=>by have:=jiK (X:=M.X j);rw [M.hK j] at this;exact this,@jrn M.fr⟩
theorem uw:WBO M (.type "list") jdF:=⟨_,fun j=>by have:=jd9 (X:=M.X j);rw [M.hK j] at this;exact this,@jpZ M.fr⟩
theorem tR:WB M (.builtin "sum") Qb:=⟨_,fun j=>by have:=jkb (M.calm j);rw [M.hK j] at this;exact this,@jq1 M.fr⟩
theorem wD:WB M (.builtin "all") ji3:=⟨_,fun j=>by have:=jk7 (M.calm j);rw [M.hK j] at this;exact this,@jqM M.fr⟩
theorem jgQ:WB M (.builtin "min") jcB:=⟨_,fun j=>jiP (M.calm j),@joD M.fr⟩
theorem jpe:WB M (.builtin "max") jgu:=⟨_,fun j=>jiT (M.calm j),@jpR M.fr⟩
theorem jqn:WB M (.builtin "min") jfi:=⟨_,fun j=>by have:=ji9 (M.calm j);rw [M.hK j] at this;exact this,@jqy M.fr⟩
theorem si:WB M (.type "int") jpf:=⟨_,fun _=>jjG,@jrr M.fr⟩
variable {id T:String} {f1:List D->Option D} {f2:List D->Option (List D)}
theorem Jn (hc:WB M (.builtin id) f1) (hg:∀j,Gl (M.X j) x) (hm:∀j,(M.X j).mg x=none) (hv:bootBuiltins x=some (.builtin id)) (ha:WAT M (e::es) fs) (hn:x ≠ "__name__":=by decide) (hdb:‹"l"›=false:=by decide)
 (h:qd e=false:=by rfl) (h':(es.all fun e=>!qd e)=true:=by rfl):WE M ‹"K"› (jk f1 fs):=
 let ⟨_,r1,r2⟩:=hc.h;let ⟨_,h1,h2⟩:=ha.h;⟨_,fun j=>jcF (r1 j) (hg j) (hm j) hv (h1 j) hn hdb (j5 h) (JQ h'),@jsE M.fr _ _ _ _ r2 h2⟩
theorem jkF (hc:WBO M (.type T) f2) (hg:∀j,Gl (M.X j) x) (hm:∀j,(M.X j).mg x=none) (hv:bootBuiltins x=some (.type T)) (ha:WAT M (e::es) fs) (hn:x ≠ "__name__":=by decide) (hdb:‹"l"›=false:=by decide)
 (h:qd e=false:=by rfl) (h':(es.all fun e=>!qd e)=true:=by rfl):WO M ‹"K"› (jk f2 fs):=
 let ⟨_,r1,r2⟩:=hc.h;let ⟨_,h1,h2⟩:=ha.h;⟨_,fun j=>jbd (r1 j) (hg j) (hm j) hv (h1 j) hn hdb (j5 h) (JQ h'),@jqS M.fr _ _ _ _ r2 h2⟩
theorem jiG {y:Str} {p':Pos} (hg:∀j,Gl (M.X j) "isinstance") (hm:∀j,(M.X j).mg "isinstance"=none) (hg':∀j,Gl (M.X j) y) (hm':∀j,(M.X j).mg y=none) (hv':bootBuiltins y=some (.type T)) (hT:okT T=true) (ha:WT M a fa)
 (hn:y ≠ "__name__":=by decide) (hdb:(y == ("__debug__":Str))=false:=by decide) (h:qd a=false:=by rfl):WE M (.Call (.Name "isinstance" p) [a,.Name y p'] [] pos) (jjM T fa):=
 let ⟨_,h1,h2⟩:=ha.h
 ⟨_,fun j=>jcF (r:=fun xs H Q=>∃x T b,xs=[x,.ty T]/\IsT M.K H x T b/\Q (.bl b) H) (by have:=jf9 (X:=M.X j);rw [M.hK j] at this;exact this) (hg j) (hm j) boot_isinstance (QK (h1 j) (QK (jqR (hg' j) (hm' j) hv' hn hdb) jba (j5 rfl)) (j5 h)) (by decide) (by decide) (j5 h) (JQ rfl),@jrk M.fr T _ _ h2 hT⟩
theorem jpO {p' pos':Pos} (hg:∀j,Gl (M.X j) "sorted") (hm:∀j,(M.X j).mg "sorted"=none) (hg':∀j,Gl (M.X j) "set") (hm':∀j,(M.X j).mg "set"=none) (ha:WAT M [e] fs) (h:qd e=false:=by rfl) (sub:∀i j,(M.X i).prog=(M.X j).prog ∧ (M.X i).w=(M.X j).w) (j0:M.ι) :
 WO M (.Call (.Name "sorted" p) [.Call (.Name "set" p') [e] [] pos'] [] pos) (jfs fs):=
 let ⟨ta,h1,h2⟩:=ha.h
 ⟨_,fun j=>by
  have r1:=jhk (X:=M.X j) (M.calm j);have r2:=jcA (X:=M.X j) (M.calm j);have eS:∀a ns,jec (M.X j) a ns=jec (M.X j0) a ns:=fun a ns=>by unfold jec;rw [(sub j j0).1,(sub j j0).2]
  rw [M.hK j] at r1;simp only [eS] at r1 r2;exact jcF r2 (hg j) (hm j) boot_sorted (QK (jbd r1 (hg' j) (hm' j) boot_set (h1 j) (by decide) (by decide) (j5 h) (JQ rfl)) jba (j5 rfl)) (by decide) (by decide) (j5 rfl) (JQ rfl),@jpu M.fr (M.X j0) _ _ h2⟩
theorem jsG {p1 p2 pos1 pos2:Pos} (hg1:∀j,Gl (M.X j) "list") (hm1:∀j,(M.X j).mg "list"=none) (hg2:∀j,Gl (M.X j) "zip") (hm2:∀j,(M.X j).mg "zip"=none) (ha:WAT M [a,b] fs) (h:qd a=false:=by rfl) (h':qd b=false:=by rfl) :
 WO M (.Call (.Name "list" p1) [.Call (.Name "zip" p2) [a,b] [] pos2] [] pos1) (eLZ fs):=
 let ⟨_,h1,h2⟩:=ha.h
 ⟨jcl M.K _,fun j=>by have:=jhy (p1:=p1) (p2:=p2) (pos1:=pos1) (pos2:=pos2) (M.calm j) (hg1 j) (hm1 j) (hg2 j) (hm2 j) (h1 j) (by rw [j5 h,j5 h'];rfl) (by rw [j5 h'];rfl) (by rw [j5 rfl];rfl);rw [M.hK j] at this;exact this,@js0 M.fr _ _ h2⟩
theorem jN {k:Nat} {g:Addr} {fd:FuncData} {ps:List Str} (F:∀j,FnOk (M.X j).prog (M.X j).w (M.X j).K (M.X j).mg (M.X j).base JN k g fd ps (@spS M.fr f1)) (hr:∀j,Room k (M.X j).A) (hg:∀j,Gl (M.X j) x) (hm:∀j,(M.X j).mg x=some (.ref g)) (hk:∀j,PySem.W.keepIn (M.X j).K (.ref g)=true)
 (hb:∀j,Binds (M.X j).K fd ps []) (ha:WA M (e::es) fs) (hdb:‹"l"›=false:=by decide) (h:qd e=false:=by rfl) (h':(es.all fun e=>!qd e)=true:=by rfl):WE M ‹"K"› (jk f1 fs):=
 let ⟨_,h1,h2⟩:=ha.h;⟨_,fun j=>jiH (F j) (hr j) (hg j) (hm j) (hk j) (hb j) .nil jnU (h1 j) hdb (j5 h) (JQ h'),@jpd M.fr _ _ f1 E0 h2⟩
theorem qv {k:Nat} {g:Addr} {fd:FuncData} {ps:List Str} (F:∀j,FnOk (M.X j).prog (M.X j).w (M.X j).K (M.X j).mg (M.X j).base JN k g fd ps (@spO M.fr f2)) (hr:∀j,Room k (M.X j).A) (hg:∀j,Gl (M.X j) x) (hm:∀j,(M.X j).mg x=some (.ref g)) (hk:∀j,PySem.W.keepIn (M.X j).K (.ref g)=true)
 (hb:∀j,Binds (M.X j).K fd ps []) (ha:WA M (e::es) fs) (hdb:‹"l"›=false:=by decide) (h:qd e=false:=by rfl) (h':(es.all fun e=>!qd e)=true:=by rfl):WO M ‹"K"› (jk f2 fs):=
 let ⟨_,h1,h2⟩:=ha.h;⟨_,fun j=>jiH (F j) (hr j) (hg j) (hm j) (hk j) (hb j) .nil jnU (h1 j) hdb (j5 h) (JQ h'),@jne M.fr _ _ f2 E0 h2⟩
variable {m:D->ef->Option ef} {ms:List D->ef->Option ef} {tg iter:Expr}
theorem j1 {i:Nat} (hN:∀j,(M.X j).N.Nodup) (hi:M.N[i]?=some x) (hx:∀j,Loc (M.X j).env.scope x) (hf:∀j,(M.X j).fn x=true\/(M.X j).env.scope.names.lookup x=some .local):WG M (.Name x pos) (jA i):=⟨_,fun j=>jez (hN j) (by rw [M.hN j];exact hi) (hx j) (hf j),@jgJ M.fr i⟩
theorem QN:WGs M [] JD:=⟨_,fun _=>jhT,@jos M.fr⟩
theorem qe (h1:WG M e m) (h2:WGs M es ms) (hs:∀j,(assignEach (e::es) (M.X j).env).map (·.2)=assign e (M.X j).env::‹"am"›.map (·.2):=by intro _;rfl):WGs M (e::es) (jM m ms):=let ⟨_,a1,a2⟩:=h1.h;let ⟨_,b1,b2⟩:=h2.h;⟨_,fun j=>jgn (a1 j) (b1 j) (hs j),@jk4 M.fr _ _ _ _ a2 b2⟩
theorem QZ {k n:Nat} (h:WGs M es ms) (hn:∀j,‹"am"›.length=n:=by intro _;rfl) (hst:∀j,‹"am"›.findIdx? (·.1)=none:=by intro _;rfl):WG M (.Tuple es k pos) (Ju n ms):=let ⟨_,a1,a2⟩:=h.h;⟨jnJ M.K n _,fun j=>by have:=jlK (k:=k) (pos:=pos) (M.calm j) (a1 j) (hn j) (hst j);rw [M.hK j] at this;exact this,@jop M.fr n _ _ a2⟩
theorem WI.toT {f:ef->Option (List D)} (h:WI M tg e f):WIT M tg e f:=let ⟨_,h1,h2⟩:=h.h;⟨_,h1,@IOk.t M.fr _ _ h2⟩
theorem jeE (h:WE M e fe):WI M tg e (qh fe):=let ⟨_,h1,h2⟩:=h.h;⟨jgh M.K _,fun j=>by have:=jii (tg:=tg) (h1 j);rw [M.hK j] at this;exact this,@joL M.fr _ _ h2⟩
theorem qg (h:WT M e fe):WIT M tg e (qh fe):=let ⟨_,h1,h2⟩:=h.h;⟨jgh M.K _,fun j=>by have:=jii (tg:=tg) (h1 j);rw [M.hK j] at this;exact this,@jnz M.fr _ _ h2⟩
theorem jqi (h:WE M e fe):WI M tg e (jbF fe):=let ⟨_,h1,h2⟩:=h.h;⟨jqe M.K _,fun j=>by have:=jqx (tg:=tg) (h1 j);rw [M.hK j] at this;exact this,@jr5 M.fr _ _ h2⟩
theorem jed (hg:∀j,Gl (M.X j) "range") (hm:∀j,(M.X j).mg "range"=none) (ha:WAT M [a] fs) (h:qd a=false:=by rfl):WI M tg (.Call (.Name "range" p) [a] [] pos) (je4 fs):=let ⟨_,h1,h2⟩:=ha.h;⟨_,fun j=>jjL (hg j) (hm j) (h1 j) (by rw [j5 h];rfl),@jqf M.fr _ _ h2⟩
theorem jaM {ts:List Expr} {k:Nat} {tp:Pos} (hg:∀j,Gl (M.X j) "zip") (hm:∀j,(M.X j).mg "zip"=none) (ha:WAT M [a,b] fs) (h:qd a=false:=by rfl) (h':qd b=false:=by rfl):WIT M (.Tuple ts k tp) (.Call (.Name "zip" p) [a,b] [] pos) (Zi fs):=let ⟨_,h1,h2⟩:=ha.h;⟨joF M.K _,fun j=>by have:=jo5 (elts:=ts) (x1:=k) (tpos:=tp) (p:=p) (pos:=pos) (hg j) (hm j) (h1 j) (by rw [j5 h,j5 h'];rfl) (by rw [j5 h'];rfl);rw [M.hK j] at this;exact this,@jo4 M.fr _ _ h2⟩
theorem jaY {ts:List Expr} {k:Nat} {tp:Pos} (hg:∀j,Gl (M.X j) "enumerate") (hm:∀j,(M.X j).mg "enumerate"=none) (ha:WA M [a] fs) (h:qd a=false:=by rfl):WI M (.Tuple ts k tp) (.Call (.Name "enumerate" p) [a] [] pos) (Qe fs):=let ⟨_,h1,h2⟩:=ha.h;⟨jkJ M.K _,fun j=>by have:=jnj (elts:=ts) (x1:=k) (tpos:=tp) (p:=p) (pos:=pos) (hg j) (hm j) (h1 j) (by rw [j5 h];rfl);rw [M.hK j] at this;exact this,@jpC M.fr _ _ h2⟩
variable {st:Stmt} {sts body:List Stmt} {F F' B:FS}
theorem j7:WSs M [] ql:=⟨_,fun _=>jm7,@jpN M.fr⟩
theorem jr (h:WS M st F):WSs M [st] F:=let ⟨_,h1,h2⟩:=h.h;⟨_,fun j=>jnk (h1 j),h2⟩
theorem jg (h:WS M st F) (h':WSs M sts F'):WSs M (st::sts) (jC F F'):=let ⟨_,h1,h2⟩:=h.h;let ⟨_,k1,k2⟩:=h'.h;⟨_,fun j=>jkX (h1 j) (k1 j),@jr3 M.fr _ _ _ _ h2 k2⟩
theorem jm1 (h:WT M e fe) (hs:∀j,swapsWith e none pos.line (M.X j).env=pure false:=by intro _;rfl):WS M (.Expr e pos) (jft fe):=let ⟨_,h1,h2⟩:=h.h;⟨_,fun j=>jiC (h1 j) (hs j),@joE M.fr _ _ h2⟩
theorem j3 (h:WE M e fe):WS M (.Return (some e) pos) (qM fe):=let ⟨_,h1,h2⟩:=h.h;⟨_,fun j=>jhn (h1 j),@jrx M.fr _ _ h2⟩
theorem Jh (h:WO M e fo):WS M (.Return (some e) pos) (zO fo):=let ⟨_,h1,h2⟩:=h.h;⟨_,fun j=>jhn (h1 j),@jpb M.fr _ _ h2⟩
theorem jee (i:Nat) (hN:M.N[i]?=some x:=by rfl) (hv:autoParam (∀j,Vis (M.X j).env.scope x) QA.a7._auto_1) (hd:‹"l"›=false:=by decide)
 (hcd:(x == ("__classdict__":Str))=false:=by decide):WS M (.Return (some (.Name x p)) pos) (jdI i):=⟨_,fun j=>jhn ‹"R"›,@jpB M.fr i⟩
theorem zg (hc:WC M c ga) (h:WSs M sts F) (h':WSs M body F'):WS M (.If c sts body pos) (Qq ga F F'):=let ⟨_,l1,l2⟩:=hc.h;let ⟨_,h1,h2⟩:=h.h;let ⟨_,k1,k2⟩:=h'.h;⟨_,fun j=>jrZ (l1 j) (h1 j) (k1 j),@jsI M.fr _ _ _ _ _ _ l2 h2 k2⟩
theorem jJ {i:Nat} {pos':Pos} (h:WE M e fe) (hN:∀j,(M.X j).N.Nodup) (hi:M.N[i]?=some x) (hx:∀j,Loc (M.X j).env.scope x) (hf:∀j,(M.X j).fn x=true\/(M.X j).env.scope.names.lookup x=some .local) (hs:∀j,swapsWith e (some (.Name x pos')) pos.line (M.X j).env=pure false:=by intro _;rfl) :
 WS M (.Assign [.Name x pos'] e pos) (jP i fe):=let ⟨_,h1,h2⟩:=h.h;⟨_,fun j=>jhv (hN j) (by rw [M.hN j];exact hi) (hx j) (h1 j) (hs j) (hf j),@jn8 M.fr _ _ i h2⟩
theorem QR {i:Nat} {pos':Pos} (h:WO M e fo) (hN:∀j,(M.X j).N.Nodup) (hi:M.N[i]?=some x) (hx:∀j,Loc (M.X j).env.scope x) (hf:∀j,(M.X j).fn x=true\/(M.X j).env.scope.names.lookup x=some .local) (hs:∀j,swapsWith e (some (.Name x pos')) pos.line (M.X j).env=pure false:=by intro _;rfl) :
 WS M (.Assign [.Name x pos'] e pos) (J2 i fo):=let ⟨_,h1,h2⟩:=h.h;⟨_,fun j=>jhv (hN j) (by rw [M.hN j];exact hi) (hx j) (h1 j) (hs j) (hf j),@jpl M.fr _ _ i h2⟩
theorem jpo (h:WE M e fe) (hg:WG M tg m) (hs:∀j,swapsWithSole [tg] e pos.line (M.X j).env=pure false:=by intro _;rfl) (hw:∀j,swappedStores [tg] e (M.X j).env=pure none:=by intro _;rfl) (h1:∀j,(assignEach [tg] (M.X j).env).map (·.2)=[assign tg (M.X j).env]:=by intro _;rfl) :
 WS M (.Assign [tg] e pos) (jkf m fe):=let ⟨_,a1,a2⟩:=h.h;let ⟨_,b1,b2⟩:=hg.h;⟨_,fun j=>jkl (a1 j) (b1 j) (hs j) (hw j) (h1 j),@jrT M.fr _ _ _ _ b2 a2⟩
theorem jpW {i:Nat} {pos':Pos} {y:Str} {py:Pos} (hN:M.N[i]?=some y) (hv:∀j,Vis (M.X j).env.scope y) (hk:WE M b fb) (h:WE M e fe) (hd:(y == ("__debug__":Str))=false:=by decide) (hcd:(y == ("__classdict__":Str))=false:=by decide)
 (ha:autoParam (∀j v,assign (.Subscript (.Name y py) b pos') (M.X j).env v=(do
  let ov <- holding [v] (eval (.Name y py) (M.X j).env)
  let iv <- holding [v,ov] (eval b (M.X j).env)
  standAt pos'
  holding [v,ov,iv] (setItem ov iv v)
  release [v,ov,iv] [])) QA.a10._auto_1)
 (hs:∀j,swapsWithSole [.Subscript (.Name y py) b pos'] e pos.line (M.X j).env=pure false:=by intro _;rfl) (hw:∀j,swappedStores [.Subscript (.Name y py) b pos'] e (M.X j).env=pure none:=by intro _;rfl)
 (h1:∀j,(assignEach [.Subscript (.Name y py) b pos'] (M.X j).env).map (·.2)=[assign (.Subscript (.Name y py) b pos') (M.X j).env]:=by intro _;rfl):WS M (.Assign [.Subscript (.Name y py) b pos'] e pos) (jkv i fb fe):=
 let ⟨_,a1,a2⟩:=h.h;let ⟨_,b1,b2⟩:=hk.h;⟨_,fun j=>jkl (a1 j) (jo9 ‹"R"› (b1 j) jfy (ha j)) (hs j) (hw j) (h1 j),@jrP M.fr _ _ _ _ i b2 a2⟩
theorem jqt (i:Nat) (h:WS M st F):WS M st (jm9 i F):=let ⟨_,h1,h2⟩:=h.h;⟨_,h1,@jsd M.fr _ _ i h2⟩
theorem Qa (hi:WI M tg iter fo) (hg:WG M tg m) (hb:WSs M body B) (hp:autoParam (∀j,PassesOwn (model (M.X j).prog (M.X j).w) (M.X j).A (M.X j).env (M.X j).xe) QA.a11._auto_1) (hs:∀j x,foldedSetIterable iter (M.X j).env x=pure x:=by intro _ _;rfl):WS M (.For tg iter body [] pos) (JC fo m B):=let ⟨_,i1,i2⟩:=hi.h;let ⟨_,g1,g2⟩:=hg.h;let ⟨_,b1,b2⟩:=hb.h;⟨_,fun j=>jp6 (hp j) (M.calm j) (i1 j) (g1 j) (b1 j) (hs j),@jrI M.fr _ _ _ _ _ _ i2 g2 b2⟩
theorem jcm (hc:WC M c ga) (hb:WSs M body B) (hp:autoParam (∀j,PassesOwn (model (M.X j).prog (M.X j).w) (M.X j).A (M.X j).env (M.X j).xe) QA.a11._auto_1):WS M (.While c body [] pos) (JZ ga B):=let ⟨_,c1,c2⟩:=hc.h;let ⟨_,b1,b2⟩:=hb.h;⟨_,fun j=>jlb (hp j) (c1 j) (b1 j),@jnG M.fr _ _ _ _ c2 b2⟩
theorem Zk {i:Nat} {y:Str} {py:Pos} (hN:M.N[i]?=some y) (hv:∀j,Vis (M.X j).env.scope y) (h:WE M e fe) (hd:(y == ("__debug__":Str))=false:=by decide) (hcd:(y == ("__classdict__":Str))=false:=by decide)
 (hbase:∀j,attributeBase (.Name y py) "append" (M.X j).env (eval (.Name y py) (M.X j).env)=eval (.Name y py) (M.X j).env:=by intro _;rfl) (hline:‹"4"›=true:=by rfl) (h':qd e=false:=by rfl)
 (hs:∀j,swapsWith (.Call (.Attribute (.Name y py) "append" apos) [e] [] cpos) none pos.line (M.X j).env=pure false:=by intro _;rfl):WS M (.Expr (.Call (.Attribute (.Name y py) "append" apos) [e] [] cpos) pos) (Zf i fe):=
 let ⟨_,a1,a2⟩:=h.h
 ⟨_,fun j=>jiC (te:=tBM M.K "list" jeJ _ _) (by have:=jou (X:=M.X j) (apos:=apos) (cpos:=cpos) PySem.F.plainAttrs_list PySem.F.slot_list_append PySem.F.type_list_append jjB (Zq (i:=i) (pos:=py) (by rw [M.hN j];exact hN) (hv j) hd hcd) (QK (a1 j) jba (j5 h')) (hbase j) (by rw [j5 h'];rfl) hline (j5 h') (JQ rfl);rw [M.hK j] at this;exact this) (hs j),@jq2 M.fr _ _ i a2⟩
def Fm.blk (M:Fm) (N:List Str) (scope:Scope):Fm:=⟨M.ι×Addr×Shared×Hp×List Addr,fun i=>(M.X i.1).blk N scope i.2.1 i.2.2.1 i.2.2.2.1 i.2.2.2.2,M.K,N,fun i=>M.hK i.1,fun _=>rfl,fun i=>M.calm i.1⟩
variable {ifs:List Expr} {scope sc:Scope} {Lc Fn:List Str} {ix:List Nat}
theorem qy {i n:Nat} (hN:∀j,(M.X j).N.Nodup) (hi:M.N[i]?=some x) (hn:i<n) (hx:∀j,Loc (M.X j).env.scope x) (hf:∀j,(M.X j).fn x=true\/(M.X j).env.scope.names.lookup x=some .local):WL M n (.Name x pos) (jA i):=⟨_,fun j=>jez (hN j) (by rw [M.hN j];exact hi) (hx j) (hf j),@jgJ M.fr i,jiN hn⟩
def jre (n:Nat) (t:TGs):Prop:=(∀xs σ H Q,t xs σ H Q->t xs σ H fun σ2 H2=>Q σ2 H2/\σ2.length=σ.length/\∀j,n<=j->σ2[j]?=σ[j]?)/\∀xs σ H (Q Q':St->Hp->Prop),(∀σ H,Q σ H->Q' σ H)->t xs σ H Q->t xs σ H Q'
structure WLs (M:Fm) (n:Nat) (tg:List Expr) (m:List D->ef->Option ef):Prop where
 h:∃t:TGs,(∀i,PGs (M.X i) tg t)/\@jjl M.fr t m/\jre n t
theorem ZC {n:Nat}:WLs M n [] JD:=⟨joS,fun _=>jhT,@jos M.fr,fun xs σ H Q h=>⟨h.1,h.2,rfl,fun _ _=>rfl⟩,fun xs σ H Q Q' hq h=>⟨h.1,hq _ _ h.2⟩⟩
theorem qq {i n:Nat} (hN:∀j,(M.X j).N.Nodup) (hi:M.N[i]?=some x) (hn:i<n) (hx:∀j,Loc (M.X j).env.scope x) (hf:∀j,(M.X j).fn x=true\/(M.X j).env.scope.names.lookup x=some .local) (h:WLs M n es ms)
 (hs:∀j,(assignEach (.Name x pos::es) (M.X j).env).map (·.2)=assign (.Name x pos) (M.X j).env::‹"am"›.map (·.2):=by intro _;rfl):WLs M n (.Name x pos::es) (jM (jA i) ms):=
 let ⟨_,b1,b2,b3,b4⟩:=h.h
 ⟨_,fun j=>jgn (jez (hN j) (by rw [M.hN j];exact hi) (hx j) (hf j)) (b1 j) (hs j),@jk4 M.fr _ _ _ _ (@jgJ M.fr i) b2,fun xs σ H Q ⟨v,r,e,q⟩=>⟨v,r,e,b4 _ _ _ _ _ (fun σ2 H2 ⟨q1,q2,q3⟩=>⟨q1,by rw [q2];simp,fun k hk=>by rw [q3 k hk,YY (by omega)]⟩) (b3 _ _ _ _ q)⟩,
  fun xs σ H Q Q' hq ⟨v,r,e,q⟩=>⟨v,r,e,b4 _ _ _ _ _ hq q⟩⟩
theorem Zy {k n l:Nat} (h:WLs M n es ms) (hn:∀j,‹"am"›.length=l:=by intro _;rfl) (hst:∀j,‹"am"›.findIdx? (·.1)=none:=by intro _;rfl):WL M n (.Tuple es k pos) (Ju l ms):=let ⟨_,a1,a2,a3,_⟩:=h.h;⟨jnJ M.K l _,fun j=>by have:=jlK (k:=k) (pos:=pos) (M.calm j) (a1 j) (hn j) (hst j);rw [M.hK j] at this;exact this,@jop M.fr l _ _ a2,fun x σ H Q ⟨a,xs,e,hq,hl,q⟩=>⟨a,xs,e,hq,hl,a3 _ _ _ _ q⟩⟩
theorem j6:WTs M [] ‹"m"›:=⟨_,fun _=>jnu,@jpQ M.fr⟩
theorem jeZ (h:WC M e ga):WTs M [e] ga:=let ⟨_,h1,h2⟩:=h.h;⟨_,fun j=>jm3 (h1 j),h2⟩
theorem Qs (hsc:∀j,(M.X j).env.scope=sc) (ok:LcOk sc M.N scope Fn ix) (hi:WIT M tg iter fo) (hg:WL ‹"8"› Lc.length tg m) (ht:WTs ‹"8"› ifs ga) (he:WE ‹"8"› e fe)
 (hs:∀j x,foldedSetIterable iter (M.X j).env x=pure x:=by intro _ _;rfl):WO M ‹"A"› (Qp fo m ga fe Lc.length ix):=
 let ⟨_,i1,i2⟩:=hi.h;let ⟨_,g1,g2,g3⟩:=hg.h;let ⟨_,t1,t2⟩:=ht.h;let ⟨_,e1,e2⟩:=he.h
 ⟨_,fun j=>jpX (hsc j) (M.hN j) (M.calm j) ok (i1 j) (fun C s H fp=>g1 (j,C,s,H,fp)) g3 (fun C s H fp=>t1 (j,C,s,H,fp)) (fun C s H fp=>e1 (j,C,s,H,fp)) (hs j),@jrf M.fr _ _ _ _ _ _ _ _ _ _ i2 g2 t2 e2⟩
def jl5 (sc scope:Scope):Scope:={ scope with names:=scope.names.map fun (n,k)=>if (k == NameKind.free && sc.kind == .function && sc.names.lookup n == some .cell) then (n,NameKind.cell) else (n,k) }
theorem jqP {N1:List Str} {scope1:Scope} (hsc:∀j,(M.X j).env.scope=sc) (ok:LcOk (jl5 sc scope1) N1 scope Fn ix) (hi:WIT (M.blk N1 scope1) tg iter fo) (hg:WL ((M.blk N1 scope1).blk (Lc++Fn) scope) Lc.length tg m) (ht:WTs ((M.blk N1 scope1).blk (Lc++Fn) scope) ifs ga) (he:WE ((M.blk N1 scope1).blk (Lc++Fn) scope) e fe)
 (hs:∀j x,foldedSetIterable iter ((M.blk N1 scope1).X j).env x=pure x:=by intro _ _;rfl):WO (M.blk N1 scope1) ‹"A"› (Qp fo m ga fe Lc.length ix):=
 Qs (M:=M.blk N1 scope1) (sc:=jl5 sc scope1) (fun j=>by rw [<-hsc j.1];rfl) ok hi hg ht he hs
theorem jgo {i:Nat} {y:Str} {py spos:Pos} (hNd:∀j,(M.X j).N.Nodup) (hy:M.N[i]?=some y) (hyl:∀j,(M.X j).env.scope.names.lookup y=some .local) (hsc:∀j,(M.X j).env.scope=sc) (ok:LcOk sc M.N scope Fn ix) (hi:WIT M tg iter fo) (hg:WL ‹"8"› Lc.length tg m) (ht:WTs ‹"8"› ifs ga) (he:WE ‹"8"› e fe)
 (hsw:∀j,swapsWith ‹"A"› (some (.Name y py)) spos.line (M.X j).env=pure true:=by intro _;rfl) (hs:∀j x,foldedSetIterable iter (M.X j).env x=pure x:=by intro _ _;rfl):WS M (.Assign [.Name y py] ‹"A"› spos) (jP i (jK (Qp fo m ga fe Lc.length ix))):=
 let ⟨_,i1,i2⟩:=hi.h;let ⟨_,g1,g2,g3⟩:=hg.h;let ⟨_,t1,t2⟩:=ht.h;let ⟨_,e1,e2⟩:=he.h
 ⟨_,fun j=>jcq (hNd j) (by rw [M.hN j];exact hy) (hyl j) (hsc j) (M.hN j) (M.calm j) ok (i1 j) (fun C s H fp=>g1 (j,C,s,H,fp)) g3 (fun C s H fp=>t1 (j,C,s,H,fp)) (fun C s H fp=>e1 (j,C,s,H,fp)) (hsw j) (hs j),@jn8 M.fr _ _ i (@EOkO.e M.fr _ _ (@jrf M.fr _ _ _ _ _ _ _ _ _ _ i2 g2 t2 e2))⟩
end
section
variable {P:Program} {w:World} {K:PySem.W.Frag} {mg:Str->Option Value} {base:Heap} {y qual:Str} {st:Stmt} {f:Addr} {fd:FuncData} {N ps:List Str} {k a n:Nat} {m:FS}
abbrev jow (P:Program) (w:World) (K:PySem.W.Frag) (mg:Str->Option Value) (base:Heap) (N:List Str) (qual:Str) (scope:Scope) (f:Addr) (cdv:Value) (A:Around) (outer:List PySem.Env) (s:Shared) (H:Hp) (E:XK):Fm:=⟨Unit,fun _=>(jgE JN P w K mg base N qual scope f cdv A outer s H E).nox,K,N,fun _=>rfl,fun _=>rfl,fun _=>rfl⟩
theorem zP (F:Fun K y qual st f fd) (S:FnScope N ps (je st)) (ha:a=ps.length) (hn:N.length=n)
 (h:∀(cdv:Value) (A:Around) (outer:List PySem.Env) (s:Shared) (H:Hp) (E:XK),Room k ‹"ak"›->WSs (jow P w K mg base N qual (je st) f cdv A outer s H E) (jF st) m) :
 FnOk P w K mg base JN (k+1) f fd ps (@spS ⟨K⟩ (ze a n m)):=by
 letI:Fr:=⟨K⟩
 refine F.ok S (fun vs H Q E h=>(jrh h).trans ha) (fun cdv A outer s H vs Q E hr q=>?_);obtain ⟨t,h1,h2⟩:=(h cdv A outer s H E hr).h;exact ⟨t,h1 (),jp3 h2 (by rw [<-hn]) q⟩
theorem Qh (F:Fun K y qual st f fd) (S:FnScope N ps (je st)) (ha:a=ps.length) (hn:N.length=n)
 (h:∀(cdv:Value) (A:Around) (outer:List PySem.Env) (s:Shared) (H:Hp) (E:XK),Room k ‹"ak"›->WSs (jow P w K mg base N qual (je st) f cdv A outer s H E) (jF st) m) :
 FnOk P w K mg base JN (k+1) f fd ps (@spO ⟨K⟩ (Jk a n m)):=by
 letI:Fr:=⟨K⟩
 refine F.ok S (fun vs H Q E h=>(jq3 h).trans ha) (fun cdv A outer s H vs Q E hr q=>?_);obtain ⟨t,h1,h2⟩:=(h cdv A outer s H E hr).h;exact ⟨t,h1 (),joT h2 (by rw [<-hn]) q⟩
end
end L2
namespace L2
open PySem PySem.Spec PyProof.Rows
def qB:List Int->List D->Int->Option D
 | i::ks,d::ds,k=>if i=k then some d else qB ks ds k
 | _,_,_=>none
def jd5:List Int->List D->Int->D->List D
 | i::ks,d::ds,k,e=>(if i=k then e else d)::jd5 ks ds k e
 | _,_,_,_=>[]
def jcP:List Int->List V->Int->V->List V
 | i::ks,d::ds,k,e=>(if i=k then e else d)::jcP ks ds k e
 | _,_,_,_=>[]
section
variable [Fr] {G H:Hp}
theorem jax {i:Int} {ks:List Int} {v:V} {vs:List V}:qF (i::ks) (v::vs)=(Sum.inl i,v)::qF ks vs:=rfl
theorem jaF {vs:List V} {ds:List D} (r:Reps G vs ds):∀{ks:List Int} (k:Int),ks.length=vs.length->
 (∀d,qB ks ds k=some d->∃v,jaT (qF ks vs) (Sum.inl k)=some v/\Rep G v d)/\(qB ks ds k=none->jaT (qF ks vs) (Sum.inl k)=none):=by
 induction vs generalizing ds with
 | nil=>
   intro ks k hl;cases ks with
   | nil=>have hn:qB [] ds k=none:=rfl;rw [hn];exact ⟨fun d h=>(nomatch h),fun _=>rfl⟩
   | cons i ks=>cases hl
 | cons v vs ih=>
   intro ks k hl;cases ks with
   | nil=>cases hl
   | cons i ks=>
     cases r with
     | @cons _ d _ ds r t=>
       have ih':=ih t (ks:=ks) k (by simpa using hl);by_cases e:i=k
       . refine ⟨fun d' h=>⟨v,?_,?_⟩,fun h=>?_⟩
         . rw [jax];exact jaB (by rw [e])
         . have h':(if i=k then some d else qB ks ds k)=some d':=h;rw [if_pos e] at h';cases h';exact r
         . have h':(if i=k then some d else qB ks ds k)=none:=h;rw [if_pos e] at h';cases h'
       . have h0:qB (i::ks) (d::ds) k=qB ks ds k:=if_neg e;rw [h0,jax,jaX (show ¬(Sum.inl i:zj)=Sum.inl k from fun z=>e (by injection z))];exact ih'
theorem jfO {vs:List V} {ds:List D} (r:Reps G vs ds) {ks:List Int} (k:Int) (hl:ks.length=vs.length):(jaT (qF ks vs) (Sum.inl k)).isSome=(qB ks ds k).isSome:=by
 obtain ⟨h1,h2⟩:=jaF r k hl;cases e:qB ks ds k with
 | none=>rw [h2 e];rfl
 | some d=>obtain ⟨v,hv,_⟩:=h1 d e;rw [hv];rfl
theorem jfK {v:V}:∀{ks:List Int} {vs:List V} {k:Int},ks.length=vs.length->(jcP ks vs k v).length=ks.length
 | [],[],_,_=>rfl
 | [],_::_,_,h=>by cases h
 | _::_,[],_,h=>by cases h
 | i::ks,u::vs,k,h=>by show (jcP ks vs k v).length+1=ks.length+1;rw [jfK (by simpa using h)]
theorem jkM {v:V} {d:D} (q:Rep G v d) {vs:List V} {ds:List D} (r:Reps G vs ds):∀{ks:List Int} {k:Int},Reps G (jcP ks vs k v) (jd5 ks ds k d):=by
 induction vs generalizing ds with
 | nil=>intro ks k;cases r;cases ks <;> exact .nil
 | cons u vs ih=>
   intro ks k;cases r with
   | cons a t=>
     cases ks with
     | nil=>exact .nil
     | cons i ks=>
       refine .cons ?_ (ih t);by_cases e:i=k
       . rw [if_pos e,if_pos e];exact q
       . rw [if_neg e,if_neg e];exact a
theorem jim {v:V}:∀{ks:List Int} {vs:List V} {k:Int},ks.length=vs.length->(qF ks vs).map (fun kv=>if kv.1=(Sum.inl k:zj) then (kv.1,v) else kv)=qF ks (jcP ks vs k v)
 | [],[],_,_=>rfl
 | [],_::_,_,h=>by cases h
 | _::_,[],_,h=>by cases h
 | i::ks,u::vs,k,h=>by
   show _=qF (i::ks) ((if i=k then v else u)::jcP ks vs k v);rw [jax,jax,List.map_cons,jim (by simpa using h)];congr 1;by_cases e:i=k
   . subst e;simp
   . rw [if_neg (show ¬(Sum.inl i:zj)=Sum.inl k from fun z=>e (by injection z)),if_neg e]
theorem jhE {v:V} {k:Int}:∀{ks:List Int} {vs:List V},ks.length=vs.length->qF ks vs++[(Sum.inl k,v)]=qF (ks++[k]) (vs++[v])
 | [],[],_=>rfl
 | [],_::_,h=>by cases h
 | _::_,[],h=>by cases h
 | i::ks,u::vs,h=>by show (Sum.inl i,u)::(qF ks vs++[(Sum.inl k,v)])=qF (i::(ks++[k])) (u::(vs++[v]));rw [jhE (by simpa using h)];rfl
omit [Fr] in
theorem jcc {ks:List Int} {vs:List V} (h:ks.length=vs.length):(qF ks vs).length=ks.length:=by unfold qF;simp [h]
def joB (neg:Bool):R2:=fun x y H Q=>∃a o,y=.ref a/\jdr H a x o/\Q (.bl (neg != o.isSome)) H
def jas (neg:Bool):D->D->Option D
 | .int i,.dic ks ds=>some (.bl (neg != (qB ks ds i).isSome))
 | _,_=>none
theorem jlp {neg:Bool} {x y d:D} (q:jas neg x y=some d):∃i ks ds,x=.int i/\y=.dic ks ds/\D.bl (neg != (qB ks ds i).isSome)=d:=by
 cases x with
 | int i=>
   cases y with
   | dic ks ds=>exact ⟨i,ks,ds,rfl,rfl,Option.some.inj q⟩
   | _=>exact qf q
 | _=>exact qf q
theorem jof (neg:Bool):ROk (joB neg) (jas neg):=fun G H x y dx dy d Q s rx ry q k=>by
 obtain ⟨i,ks,ds,rfl,rfl,rfl⟩:=jlp q
 (have hh:=RepT.of_int rx;subst hh)
 cases ry with
 | @dic a _ vs _ h hl r=>refine ⟨a,jaT (qF ks vs) (Sum.inl i),rfl,.inl ⟨_,Sum.inl i,h,rfl,rfl⟩,?_⟩;rw [jfO r i hl];exact k _ G H (.refl s) (.bl _)
def jhW:D->D->Option D
 | .dic ks ds,.int i=>qB ks ds i
 | _,_=>none
theorem jiL {x y d:D} (q:jhW x y=some d):∃i ks ds,x=.dic ks ds/\y=.int i/\qB ks ds i=some d:=by
 cases x with
 | dic ks ds=>
   cases y with
   | int i=>exact ⟨i,ks,ds,rfl,rfl,q⟩
   | _=>exact qf q
 | _=>exact qf q
theorem jqa {td ty:TE} {fd fk:ef->Option D} (hd:zx td fd) (hk:zx ty fk):EOk (joj td ty) (jw jhW fd fk):=fun G0 H0 G H σ ρ Q d e q k=>by
 obtain ⟨x,qa,q⟩:=bind_some q;obtain ⟨y,qb,q⟩:=bind_some q;obtain ⟨i,ks,ds,rfl,rfl,q⟩:=jiL q;refine hd G0 H0 G H σ ρ _ _ e qa fun u G1 H1 x1 r1=>?_;refine hk G0 H0 G1 H1 σ ρ _ _ (e.grow x1) qb fun v G2 H2 x2 r2=>?_;have r1':=r1.mono x2.gg x2.hh;cases r1' with
 | @dic a _ vs _ h hl r=>
   (have hh:=RepT.of_int r2;subst hh)
   obtain ⟨v,h1,h2⟩:=(jaF r i hl).1 d q;exact ⟨a,v,rfl,.inl ⟨_,Sum.inl i,h,rfl,h1.symm⟩,k v G2 H2 (x1.trans x2) h2⟩
def EOkD (t:TE) (f:ef->Option (List Int×List D)):Prop:=∀G0 H0 G H σ ρ (Q:VK) p,EnvOk G0 H0 G H σ ρ->f ρ=some p->
 (∀a vs G' H',Ext G H G' H'->H a=none->G' a=none->H' a=some (.dK (qF p.1 vs))->p.1.length=vs.length->Reps G' vs p.2->Q (.ref a) H')->t σ H Q
def tFz (t:TE):TE:=fun σ H Q=>t σ H fun v H1=>∃a kvs,v=.ref a/\H1 a=some (.dK kvs)/\∀o,Q v (upd H1 a (.frz o (.dK kvs)))
def jqX (f:ef->Option (List Int×List D)):ef->Option D:=fun ρ=>(f ρ).map fun p=>.dic p.1 p.2
theorem EOkD.e {t:TE} {f:ef->Option (List Int×List D)} (h:EOkD t f):EOk (tFz t) (jqX f):=fun G0 H0 G H σ ρ Q d e q k=>by
 unfold jqX at q;cases z:f ρ with
 | none=>rw [z] at q;cases q
 | some ds=>rw [z] at q;cases q;refine h G0 H0 G H σ ρ _ ds e z fun a vs G' H' x hn hg ha hl r=>⟨a,_,rfl,ha,fun o=>?_⟩;have x':Ext G H G' (upd H' a (.frz o (.dK (qF ds.1 vs)))):=⟨fun b u w=>by rw [jz (jD w hn)];exact x.hh b u w,x.gg,fun b u w=>by rw [jz (jD w hg)];exact x.gh b u w,x.nw⟩;exact k _ _ _ (x'.freeze hn hg jB) (.dic jB hl (r.mono (.upd hg)))
def jh9:ef->Option (List Int×List D):=fun _=>some ([],[])
theorem jph:EOkD jlI jh9:=fun G0 H0 G H σ ρ Q p e q k hp hn=>by cases q;exact k hp [] G _ (.new e.same hn) hn (e.same.free hn) (by rw [jB];rfl) rfl .nil
def jlO (fk fv:ef->Option D):ef->Option (List Int×List D):=fun ρ=>match fk ρ,fv ρ with
 | some (.int i),some d=>some ([i],[d])
 | _,_=>none
theorem joQ {tk tv:TE} {fk fv:ef->Option D} (hk:EOk tk fk) (hv:EOk tv fv):EOkD (jnX [(tk,tv)]) (jlO fk fv):=fun G0 H0 G H σ ρ Q p e q k a ha=>by
 unfold jlO at q;split at q
 . rename_i i d z1 z2;cases q;have x0:Ext G H G (upd H a (.dK [])):=.new e.same ha;refine hk _ _ _ _ _ _ _ _ (e.grow x0) z1 fun x G1 H1 x1 r1=>hv _ _ _ _ _ _ _ _ ((e.grow x0).grow x1) z2 fun y G2 H2 x2 r2=>?_
   (have hh:=Rep.of_int r1;subst hh)
   have h2:H2 a=some (.dK []):=(x1.trans x2).hh _ _ jB;have ga:G2 a=none:=(x1.trans x2).gone (e.same.free ha) jB;refine ⟨h2,[(Sum.inl i,y)],rfl,by show 1<=15;decide,?_⟩;have x3:Ext G H G2 H2:=x0.trans (x1.trans x2);refine k a [y] G2 _ ⟨fun b o z=>?_,x3.gg,fun b o z=>?_,x3.nw⟩ ha ga ?_ rfl (.cons r2 .nil)
   . rw [jz (jD z ha)];exact x3.hh b o z
   . rw [jz (jD z ga)];exact x3.gh b o z
   . rw [jB];rfl
 . cases q
def jeV:List D->Option (List Int×List D)
 | [.dic ks ds]=>some (ks,ds)
 | _=>none
def jkL:List V->Hp->VK->Prop:=fun xs H Q=>∃a kvs,xs=[.ref a]/\Rd H a (.dK kvs)/\∀p,H p=none->Q (.ref p) (upd H p (.dK kvs))
theorem jl8 {As:TA} {fs:ef->Option (List D)} (h:jbs As fs):EOkD (tCB jkL As) (jk jeV fs):=fun G0 H0 G H σ ρ Q p e q k=>by
 obtain ⟨ds,q1,q2⟩:=bind_some q;refine h _ _ _ _ _ _ _ _ e q1 fun vs G1 H1 x1 r1=>?_;unfold jeV at q2;split at q2
 . cases q2;cases r1 with
   | cons r t=>cases t;obtain ⟨_,_,rfl,h,hl,r⟩:=r.of_dic;exact ⟨_,_,rfl,h,fun b hb=>k b _ G1 _ (x1.trans (.new x1.gh hb)) (x1.hh.free hb) (x1.gh.free hb) jB hl r⟩
 . cases q2
def jc7:List D->Option (List D)
 | [.dic ks _]=>if zG ks.length then some (ks.map .int) else none
 | _=>none
def jkW:List V->Hp->VK->Prop:=fun xs H Q=>∃a ks vs,xs=[.ref a]/\Rd H a (.dK (qF ks vs))/\ks.length=vs.length/\∀p,H p=none->Q (.ref p) (upd H p (.lst (ks.map V.int)))
theorem jmW:jix jkW jc7:=fun G H xs ds es Q s r q k=>by
 unfold jc7 at q;split at q
 . split at q
   . cases q;cases r with
     | cons r t=>cases t;obtain ⟨_,_,rfl,h,hl,r⟩:=r.of_dic;exact ⟨_,_,_,rfl,h,hl,fun b hb=>k b _ G _ (.new s hb) hb (s.free hb) jB (Reps.of_ints _)⟩
   . cases q
 . cases q
def jdz (i:Nat) (fo:ef->Option (List Int×List D)):FS:=fun ρ=>match fo ρ with
 | some p=>.next (ρ.set i (.od p.1 p.2))
 | none=>.fail
theorem joP {te:TE} {fo:ef->Option (List Int×List D)} (i:Nat) (h:EOkD te fo):Z1 (jds te (jaa i)) (jdz i fo):=fun G0 H0 G H σ ρ E e q=>by
 unfold jdz at q;split at q
 . rename_i p z;exact h _ _ _ _ _ _ _ _ e z fun a vs G' H' x hn hg hh hl r=>q G' H' _ x.gg (e.setD x hn hg hh hl r)
 . exact q.elim
def jlE (t:TE):TS:=fun D σ H=>t σ H fun v H1=>∃a kvs,v=.ref a/\H1 a=some (.dK kvs)/\∀o,D.rt v (upd H1 a (.frz o (.dK kvs)))
def jfJ (i:Nat):FS:=fun ρ=>match ρ[i]? with
 | some (.od ks ds)=>.ret (.dic ks ds)
 | _=>.fail
theorem jpt (i:Nat):Z1 (jlE (je1 i)) (jfJ i):=fun G0 H0 G H σ ρ E e q=>by
 unfold jfJ at q;split at q
 . rename_i ks ds z;obtain ⟨a,vs,h1,h2,h3,h4,hl,h5⟩:=e.od z;refine ⟨_,h1,a,_,rfl,h4,fun o=>?_⟩;have x':Ext G0 H0 G (upd H a (.frz o (.dK (qF ks vs)))):=⟨fun b u w=>by rw [jz (jD w h2)];exact e.ext.hh b u w,e.ext.gg,fun b u w=>by rw [jz (jD w h3)];exact e.same b u w,e.ext.nw⟩;exact q _ _ _ (x'.freeze h2 h3 jB) (.dic jB hl (h5.mono (.upd h3)))
 . exact q.elim
def JR (ks:List Int) (k:Int):List Int:=if k∈ks then ks else ks++[k]
def jbG (ks:List Int) (ds:List D) (k:Int) (d:D):List D:=if k∈ks then jd5 ks ds k d else ds++[d]
theorem jmt {ks:List Int} {vs:List V} {k:Int} (hl:ks.length=vs.length):((qF ks vs).any fun kv=>decide (kv.1=(Sum.inl k:zj)))=decide (k∈ks):=by
 induction ks generalizing vs with
 | nil=>rfl
 | cons i ks ih=>
   cases vs with
   | nil=>cases hl
   | cons v vs=>
     rw [jax,List.any_cons,ih (by simpa using hl)];by_cases e:i=k
     . subst e;simp
     . have:¬(Sum.inl i:zj)=Sum.inl k:=fun z=>e (by injection z);simp [this,Ne.symm e]
def Q8 (i:Nat) (fk fv:ef->Option D):FS:=fun ρ=>match ρ[i]?,fv ρ,fk ρ with
 | some (.od ks ds),some d,some (.int k)=>if zG ks.length then .next (ρ.set i (.od (JR ks k) (jbG ks ds k d))) else .fail
 | _,_,_=>.fail
theorem joV {tk tv:TE} {fk fv:ef->Option D} (i:Nat) (hk:EOk tk fk) (hv:EOk tv fv):Z1 (joc (je1 i) tk tv) (Q8 i fk fv):=fun G0 H0 G H σ ρ E e q=>by
 unfold Q8 at q;split at q
 . rename_i ks ds d k z1 z2 z3;split at q
   . rename_i hz;obtain ⟨a,vs,h1,h2,h3,h4,hl,h5⟩:=e.od z1;refine hv _ _ _ _ _ _ _ _ e z2 fun v G' H' x r=>⟨_,h1,hk _ _ _ _ _ _ _ _ (e.grow x) z3 fun w G2 H2 x2 r2=>?_⟩
     (have hh:=Rep.of_int r2;subst hh)
     have xx:=x.trans x2;have e':=(e.grow x).grow x2;have h5':=h5.mono xx.gg;have r':=r.mono x2.gg;refine ⟨a,_,rfl,.inl ⟨qF ks vs,Sum.inl k,xx.hh _ _ h4,rfl,by rw [jcc hl];exact Zg hz,rfl⟩,?_⟩;have key:Z4 (qF ks vs) (Sum.inl k) v=qF (JR ks k) (if k∈ks then jcP ks vs k v else vs++[v]):=by
       unfold Z4 JR;rw [jmt hl];by_cases hm:k∈ks
       . rw [if_pos (YN hm),if_pos hm,if_pos hm,jim hl]
       . rw [if_neg (by simpa using hm),if_neg hm,if_neg hm,jhE hl]
     rw [key];refine q G2 _ σ xx.gg (e'.putD z1 h1 ?_ ?_)
     . unfold JR;by_cases hm:k∈ks
       . rw [if_pos hm,if_pos hm,jfK hl]
       . rw [if_neg hm,if_neg hm];simp [hl]
     . unfold jbG;by_cases hm:k∈ks
       . rw [if_pos hm,if_pos hm];exact jkM r' h5'
       . rw [if_neg hm,if_neg hm];exact h5'.snoc r'
   . exact q.elim
 . exact q.elim
end
def Itd (a:Addr) (o:Obj):It:=⟨fun i H=>∃ks vs,H a=some (.frz o (.dK (qF ks vs)))/\ks.length=vs.length/\i<ks.length,
 fun i H x H'=>H'=H/\∀ks vs,H a=some (.frz o (.dK (qF ks vs)))->ks.length=vs.length->∃k,ks[i]?=some k/\x=.int k,fun i H=>∃ks vs,H a=some (.frz o (.dK (qF ks vs)))/\ks.length=vs.length/\ks.length<=i⟩
def jsh (tl:TE):TI:=fun σ H R=>tl σ H fun x H1=>∃a o ks vs,x=.ref a/\H1 a=some (.frz o (.dK (qF ks vs)))/\ks.length=vs.length/\R (Itd a o) H1
section
variable [Fr]
def jd6 (fe:ef->Option D):ef->Option (List D):=fun ρ=>match fe ρ with
 | some (.dic ks _)=>some (ks.map .int)
 | _=>none
omit [Fr] in
theorem jqz {o o':Obj} {ks ks':List Int} {vs vs':List V} (hl:ks.length=vs.length) (hl':ks'.length=vs'.length) (h:HO.frz o (.dK (qF ks vs))=.frz o' (.dK (qF ks' vs'))):ks=ks':=by injection h with _ h;injection h with h;have e:=congrArg (List.map fun kv:zj×V=>kv.1) h;unfold qF at e;rw [List.map_fst_zip (by simp [hl]),List.map_fst_zip (by simp [hl'])] at e;exact (List.map_inj_right fun x y z=>by injection z).mp e
theorem jsa {te:TE} {fe:ef->Option D} (h:EOk te fe):IOk (jsh te) (jd6 fe):=fun G0 H0 G H σ ρ R ds e q k=>by
 unfold jd6 at q;split at q
 . rename_i ks' ds' z;cases q;refine h _ _ _ _ _ _ _ _ e z fun v G1 H1 x1 r1=>?_;cases r1 with
   | @dic a o _ vs _ h hl r=>refine ⟨a,o,ks',vs,rfl,x1.gh _ _ h,hl,k (Itd a o) G1 H1 x1 fun i G2 H2 s1 s2 s3=>?_⟩;have h2:H2 a=some (.frz o (.dK (qF ks' vs))):=s2 _ _ h;refine ⟨fun d hd=>?_,fun hd=>⟨ks',vs,h2,hl,by simpa using hd⟩⟩;rw [List.getElem?_map] at hd;obtain ⟨i',hi,rfl⟩:=map_some hd;refine ⟨⟨ks',vs,h2,hl,(Yj.mp hi).1⟩,fun x H' ⟨e1,e2⟩=>?_⟩;obtain ⟨k',hk',rfl⟩:=e2 ks' vs h2 hl;rw [hi] at hk';cases hk';subst e1;exact ⟨G2,.refl s3,.int _⟩
 . cases q
end
section
variable {X:Cx}
theorem jqd (hu:X.A.units+1<cLine):OpR X (compareOp .In) (joB false):=fun tu s σ H x y v u Q I rx ry ⟨a,o,e,g,q⟩=>by subst e;obtain rfl:u=Value.ref a:=ry;exact jsQ hu I g rx fun s' I'=>⟨.bl o.isSome,H,I',rfl,by simpa using q⟩
theorem jjy (hu:X.A.units+1<cLine):OpR X (compareOp .NotIn) (joB true):=fun tu s σ H x y v u Q I rx ry ⟨a,o,e,g,q⟩=>by subst e;obtain rfl:u=Value.ref a:=ry;exact jnh hu I g rx fun s' I'=>⟨.bl (!o.isSome),H,I',rfl,by cases o <;> exact q⟩
theorem jgO:CallR X (.type "dict") jkL:=fun tu s σ H xs us Q I r ⟨a,kvs,e,h,q⟩=>by subst e;obtain ⟨u,rfl,ru⟩:=jbz r;cases ru;exact jkE I h fun p s' hp I'=>⟨.ref p,_,I',rfl,q p hp⟩
theorem Inv.fz {tu:List (Addr×Obj)} {σ:St} {H:Hp} {s:Shared} {a:Addr} {kvs:List (zj×V)} (I:Inv X tu σ H s) (h:H a=some (.dK kvs)):∃o,Inv X tu σ (upd H a (.frz o (.dK kvs))) s:=by
 have ok:=(show ObjOk X.prog X.w H s.heap a (.dK kvs) from I.hok a _ h);obtain ⟨o,ho⟩:∃o,s.heap.get? a=some o:=let ⟨_,_,_,_,o,_,_,e,_⟩:=ok;⟨o,e⟩;have ne:∀b (u:HO),H b=some u->u≠.dK kvs->b≠a:=fun b u e hu z=>by subst z;rw [h] at e;exact hu (Option.some.inj e).symm
 refine ⟨o,?_⟩;have:=I.un (t':=s.toks) (h':=s.heap) (H':=upd H a (.frz o (.dK kvs))) ⟨fun b ob e _ _ _=>e,fun b ob e _ _ _=>⟨ob.slots,e⟩,fun b ob _ n _=>by rw [jz fun z=>by subst z;rw [h] at n;cases n];exact n,fun b ob e _=>⟨ob,e⟩,
  fun b xs e=>by rw [jz (ne b _ e (fun z=>by cases z))];exact e,fun b ob u e=>by rw [jz (ne b _ e (fun z=>by cases z))];exact e,fun b ps e=>⟨#[],by rw [jz (ne b _ e (fun z=>by cases z)),Array.append_empty];exact e⟩⟩ ?_
 . exact this
 . intro b u e;by_cases hb:b=a
   . subst hb;rw [jB] at e;cases e;exact ⟨ho,ok⟩
   . rw [jz hb] at e;refine (I.hok b u e).stay (fun c v _ q=>q) (fun c q=>?_) fun c xs q=>?_
     . rw [jz (ne c _ q (fun z=>by cases z))];exact q
     . rw [jz (ne c _ q (fun z=>by cases z))];exact q
theorem jki {e:Expr} {t:TE} {pos:Pos} (he:PE X e t):PS X (.Return (some e) pos) (jlE t):=fun tu s σ H D I h=>
 wpAny_Return_some (qu (he tu s σ H _ I h) fun v s1 z=>by obtain ⟨x,H1,I1,r1,a,kvs,ex,ha,q⟩:=z;obtain ⟨o,I2⟩:=I1.fz ha;exact ⟨x,σ,_,I2,r1,q o⟩)
def epO (o:Obj):Nat:=match o.data with
 | .dict _ ep=>ep
 | _=>0
def szO (o:Obj):Nat:=match o.data with
 | .dict es _=>es.size
 | _=>0
theorem jlt {tu:List (Addr×Obj)} {σ:St} {H:Hp} {s:Shared} {a:Addr} {o:Obj} {kvs:List (zj×V)} (I:Inv X tu σ H s) (h:H a=some (.frz o (.dK kvs))) :
 ∃vs,KV kvs vs/\s.heap.DictAt (jO X.prog X.w) a vs (epO o)/\vs.length=szO o/\(a == sysModules)=false/\kvs.length<=sizeLine:=by
 obtain ⟨ho,z,hd,vs,r,o',es,ep,h1,h2,h3,h4,h5,h6⟩:=(show ObjOk X.prog X.w H s.heap a (.frz o (.dK kvs)) from I.hok a _ h);rw [ho] at h1;cases h1;have e1:epO o=ep:=by unfold epO;rw [h3]
 have e2:szO o=es.size:=by unfold szO;rw [h3]
 refine ⟨vs,r,⟨o,es,ho,h2,by rw [e1];exact h3,h4,h5,h6⟩,?_,hd,z⟩;rw [e2,<- h5.length];simp
theorem jeu {P:Program} {w:World} {i:Int} {u:Value} (h:(jO P w).is (Sum.inl i) u=true):RelV (.int i) u:=by have h':Zx (Sum.inl i) u=true:=h;cases u <;> simp [Zx,Value.isInt] at h' <;> first | (subst h';exact ⟨_,rfl⟩) | skip
theorem jk5 {ks:List Int} {vs:List V} {ws:List (zj×Value)} (hl:ks.length=vs.length) (r:KV (qF ks vs) ws):ws.length=ks.length/\∀(i:Nat) k,ks[i]?=some k->∃u,ws[i]?=some (Sum.inl k,u):=by
 have tL:ws.length=ks.length:=by rw [<-KV.length r,jcc hl]
 refine ⟨tL,fun i k hk=>?_⟩;have hi:i<vs.length:=by rw [<-hl];exact (Yj.mp hk).1
 have hz:(qF ks vs)[i]?=some (Sum.inl k,vs[i]):=by unfold qF;rw [YO];exact ⟨by rw [List.getElem?_map,hk];rfl,Yb hi⟩
 obtain ⟨q,hq,e1,e2⟩:=Paired.get r hz;exact ⟨q.2,by rw [hq];congr 1;exact Prod.ext e1.symm rfl⟩
theorem jjw {P:Program} {w:World} {K:PySem.W.Frag} {tg:Expr} (a it:Addr) (o:Obj):Turn P w K tg (Itd a o) [it] it (fun i h=>h.IsKeyIter it a i (szO o) (epO o)) where
 mem:=by simp
 obj:=fun i h st b hb=>by
  have e:b=it:=by simpa using hb
  subst e;obtain ⟨o,e,c,d⟩:=st;exact ⟨o,e,fun v z=>by rw [d] at z;cases z⟩
 keep:=fun i h h' st k=>st.at fun o e=>k it (by simp) o e
 item:=by intro X hP hw hK hc i tu s σ H E I hf st hg;subst hP hw hK;obtain ⟨ks,vs,hq,hl,hi⟩:=hg;obtain ⟨ws,r,dd,hn,hd,_⟩:=jlt I hq;obtain ⟨tL,hat⟩:=jk5 hl r;obtain ⟨u,hu⟩:=hat i ks[i] (Yb hi);obtain ⟨f0,f1,f2,f3,f4,f5⟩:=hf it (by simp);rw [<-hn] at st;refine wpAny_pyNext_dict_item st dd hu fun key h' hkey st' sb=>?_;rw [hn] at st';have I1:Inv X tu σ H { s with heap:=h' }:=I.turned (t':=s.toks) (fun b o hb e=>(sb.2 b hb).trans e) f0 f1 f3 f4 f5;obtain ⟨o',e,c,d⟩:=id st';refine ⟨key,rfl,jh7 (s:={ s with heap:=h' }) e c d (by decide) ⟨.int ks[i],H,I1,jeu hkey,⟨rfl,fun ks' vs' hq' hl'=>?_⟩,st',fun b hb=>(hf b hb).1⟩⟩;rw [hq] at hq';have:=jqz hl hl' (Option.some.inj hq');subst this;exact ⟨_,Yb hi,rfl⟩
 done:=by intro X hP hw hK hc i tu s σ H E I hf st hg;subst hP hw hK;obtain ⟨ks,vs,hq,hl,hi⟩:=hg;obtain ⟨ws,r,dd,hn,hd,_⟩:=jlt I hq;obtain ⟨tL,hat⟩:=jk5 hl r;obtain ⟨f0,f1,f2,f3,f4,f5⟩:=hf it (by simp);rw [<-hn] at st;exact wpAny_pyNext_dict_end (I.ok.hd hc) st dd (YI (by omega)) fun h' eb=>⟨rfl,I.turned (t':=s.toks) (fun b o hb e=>eb b o hb e) f0 f1 f3 f4 f5⟩
 self:=fun _ _ _ _ _ st h=>wpAny_pyIter_keyiter st h
theorem jmH {tg l:Expr} {tl:TE} (hl:PE X l tl):PI X tg l (jsh tl):=by
 intro tu s σ H R I h;refine qu (hl tu s σ H _ I h) fun v s1 zz=>?_;obtain ⟨x,H1,I1,r1,q1⟩:=zz;obtain ⟨a,o,ks,vs,e,hq,tL,q⟩:=q1;subst e;cases r1;obtain ⟨ws,r,dd,hn,hd,_⟩:=jlt I1 hq;refine wpAny_pyIter_dict hd dd ?_;rw [hn];refine ⟨s1.heap.objs.size,[s1.heap.objs.size],_,_,H1,rfl,I1.kept (t':=s1.toks) fun b o e=>Yg _ e,jjw a _ o,⟨_,Ys _ rfl,rfl,rfl⟩,fun b hb=>?_,q⟩;have e:b=s1.heap.objs.size:=by simpa using hb
 subst e;exact I1.fpOk (Ym _) (I1.hok.fresh (Ym _))
end
end L2
namespace L2
open PySem PySem.Spec PyProof.Rows
section
variable {X:Cx}
theorem jg3 (hc:X.calm=true):CallR X (.type "list") jkW:=fun tu s σ H xs us Q I r ⟨a,ks,vs,e,h,hl,q⟩=>by
 subst e;obtain ⟨u,rfl,ru⟩:=jbz r;cases ru;obtain ⟨z,hd,ws,rel,dd⟩:=Qx I.hok h;obtain ⟨ep,dat⟩:=dd.dictAt;obtain ⟨tL,hat⟩:=jk5 hl rel;refine PySem.W.kdl_call (PySem.W.kdl_dict (knd:=jO X.prog X.w) (kvs:=ws) (ep:=ep) hd) (I.ok.hd hc) dat (by rw [tL,<- jcc hl];exact z) fun h' tk tI c hk hD hacc=>?_;have hv:Vals (ks.map V.int) tI.toList:=Paired.of (by rw [Yd,<- tL,<- hacc.1];simp) fun i x y e1 e2=>by rw [List.getElem?_map] at e1;obtain ⟨k,hk',rfl⟩:=map_some e1;obtain ⟨k',u,h1,h2⟩:=hacc.2 i y (by rw [<-Y8];exact e2);obtain ⟨u',hu'⟩:=hat i k hk';rw [hu'] at h1;cases h1;exact jeu h2
 refine ⟨.ref s.heap.objs.size,_,I.laid (a:=s.heap.objs.size) (o:=.lst (ks.map V.int)) (t':=tk) hk (Ym _) ⟨by rw [Yd,<- jcc hl];exact z,tI.toList,c,hv,by rw [Array.toArray_toList];exact hD⟩,rfl,q _ (I.hok.fresh (Ym _))⟩
end
section
variable {prog:Program} {w:World} {A:Around} {E:Value->Shared->Prop} {s:Shared}
def Ze:Int:=0xFCA86420
theorem jgg {Q:Int->Shared->Prop} (h:Q Ze { s with toks:=s.toks+1 }):wpAny (model prog w) A (pyHash .none) Q E s:=by
 have hT:s.TypeIs .none "NoneType":=rfl;unfold pyHash pyHashByItsType;refine Ya ?_;rw [cRoomFor,if_neg (by decide)];refine Yi ?_;refine Ya (yT hT F.slot_NoneType_hash.lookup ?_);show wpAny _ _ (if (some (Value.builtin "NoneType.__hash__") == some Value.none)=true then _ else _) Q E s;rw [if_neg (by rw [beq_builtin_none];exact Yh)];refine Ya (yT hT F.slot_NoneType_hash.lookup ?_);show wpAny _ _ (callSpecialIfBoundUnlessNone? .none "__hash__" _ >>= _) Q E s;refine Ya (wpAny_callSpecialIfBoundUnlessNone?_slot hT F.slot_NoneType_hash
  (yB F.slot_NoneType_hash hT F.entry_NoneType_hash
   (show wpAny _ _ (do ret (<- mkInt Ze)) _ _ s from wpAny_ret_mkInt ?_) (F.args_NoneType_hash_1 _)))
 show wpAny _ _ (if (decide (-(2:Int) ^ 63<=Ze) && decide (Ze<2 ^ 63))=true then _ else _) Q E _;rw [if_pos (by decide)];exact Yi h
def jeI:Option zj->Value->Bool
 | some k,v=>Zx k v
 | none,.none=>true
 | none,_=>false
theorem qm {k:Option zj} {v:Value} (h:jeI k v=true):(k=none/\v=.none)\/∃k',k=some k'/\Zx k' v=true:=by
 cases k with
 | some k=>exact .inr ⟨k,rfl,h⟩
 | none=>cases v <;> first | exact .inl ⟨rfl,rfl⟩ | cases h
theorem jhR {k:zj} {v:Value} (h:Zx k v=true):RelV (kV k) v/\jfR (kV k)=true:=by
 rcases jY h with ⟨i,t,rfl,rfl⟩ | ⟨x,t,rfl,rfl⟩
 . exact ⟨⟨t,rfl⟩,rfl⟩
 . exact ⟨⟨t,rfl⟩,rfl⟩
def jiz (prog:Program) (w:World):PySem.KeyKind prog w (Option zj) where
 is:=jeI
 hash:=fun k=>match k with | some k=>jrg w k | none=>Ze
 inj:=fun v a b ha hb=>by
   rcases qm ha with ⟨rfl,rfl⟩ | ⟨a',rfl,ha'⟩
   . rcases qm hb with ⟨rfl,_⟩ | ⟨b',rfl,hb'⟩
     . rfl
     . rcases jY hb' with ⟨i,t,_,e⟩ | ⟨x,t,_,e⟩ <;> cases e
   . rcases qm hb with ⟨rfl,rfl⟩ | ⟨b',rfl,hb'⟩
     . rcases jY ha' with ⟨i,t,_,e⟩ | ⟨x,t,_,e⟩ <;> cases e
     . rw [(jO prog w).inj v a' b' ha' hb']
 byValue:=fun k v h=>by
   rcases qm h with ⟨rfl,rfl⟩ | ⟨k',rfl,h'⟩
   . rfl
   . exact (jO prog w).byValue k' v h'
 pyHash:=fun {A E s k v Q} hv h=>by
   rcases qm hv with ⟨rfl,rfl⟩ | ⟨k',rfl,h'⟩
   . exact jgg h
   . exact (jO prog w).pyHash h' h
 eqBool:=fun {A E s a b u v Q} hu hv h=>by
   rcases qm hu with ⟨rfl,rfl⟩ | ⟨a',rfl,ha'⟩
   . rcases qm hv with ⟨rfl,rfl⟩ | ⟨b',rfl,hb'⟩
     . exact jej (y:=.non) (x:=.non) rfl rfl rfl rfl prog w E Q (by simpa [eqV] using h)
     . obtain ⟨r,f⟩:=jhR hb';have e:eqV .non (kV b')=false:=by cases b' <;> rfl
       exact jej (y:=.non) rfl r rfl f prog w E Q (by rw [e];simpa using h)
   . rcases qm hv with ⟨rfl,rfl⟩ | ⟨b',rfl,hb'⟩
     . obtain ⟨r,f⟩:=jhR ha';have e:eqV (kV a') .non=false:=by cases a' <;> rfl
       exact jej (x:=.non) r rfl f rfl prog w E Q (by rw [e];simpa using h)
     . refine (jO prog w).eqBool ha' hb' ?_;have e:decide (some a'=some b')=decide (a'=b'):=by
        by_cases z:a'=b'
        . subst z;simp
        . have:¬some a'=some b':=fun q=>z (Option.some.inj q);rw [YU z,YU this]
       rw [e] at h;exact h
 «strs»:=fun k x t v h=>by
   rcases qm h with ⟨rfl,e⟩ | ⟨k',rfl,h'⟩
   . cases e
   . exact (jO prog w).strs k' x t v h'
end
section
variable {X:Cx} {tu:List (Addr×Obj)} {σ:St} {H:Hp} {s:Shared} {a:Addr} {A:Around} {E:Value->Shared->Prop}
theorem jlj {kvs:List (zj×V)} (I:Inv X tu σ H s) (e:Rd H a (.dK kvs)):∃f,s.heap.MapOf (jiz X.prog X.w) a f/\f none=none:=by
 obtain ⟨z,hd,vs,rel,dd⟩:=Qx I.hok e;obtain ⟨o,es,ep,h1,h2,h3,h4,h5,h6⟩:=dd;refine ⟨findBy jeI es,⟨o,es,ep,h1,h2,h3,fun q hq=>?_,fun k=>rfl⟩,?_⟩
 . obtain ⟨k,k1,k2⟩:=h4 q hq;exact ⟨some k,k1,k2⟩
 . unfold findBy;have:es.find? (fun q=>jeI none q.key)=none:=by
    rw [Array.find?_eq_none];intro q hq hn;obtain ⟨k,k1,k2⟩:=h4 q hq;rcases qm hn with ⟨_,e⟩ | ⟨k',e,_⟩
    . rcases jY k1 with ⟨i,t,_,e'⟩ | ⟨x,t,_,e'⟩ <;> · rw [e] at e';cases e'
    . cases e
   rw [this];rfl
theorem jpF {kvs:List (zj×V)} {Q:Value → Shared → Prop} (I:Inv X tu σ H s) (e:Rd H a (.dK kvs)) (h:∀s',Inv X tu σ H s' → Q .none s'):wpAny ‹"b"› A (call (.builtin "dict.get") [.ref a,.none]) Q E s:=by obtain ⟨z,hd,vs,rel,dd⟩:=Qx I.hok e;obtain ⟨f,hm,hf⟩:=jlj I e;refine K8 yw dd.typeIs yY (KY _ _) (meets_dict_get (jiz X.prog X.w) a (k:=none) rfl hd) ⟨f,hm,?_⟩;rw [hf];exact h _ (I.tok _)
end
def jlg (td ty:TE):TE:=fun σ H Q=>td σ H fun x H1=>∃a,x=.ref a/\IsD H1 a/\ty σ H1 fun y H2=>(∃o,jdr H2 a y o/\Q (o.getD .non) H2)\/(y=.non/\(∃kvs,Rd H2 a (.dK kvs))/\Q .non H2)
theorem jlW {X:Cx} {o e:Expr} {apos cpos:Pos} {td ty:TE} (hu:X.A.units+1<cLine) (ho:PE X o td) (he:PE X e ty) (m:M1 X o "get" apos e cpos):PE X (.Call (.Attribute o "get" apos) [e] [] cpos) (jlg td ty):=by
 intro tu s σ H Q I h;refine wpAny_Call_method m.base m.few m.line KW yw PySem.F.type_dict_get (qu (ho tu s σ H _ I h) fun u s1 z=>?_);obtain ⟨x,H1,I1,rx,a,ex,d,q1⟩:=z;subst ex;obtain rfl:u=Value.ref a:=rx;obtain ⟨t1,t2,_⟩:=jg6 I1 d;refine ⟨t1,t2,?_⟩;rw [m.trees];refine Ku rfl (kq (yA (qu (he tu s1 σ H1 _ I1 q1) fun iv s2 z=>yS ?_)));obtain ⟨y,H2,I2,ry,q2⟩:=z;rcases q2 with ⟨ov,g,q2⟩ | ⟨ey,⟨kvs,g⟩,q2⟩
 . exact jpY hu I2 g ry fun w' s3 I3 rw'=>⟨_,H2,I3,rw',q2⟩
 . subst ey;obtain rfl:iv=Value.none:=ry;exact jpF I2 g fun s3 I3=>⟨.non,H2,I3,rfl,q2⟩
section
variable [Fr]
def jbu:D->D->Option D
 | .dic ks ds,.int i=>some ((qB ks ds i).getD .non)
 | .dic _ _,.non=>some .non
 | _,_=>none
theorem jhz {x y d:D} (q:jbu x y=some d):∃ks ds,x=.dic ks ds/\((∃i,y=.int i/\(qB ks ds i).getD .non=d)\/(y=.non/\D.non=d)):=by
 cases x with
 | dic ks ds=>
   refine ⟨ks,ds,rfl,?_⟩;cases y with
   | int i=>exact .inl ⟨i,rfl,Option.some.inj q⟩
   | non=>exact .inr ⟨rfl,Option.some.inj q⟩
   | _=>exact qf q
 | _=>exact qf q
theorem jme {td ty:TE} {fd fk:ef->Option D} (hd:zx td fd) (hk:zx ty fk):EOk (jlg td ty) (jw jbu fd fk):=fun G0 H0 G H σ ρ Q d e q k=>by
 obtain ⟨x,qa,q⟩:=bind_some q;obtain ⟨y,qb,q⟩:=bind_some q;obtain ⟨ks,ds,rfl,qz⟩:=jhz q;clear q;refine hd G0 H0 G H σ ρ _ _ e qa fun u G1 H1 x1 r1=>?_;cases r1 with
 | @dic a _ vs _ h hl r=>
   refine ⟨a,rfl,.inl ⟨_,h⟩,hk G0 H0 G1 H1 σ ρ _ y (e.grow x1) qb fun v G2 H2 x2 r2=>?_⟩;have h':=h.same x2.hh;rcases qz with ⟨i,rfl,rfl⟩ | ⟨rfl,rfl⟩
   . (have hh:=RepT.of_int r2;subst hh)
     have r':=r.mono x2.gg;obtain ⟨l1,l2⟩:=jaF r' i hl;refine .inl ⟨_,.inl ⟨_,Sum.inl i,h',rfl,rfl⟩,?_⟩;cases z:qB ks ds i with
     | none=>rw [l2 z];exact k _ G2 H2 (x1.trans x2) (by rw [z];exact .non)
     | some d'=>obtain ⟨v,hv,rv⟩:=l1 d' z;rw [hv];exact k _ G2 H2 (x1.trans x2) (by rw [z];exact rv)
   . (have hh:=RepT.of_non r2;subst hh)
     exact .inr ⟨rfl,⟨_,h'⟩,k _ G2 H2 (x1.trans x2) .non⟩
end
end L2
namespace L2
open PySem PySem.Spec PyProof.Rows
section
variable [Fr]
def jn1 (t:TE) (f:ef->Option (List (List D))):Prop:=∀G0 H0 G H σ ρ (Q:VK) dss,EnvOk G0 H0 G H σ ρ->f ρ=some dss->
 (∀a bs G' H',Ext G H G' H'->(∀b∈a::bs,H b=none/\G' b=none)->(a::bs).Nodup->H' a=some (.lst (bs.map V.ref))->Rows G' H' bs dss->Q (.ref a) H')->t σ H Q
def jbI (m:D->ef->Option ef) (ft:ef->Option Bool) (fe:ef->Option (List D)) (ρ:ef):List D->Option (List (List D))
 | []=>some []
 | d::ds=>(m d ρ).bind fun ρ1=>(ft ρ1).bind fun b=>if b then (fe ρ1).bind fun y=>(jbI m ft fe ρ ds).map (y::·) else jbI m ft fe ρ ds
def jlc (fi:ef->Option (List D)) (m:D->ef->Option ef) (ft:ef->Option Bool) (fe:ef->Option (List D)) (n:Nat) (ix:List Nat):ef->Option (List (List D)):=fun ρ=>(fi ρ).bind fun ds=>if zG ds.length then jbI m ft fe (zU n ix ρ) ds else none
theorem Rows.snoc {G H:Hp} {bs:List Addr} {dss:List (List D)} {b:Addr} {us:List V} {ds:List D} (h:Rows G H bs dss) (hb:H b=some (.lst us)) (r:Reps G us ds):Rows G H (bs++[b]) (dss++[ds]):=by
 induction h with
 | nil=>exact .cons hb r .nil
 | cons h q t ih=>exact .cons h q ih
theorem jr6 {wi:TI} {fi:ef->Option (List D)} {g:TG} {m:D->ef->Option ef} {tt:TT} {ft:ef->Option Bool} {te:TE} {fe:ef->Option (List D)} (n:Nat) (ix:List Nat) (hi:jiY wi fi) (hg:GOk g m) (ht:TOk tt ft) (he:EOkO te fe) :
 jn1 (tLC wi g tt te n ix) (jlc fi m ft fe n ix):=fun G0 H0 G H σ ρ Q es e q k=>by
 obtain ⟨ds,q1,q2⟩:=bind_some q;split at q2
 . rename_i hz;refine hi _ _ _ _ _ _ _ _ e q1 fun J G1 H1 x1 it=>?_;refine ⟨fun i n' ys H'=>n'=ds.length-i/\i<=ds.length/\ys.length<=i/\∃G' gs hs bs,Ext G1 H1 G' H'/\ys=bs.map V.ref/\bs.Nodup/\(∀b∈bs,H1 b=none/\G' b=none)/\Rows G' H' bs gs/\jbI m ft fe (zU n ix ρ) (ds.drop i)=some hs/\gs++hs=es,
    ⟨_,rfl,yf _,Ym _,G1,[],es,[],.refl x1.gh,rfl,List.nodup_nil,(fun b hb=>absurd hb Yw),Rows.nil,q2,rfl⟩,?_⟩
   rintro i n' ys H' ⟨rfl,hl,hy,G',gs,hs,bs,x2,ey,nd,own,rows,hlc,hes⟩;have hz':=Zg hz;obtain ⟨go,stop⟩:=it i G' H' x2.gg x2.hh x2.gh;by_cases hlt:i<ds.length
   . have hd:ds[i]?=some ds[i]:=Yb hlt;obtain ⟨g1,g2⟩:=go _ hd;rw [Kg hlt] at hlc;simp only [jbI] at hlc;obtain ⟨ρ1,hm,hlc⟩:=bind_some hlc;obtain ⟨b,hb,hlc⟩:=bind_some hlc;refine .inr ⟨g1,by omega,fun ys' H'=>ys'.length<=i+1/\∃G' gs hs bs,Ext G1 H1 G' H'/\ys'=bs.map V.ref/\bs.Nodup/\(∀b∈bs,H1 b=none/\G' b=none)/\Rows G' H' bs gs/\jbI m ft fe (zU n ix ρ) (ds.drop (i+1))=some hs/\gs++hs=es,fun ys' H' ⟨a0,a⟩=>⟨_,by omega,rfl,by omega,a0,a⟩,fun x H2 y=>?_⟩;obtain ⟨G2,x3,r3⟩:=g2 x H2 y;have e3:EnvOk G0 H0 G2 H2 (Jv n σ ix) (zU n ix ρ):=(jkk n ix e).grow ‹"Y"›;refine hg _ _ _ _ _ _ _ _ _ _ e3 r3 hm fun σ2 e4=>ht _ _ _ _ _ _ _ _ e4 hb fun G4 H4 x4=>?_;have x24:=(x2.trans x3).trans x4;have x34:=x3.trans x4;have keep:∀{G5 H5:Hp},Ext G' H' G5 H5->(∀b∈bs,H1 b=none/\G5 b=none)/\Rows G5 H5 bs gs:=fun {G5 H5} x=>⟨fun b hb=>by
       obtain ⟨us,hu⟩:=rows.there b hb;exact ⟨(own b hb).1,x.gone (own b hb).2 hu⟩,rows.keep x.gg fun b hb=>by
       obtain ⟨us,hu⟩:=rows.there b hb;rw [hu];exact x.hh _ _ hu⟩
     cases b with
     | false=>rw [if_neg Yh] at hlc ⊢;exact ⟨by omega,G4,gs,hs,bs,x24,ey,nd,(keep x34).1,(keep x34).2,hlc,hes⟩
     | true=>
       rw [if_pos rfl] at hlc ⊢;obtain ⟨y',hy',hlc⟩:=bind_some hlc;obtain ⟨hs',hh,hlc⟩:=map_some hlc;subst hlc;refine he _ _ _ _ _ _ _ _ (e4.grow x4) hy' fun a us G5 H5 x5 hn hgn ha r5=>?_;have k5:=keep (x34.trans x5);have na:a∉bs:=fun z=>by obtain ⟨us,hu⟩:=rows.there a z;rw [x34.hh _ _ hu] at hn;cases hn
       refine ⟨by simp;omega,G5,gs++[y'],hs',bs++[a],x24.trans x5,by rw [ey,Y7];rfl,?_,fun c hc=>?_,k5.2.snoc ha r5,hh,by simpa using hes⟩
       . rw [K6];refine ⟨nd,by simp,fun c hc d hd z=>?_⟩;rw [Yn.mp hd] at z;exact na (z ▸ hc)
       . rcases YQ.mp hc with hc | hc
         . exact k5.1 c hc
         . rw [Yn.mp hc];exact ⟨x24.hh.free hn,hgn⟩
   . have hd:ds[i]?=none:=Y0.mpr (by omega);rw [K4 (by omega)] at hlc;cases hlc;rw [yW] at hes;subst hes;refine .inl ⟨stop hd,by omega,fun p hp=>?_⟩;have np:∀b∈bs,b≠p:=fun b hb z=>by obtain ⟨us,hu⟩:=rows.there b hb;rw [z,hp] at hu;cases hu
     refine k p bs G' _ ((x1.trans x2).trans (.new x2.gh hp)) (fun b hb=>?_) (Y9.mpr ⟨fun z=>np p z rfl,nd⟩) (by rw [jB,ey]) (rows.keep (.refl _) fun b hb=>jz (np b hb));rcases Yk.mp hb with rfl | hb
     . exact ⟨(x1.trans x2).hh.free hp,x2.gh.free hp⟩
     . exact ⟨x1.hh.free (own b hb).1,(own b hb).2⟩
 . cases q2
def jcU (i:Nat) (fo:ef->Option (List (List D))):FS:=fun ρ=>match fo ρ with
 | some dss=>.next (ρ.set i (.oo dss))
 | none=>.fail
theorem jm4 {te:TE} {fo:ef->Option (List (List D))} (i:Nat) (h:jn1 te fo):Z1 (jds te (jaa i)) (jcU i fo):=fun G0 H0 G H σ ρ E e q=>by
 unfold jcU at q;split at q
 . rename_i dss z;exact h _ _ _ _ _ _ _ _ e z fun a bs G' H' x hn nd ha r=>q G' H' _ x.gg (e.setOO x hn nd ha r)
 . exact q.elim
def jn4:V->V->Hp->VK->Prop:=fun o i H Q=>∃p xs k v,o=.ref p/\i=.int k/\H p=some (.lst xs)/\0<=k/\xs[k.toNat]?=some v/\Q v H
def asI:D->Option Int
 | .int i=>some i
 | _=>none
def jrp:Slot->Option (List (List D))
 | .oo d=>some d
 | _=>none
theorem jdD {o:Option D} {i:Int} (h:o.bind asI=some i):o=some (.int i):=by obtain ⟨d,h1,h2⟩:=bind_some h;cases d <;> cases h2;exact h1
theorem jqm {o:Option Slot} {d:List (List D)} (h:o.bind jrp=some d):o=some (.oo d):=by obtain ⟨s,h1,h2⟩:=bind_some h;cases s <;> cases h2;exact h1
def jgB (i:Nat) (fk fl fv:ef->Option D) (g:Int->Int->Int) (ρ:ef):Option ef:=
 (ρ[i]?.bind jrp).bind fun dss=>((fk ρ).bind asI).bind fun k=>((fl ρ).bind asI).bind fun l=>((fv ρ).bind asI).bind fun z=>if 0<=k/\0<=l then dss[k.toNat]?.bind fun ds=>(ds[l.toNat]?.bind asI).map fun y=>ρ.set i (.oo (dss.set k.toNat (ds.set l.toNat (.int (g y z))))) else none
def jc0 (i:Nat) (fk fl fv:ef->Option D) (g:Int->Int->Int):FS:=fun ρ=>match jgB i fk fl fv g ρ with
 | some ρ'=>.next ρ'
 | none=>.fail
theorem jo0 {tk tl tv:TE} {fk fl fv:ef->Option D} {g:Int->Int->Int} (i:Nat) (hk:zx tk fk) (hl:EOk tl fl) (hv:EOk tv fv):Z1 (jnO (tOp (rIx Fr.K) (je1 i) tk) tl tv jn4 (ipI g) jlV) (jc0 i fk fl fv g):=fun G0 H0 G H σ ρ E e q=>by
 unfold jc0 at q;cases hq:jgB i fk fl fv g ρ with
 | none=>rw [hq] at q;exact q.elim
 | some ρ'=>
 rw [hq] at q;unfold jgB at hq;obtain ⟨dss,z1,hq⟩:=bind_some hq;obtain ⟨k,z2,hq⟩:=bind_some hq;obtain ⟨l,z3,hq⟩:=bind_some hq;obtain ⟨z,z4,hq⟩:=bind_some hq;by_cases hkl:0<=k/\0<=l
 case neg=>rw [if_neg hkl] at hq;cases hq
 rw [if_pos hkl] at hq;obtain ⟨ds,hds,hq⟩:=bind_some hq;obtain ⟨y,hy,hq⟩:=map_some hq;subst hq;replace z1:=jqm z1;replace z2:=jdD z2;replace z3:=jdD z3;replace z4:=jdD z4;replace hy:=jdD hy;obtain ⟨a,bs,h1,h2,h3,h4,h5⟩:=e.oo z1;obtain ⟨b,us,b1,b2,b3⟩:=h5.get hds;have hkb:k.toNat<bs.length:=(Yj.mp b1).1;refine ⟨_,h1,hk _ _ _ _ _ _ _ _ e z2 fun kv G1 H1 x1 r1=>?_⟩
 (have hh:=RepT.of_int r1;subst hh)
 refine .inl ⟨a,bs.map V.ref,k,.ref b,rfl,rfl,.inl (.inl (x1.hh _ _ h2)),?_,hl _ _ _ _ _ _ _ _ (e.grow x1) z3 fun lv G2 H2 x2 r2=>?_⟩
 . unfold atI ixN;rw [if_pos hkl.1,Yd,if_pos (by omega)];show (bs.map V.ref)[k.toNat]?=_;rw [List.getElem?_map,b1];rfl
 (have hh:=Rep.of_int r2;subst hh)
 obtain ⟨v,hv1,hv2⟩:=b3.get hy
 (have hh:=Rep.of_int hv2;subst hh)
 have x12:=x1.trans x2;refine ⟨b,us,l,.int y,rfl,rfl,x12.hh _ _ b2,hkl.2,hv1,hv _ _ _ _ _ _ _ _ (e.grow x12) z4 fun zv G3 H3 x3 r3=>?_⟩
 (have hh:=Rep.of_int r3;subst hh)
 have x13:=x12.trans x3;refine ⟨y,z,rfl,rfl,b,us,l,l.toNat,rfl,rfl,x13.hh _ _ b2,?_,?_⟩
 . have:l.toNat<us.length:=(Yj.mp hv1).1;unfold ixN;rw [if_pos hkl.2,if_pos (by omega)]
 . exact q G3 _ σ x13.gg ((e.grow x13).putOO z1 h1 (x13.hh _ _ h2) b1 ((b3.mono x13.gg).set (.int _) _))
def jpk:Slot->Option D
 | .sh d=>some d
 | _=>none
theorem jpi {o:Option Slot} {d:D} (h:o.bind jpk=some d):o=some (.sh d):=by obtain ⟨s,h1,h2⟩:=bind_some h;cases s <;> cases h2;exact h1
def jmP (i:Nat) (fv:ef->Option D) (g:Int->Int->Int):FS:=fun ρ=>match ((ρ[i]?.bind jpk).bind asI).bind fun y=>((fv ρ).bind asI).map fun z=>(y,z) with
 | some p=>.next (ρ.set i (.sh (.int (g p.1 p.2))))
 | none=>.fail
theorem jrV {tv:TE} {fv:ef->Option D} {g:Int->Int->Int} (i:Nat) (hv:EOk tv fv):Z1 (jr7 i tv (ipI g)) (jmP i fv g):=fun G0 H0 G H σ ρ E e q=>by
 unfold jmP at q;cases hq:((ρ[i]?.bind jpk).bind asI).bind fun y=>((fv ρ).bind asI).map fun z=>(y,z) with
 | none=>rw [hq] at q;exact q.elim
 | some p=>
 rw [hq] at q;obtain ⟨y,z1,hq⟩:=bind_some hq;obtain ⟨z,z2,hq⟩:=map_some hq;subst hq;obtain ⟨v,h1,r⟩:=e.sh (jpi (jdD z1))
 (have hh:=Rep.of_int r;subst hh)
 refine ⟨_,h1,hv _ _ _ _ _ _ _ _ e (jdD z2) fun zv G1 H1 x1 r1=>?_⟩
 (have hh:=Rep.of_int r1;subst hh)
 exact ⟨y,z,rfl,rfl,q G1 H1 _ x1.gg ((e.grow x1).set (.int _))⟩
theorem jp9 {t:TS}:Z1 t fun _=>.fail:=fun G0 H0 G H σ ρ E e q=>q.elim
end
section
variable {X:Cx}
theorem jlz:jq8 X jn4:=fun tu s σ H o i ov iv Q I ro ri zz=>by obtain ⟨p,xs,k,v,e1,e2,hp,h0,hx,q⟩:=zz;subst e1;subst e2;cases ro;obtain ⟨t,rfl⟩:=ri;obtain ⟨its,r,pl,hz⟩:=I.list (.inl (.inl hp));obtain ⟨w,ew,rw'⟩:=r.get hx;have hl:=r.length;have hn:=jae;have hlt:k.toNat<xs.length:=(Yj.mp hx).1;exact wpAny_getItem_list pl.isList h0 (by omega) (by simpa using ew) ⟨v,H,I,rw',q⟩
end
end L2
namespace L2
open PySem PySem.Spec PyProof.Rows
section
variable {prog:Program} {w:World} {A:Around} {E:Value->Shared->Prop} {s:Shared}
theorem jgS:typeLookup (.type "list_reverseiterator") "__len__"=pure none:=by rw [KU,Kd];kernel_rfl
theorem jlX:typeLookup (.type "list_reverseiterator") "__length_hint__"=pure (some (.builtin "list_reverseiterator.__length_hint__")):=by rw [KU,Kd];kernel_rfl
theorem jln {a:Addr} {Q:Bool → Shared → Prop} (hT:s.TypeIs (.ref a) "list_reverseiterator") (h:Q false s):wpAny (model prog w) A (Builtin.List.listLengthHint (.ref a)) Q E s:=by
 unfold Builtin.List.listLengthHint;refine Ya (yT hT jgS ?_);show wpAny _ _ (specialOf (Value.ref a) (Str.ofString "__length_hint__") >>= _) _ _ s;refine Ya (yT hT jlX ?_);generalize hid:("list_reverseiterator.__length_hint__":String)=id0
 wp_delta
 rw [show splitId id0=some ("list_reverseiterator","__length_hint__") from by subst hid;decide +kernel];subst hid;refine Ya (kc (T := "list_reverseiterator") (b:=true) hT (by rw [isSubtype_type];kernel_rfl) ?_);refine Kk (fun hab=>absurd hab (by decide)) (fun _=>?_);refine Kk (fun _=>?_) (fun hab=>absurd ‹"al"› hab);refine Kk (fun hab=>absurd hab ‹"al"›) (fun _=>?_);exact Yi h
theorem jk8 {it l:Addr} {items:Array Value} {Q:Value->Shared->Prop} (hh:A.handled=none) (hne:l≠it) (hit:s.heap.IsRevIter it l ((items.size:Int)-1)) (hl:s.heap.IsList l items) (hn:items.size<=sizeLine)
 (hQ:∀h' tk tI c,(∀b o,b≠it → s.heap.get? b=some o → h'.get? b=some o) → h'.get? s.heap.objs.size=some { cls:=.type "list",dict:=none,data:=.seq tI c,slots:=#[] } → ItemsOf (fun i v=>items[items.size-1-i]?=some v) tI items.size → Q (.ref s.heap.objs.size) { s with heap:=h',toks:=tk }) :
 wpAny (model prog w) A (call (.type "list") [.ref it]) Q E s:=by
 refine callType_codes (Q₁:=fun obj s₁=>obj=.ref s.heap.objs.size ∧ s₁={ s with heap:=s.heap.push { cls:=.type "list",data:=.seq #[] } }) PySem.F.called_list (PySem.F.typeCall_list_1 _) PySem.F.entry_list_init (code_list_new _ ⟨rfl,rfl⟩) fun obj s₁ e₁=>?_;obtain ⟨rfl,rfl⟩:=e₁;generalize hSd:s.heap.objs.size=S at *
 have hS:(s.heap.push { cls:=.type "list",data:=.seq #[] }).get? S=some { cls:=.type "list",data:=.seq #[] }:=by rw [← hSd];exact Ys _ rfl
 refine ⟨⟨_,hS,rfl⟩,PySem.F.args_list_init_2 _ _,?_⟩;generalize hG:s.heap.push { cls:=.type "list",data:=.seq #[] }=G at *
 have up:∀b o,s.heap.get? b=some o->G.get? b=some o:=fun b o e=>by rw [<-hG];exact Yg _ e
 have nS:∀b o,s.heap.get? b=some o->b≠S:=fun b o e=>by rw [<-hSd];exact Yp (Yr e)
 obtain ⟨oi,ei,_⟩:=id hit;obtain ⟨ol,el,_⟩:=id hl;have itS:=nS _ _ ei;have lS:=nS _ _ el;show wpAny _ _ (do let old <- Builtin.List.listItems (.ref S);Builtin.List.listUpdate (.ref S) (fun _=>#[]);letGo old.toList.reverse;Builtin.List.listExtendWith (.ref S) (.ref it) .none) _ _ _;refine Ya ?_;unfold Builtin.List.listItems;refine Ya (yM hS rfl (Yi ?_));show wpAny _ _ (updateSeq S (fun _=>#[]) >>= fun _=>letGo (#[]:Array Value).toList.reverse >>= fun _=>Builtin.List.listExtendWith (.ref S) (.ref it) .none) _ _ _;refine Ya (yg hS rfl ?_);have hS2:=YT (Obj.mapSeq (fun _=>(#[]:Array Value))) hS rfl;refine Ya (kz ?_);have sb1:Heap.SameBut S G (G.update S ‹"az"›):=Heap.SameBut.update ..
 generalize G.update S ‹"az"›=G1 at hS2 sb1 ⊢;have up1:∀b o,s.heap.get? b=some o->G1.get? b=some o:=fun b o e=>sb1.extBut b o (nS b o e) (up b o e);have W:=Walks.listRev (prog:=prog) (w:=w) (A:=A.in1.in1) hh it l hne items;have hSf:S∉[it,l]:=by simp only [Yk,Yw,KD,not_or];exact ⟨Ne.symm itS,Ne.symm lS⟩
 have key:∀(R:Result → Shared → Prop),(∀h' tk tI c,(∀b o,b≠it → s.heap.get? b=some o → h'.get? b=some o) → h'.get? S=some { cls:=.type "list",dict:=none,data:=.seq tI c,slots:=#[] } → ItemsOf (fun i v=>items[items.size-1-i]?=some v) tI items.size → R (.ok (.ret .none)) { s with heap:=h',toks:=tk }) →
  ∀(h:Heap) (c₁ tk:Nat),(∀b o,s.heap.get? b=some o → h.get? b=some o) → h.get? S=some { cls:=.type "list",data:=.seq #[] c₁ } →
  codeAny (model prog w) A.in1 (.builtin "list.extend.loop" ⟨[.ref S,.ref it,.none],[]⟩) R { s with heap:=h,toks:=tk }:=fun R hR h c₁ tk hk hS₁=>by
  refine codeAny_extend_loopS W.toS hn S hSf .none items.size 0 { s with heap:=h,toks:=tk } #[] c₁ rfl (yf _) ⟨yf _,?_,hl.at fun o e=>hk _ o e⟩ hS₁ (ItemsOf.nil _) fun s' acc' c' hm hS' hacc=>?_
  . have:=hit.at (h':=h) fun o e=>hk _ o e;simpa using this
  . rw [Moved.eq_with hm];refine hR s'.heap s'.toks acc' c' (fun b o hb e=>hm.heap b o (fun hmem=>?_) (hk b o e)) hS' hacc;rcases Yk.mp hmem with e' | hmem
    . exact nS _ _ e e'
    . exact hb (Yn.mp hmem)
 unfold Builtin.List.listExtendWith;have hit1:G1.IsRevIter it l ((items.size:Int)-1):=hit.at fun o e=>up1 _ o e;refine Ya (wpAny_typeOf (T := "list_reverseiterator") (Heap.IsRevIter.typeIs (s:={ s with heap:=G1 }) hit1) ?_);have hsr:Builtin.List.listSameRef (.ref S) (.ref it)=false:=by simp [Builtin.List.listSameRef,Ne.symm itS]
 have t1:(Value.type "list_reverseiterator" == Value.type "list")=false:=by decide
 have t2:(Value.type "list_reverseiterator" == Value.type "tuple")=false:=by decide
 simp only [hsr,t1,t2,Bool.or_false,Y2,yL];refine Ya (wpAny_pyIter_revIter hit1 ?_);refine Ya (Y4 (jln (Heap.IsRevIter.typeIs (s:={ s with heap:=G1 }) hit1) ?_));refine Kk (fun _=>?_) (fun _=>Yi ⟨yt Ke _,key _ (fun h' tk tI c h1 h2 h3=>⟨rfl,hQ h' tk tI c h1 h2 h3⟩) _ _ _ up1 hS2⟩);refine Ya (ky ?_);refine Ya ?_;show wpAny _ _ (updateSeq S (·.push .none) >>= fun _=>updateSeq S (·.pop)) _ _ _;refine Ya (yg hS2 rfl ?_);have hS3:=YT (Obj.mapSeq (·.push Value.none)) hS2 rfl;have sb2:Heap.SameBut S G1 (G1.update S (Obj.mapSeq (·.push Value.none))):=Heap.SameBut.update ..
 generalize G1.update S (Obj.mapSeq (·.push Value.none))=G2 at hS3 sb2 ⊢;refine yg (hz:=by seq_fits) hS3 rfl ?_;have hS4:=YT (Obj.mapSeq (·.pop)) hS3 rfl;have sb3:Heap.SameBut S G2 (G2.update S (Obj.mapSeq (·.pop))):=Heap.SameBut.update ..
 generalize G2.update S (Obj.mapSeq (·.pop))=G3 at hS4 sb3 ⊢;refine Yi ⟨yt Ke _,key _ (fun h' tk tI c h1 h2 h3=>⟨rfl,hQ h' tk tI c h1 h2 h3⟩) _ _ _ (fun b o e=>sb3.extBut b o (nS b o e) (sb2.extBut b o (nS b o e) (up1 b o e))) hS4⟩
end
def jc9 (K:PySem.W.Frag) (ta:TA):TE:=fun σ H Q=>ta σ H fun vs H1=>∃p xs,vs=[.ref p]/\Jf K H1 p xs/\∀l,H1 l=none->Q (.ref l) (upd H1 l (.lst xs.reverse))
section
variable {X:Cx}
theorem jhx {a:Expr} {ta:TA} {p1 p2 pos1 pos2:Pos} (hc:X.calm=true) (hg1:Gl X "list") (hm1:X.mg "list"=none) (hg2:Gl X "reversed") (hm2:X.mg "reversed"=none) (ha:PA X [a] ta)
 (hs:starEach [a] X.env=[(false,eval a X.env)]:=by rfl)
 (hs3:starEach [.Call (.Name "reversed" p2) [a] [] pos2] X.env=[(false,eval (.Call (.Name "reversed" p2) [a] [] pos2) X.env)]:=by rfl) :
 PE X (.Call (.Name "list" p1) [.Call (.Name "reversed" p2) [a] [] pos2] [] pos1) (jc9 X.K ta):=by
 intro tu s σ H Q I h;refine Call_ (Js I hg1 hm1 boot_list (Y3 ?_ hs3 rfl));rw [hs3];show wpAny _ _ (spliced ((false,eval (.Call (.Name "reversed" p2) [a] [] pos2) X.env)::backTo pos1 [])) _ _ s;refine yA (Call_ (Js I hg2 hm2 boot_reversed (Y3 (qu (ha pos2 tu s σ H _ I h) fun us s1 zz=>?_) hs rfl)));obtain ⟨vs,H1,I1,r1,q1⟩:=zz;obtain ⟨pa,xs,e,hp,q⟩:=q1;subst e;obtain ⟨u,rfl,ru⟩:=Vals.one r1;cases ru;obtain ⟨its,rx,pl,hz⟩:=I1.list hp;have lx:=rx.length;have lta:@LT.lt Nat instLTNat pa s1.heap.objs.size:=by obtain ⟨_,e,_⟩:=pl.isList;exact ltN e
 refine call_reversed_list pl.isList ?_;refine yS ?_;have up:∀b o,s1.heap.get? b=some o->(s1.heap.push (revObj pa ((its.toArray.size:Int)-1))).get? b=some o:=fun b o e=>Yg _ e;have hsz:(s1.heap.push (revObj pa ((its.toArray.size:Int)-1))).objs.size=s1.heap.objs.size+1:=yi ..
 refine jk8 (items:=its.toArray) (I.ok.hd hc) (l:=pa) (Yp lta) ⟨_,Ys _ rfl,rfl,rfl⟩ (pl.isList.at fun o e=>up _ o e) (by simp;omega) fun h' tk tI c hk hD hacc=>?_;have hv:Vals xs.reverse tI.toList:=Paired.of (by rw [kG,lx];have:=hacc.1;simpa using this.symm) fun i x y e1 e2=>by
  have e3:=hacc.2 i y (by rw [<-Y8];exact e2);have hi:i<xs.length:=by simpa using (Yj.mp e1).1
  rw [List.getElem?_reverse hi] at e1;have e4:its[xs.length-1-i]?=some y:=by rw [lx];simpa using e3
  obtain ⟨y',h1,h2⟩:=Paired.get rx e1;rw [e4] at h1;cases h1;exact h2
 have hD':h'.get? (s1.heap.objs.size+1)=some { cls:=.type "list",dict:=none,data:=.seq tI c,slots:=#[] }:=by have:=hD;rw [hsz] at this;exact this
 have I2:=I1.laid (a:=s1.heap.objs.size+1) (o:=.lst xs.reverse) (t':=tk) (h':=h') (fun b o e=>hk b o (Yp (Yr e)) (up b o e)) (kE _) ⟨by rw [kG];exact hz,tI.toList,c,hv,by rw [Array.toArray_toList];exact hD'⟩;refine ⟨.ref (s1.heap.objs.size+1),_,I2,?_,q _ (I1.hok.fresh (kE _))⟩;show Value.ref _=Value.ref _;rw [hsz]
end
section
variable [Fr]
def jky:List D->Option (List D)
 | [.lst l]=>some l.reverse
 | _=>none
theorem jsc {As:TA} {fs:ef->Option (List D)} (h:jbs As fs):EOkO (jc9 Fr.K As) (jk jky fs):=fun G0 H0 G H σ ρ Q es e q k=>by
 obtain ⟨ds,q1,q2⟩:=bind_some q;refine h _ _ _ _ _ _ _ _ e q1 fun vs G1 H1 x1 r1=>?_;unfold jky at q2;split at q2
 . cases q2;cases r1 with
   | cons r t=>cases t;obtain ⟨_,_,rfl,h,r⟩:=r.of_lst;exact ⟨_,_,rfl,.inl h,fun l hl=>k l _ G1 _ (x1.trans (.new x1.gh hl)) (x1.hh.free hl) (x1.gh.free hl) jB r.reverse⟩
 . cases q2
end
def jnP:R2:=fun x y H Q=>∃l xs n,x=.ref l/\y=.int n/\Rd H l (.lst xs)/\0<=n/\xs.length*n.toNat<=sizeLine/\n<2 ^ 63/\∀p,H p=none->Q (.ref p) (upd H p (.lst (List.replicate n.toNat xs).flatten))
section
variable {X:Cx}
theorem jgs {xs:List V} {its:List Value} (r:Vals xs its):∀n,Vals (List.replicate n xs).flatten (List.replicate n its).flatten
 | 0=>.nil
 | n+1=>by rw [yu,yu,KA,KA];exact r.append (jgs r n)
theorem jf0 {α} (its:Array α):∀(n:Nat) (tI:Array α),List.foldl (fun x1 x2=>x1++x2) tI (List.replicate n its)=(tI.toList++(List.replicate n its.toList).flatten).toArray
 | 0,tI=>by simp
 | n+1,tI=>by rw [yu,List.foldl_cons,jf0 its n];simp [yu]
theorem jmd:OpR X (binaryOp .Mult) jnP:=by
 intro tu s σ H x y v u Q I rx ry h;obtain ⟨l,xs,n,rfl,rfl,hH,h0,hz,h63,q⟩:=h;cases rx;obtain ⟨t,rfl⟩:=ry;obtain ⟨z,its,k,r,e⟩:=hH.ok I.hok;have hl:=r.length;have e24:sizeLine=2 ^ 24:=by rw [PySem.sizeLine_eq]
 have e9:its.toArray.size*n.toNat=xs.length*n.toNat:=by rw [YA,hl]
 refine wpAny_binaryOp_repeat_ref (T := "list") (U:="int") (by decide) ⟨_,e,rfl⟩ (fun s'=>typeIs_int s' n t) noFill_list_mul PySem.F.fills_int_mul PySem.F.slot_int_rmul repeat_list PySem.F.slot_int_index.lookup
  (call_meets PySem.F.slot_int_rmul (typeIs_int s n t) PySem.F.entry_int_rmul (PySem.F.args_int_rmul_2 _ _) (int___rmul___int_list n t l its.toArray k)
   ⟨e,rfl,⟨_,e,rfl⟩,call_meets PySem.F.slot_list_mul ⟨_,e,rfl⟩ PySem.F.entry_list_mul (PySem.F.args_list_mul_2 _ _)
     (AutoListH.list___mul___list_int_3 l its.toArray k n t (by simp [Builtin.List.listFitsIndex];omega) (by omega) (by simp [Builtin.List.listTooLong];rw [<-hl];omega))
     ⟨e,?_⟩⟩)
 have ea:List.foldl (fun x1 x2=>x1++x2) #[] (List.replicate (if its.toArray.isEmpty=true then 0 else n.toNat) its.toArray)=((List.replicate n.toNat its).flatten).toArray:=by
  rw [jf0];cases its with
  | nil=>simp
  | cons a as=>simp
 rw [ea];exact ⟨.ref _,_,I.lnew (t':=s.toks) (jgs r _) (by rw [List.length_flatten];simp;rw [Nat.mul_comm];exact hz),rfl,q _ I.fresh⟩
end
section
variable [Fr]
def jmq:D->D->Option (List D)
 | .lst l,.int n=>if 0<=n/\l.length*n.toNat<=sizeLine/\n<2 ^ 63 then some (List.replicate n.toNat l).flatten else none
 | _,_=>none
theorem jfV {G:Hp} {vs:List V} {ds:List D} (r:Reps G vs ds):∀n,Reps G (List.replicate n vs).flatten (List.replicate n ds).flatten
 | 0=>.nil
 | n+1=>by rw [yu,yu,KA,KA];exact r.append (jfV r n)
theorem jqO:jqc jnP jmq:=fun G H x y dx dy d Q s rx ry q k=>by
 unfold jmq at q;split at q
 . split at q
   . rename_i hz;cases q;obtain ⟨_,_,rfl,h,r⟩:=rx.of_lst;cases ry with
     | int n=>exact ⟨_,_,_,rfl,rfl,h,hz.1,by rw [r.length];exact hz.2.1,hz.2.2,fun p hp=>k p _ G _ (.new s hp) hp (s.free hp) jB (jfV r _)⟩
   . cases q
 . cases q
end
section
variable {prog:Program} {w:World} {A:Around} {E:Value->Shared->Prop} {s:Shared}
end
section
variable {X:Cx}
end
section
variable [Fr]
end
end L2
namespace L2
open PySem PySem.Spec PyProof.Rows
structure WD (M:Fm) (e:Expr) (f:ef->Option (List Int×List D)):Prop where
 h:∃t,(∀i,PE (M.X i) e t)/\@EOkD M.fr t f
section
variable {M:Fm} {a b c e o:Expr} {es:List Expr} {fa fb fc fe:ef->Option D} {fo:ef->Option (List D)} {fs:ef->Option (List D)} {fd:ef->Option (List Int×List D)} {ga gb:ef->Option Bool} {pos p apos cpos:Pos} {x:Str}
theorem jra (ha:WT M a fa) (hb:WT M b fb):WO M (.BinOp a .Mult b pos) (jw jmq fa fb):=let ⟨_,h1,h2⟩:=ha.h;let ⟨_,k1,k2⟩:=hb.h;⟨_,fun j=>jkP jmd (h1 j) (k1 j),@jn9 M.fr _ _ _ _ _ _ (@jqO M.fr) h2 k2⟩
theorem jqN {p1 p2 pos1 pos2:Pos} (hg1:∀j,Gl (M.X j) "list") (hm1:∀j,(M.X j).mg "list"=none) (hg2:∀j,Gl (M.X j) "reversed") (hm2:∀j,(M.X j).mg "reversed"=none) (ha:WAT M [a] fs) (h:qd a=false:=by rfl) :
 WO M (.Call (.Name "list" p1) [.Call (.Name "reversed" p2) [a] [] pos2] [] pos1) (jk jky fs):=
 let ⟨_,h1,h2⟩:=ha.h
 ⟨jc9 M.K _,fun j=>by have:=jhx (p1:=p1) (p2:=p2) (pos1:=pos1) (pos2:=pos2) (M.calm j) (hg1 j) (hm1 j) (hg2 j) (hm2 j) (h1 j) (by rw [j5 h];rfl) (by rw [j5 rfl];rfl);rw [M.hK j] at this;exact this,@jsc M.fr _ _ h2⟩
theorem jbe {n:Nat} (h:n+64<cLine):n+1<cLine:=by omega
theorem jnZ (hu:∀j,(M.X j).A.units+64<cLine):WCmp M .In (jas false):=⟨_,fun j=>jqd (jbe (hu j)),@jof M.fr false⟩
theorem jkB (hu:∀j,(M.X j).A.units+64<cLine):WCmp M .NotIn (jas true):=⟨_,fun j=>jjy (jbe (hu j)),@jof M.fr true⟩
theorem jqC (hu:∀j,(M.X j).A.units+64<cLine) (ha:WT M a fa) (hb:WT M b fb) (hs:autoParam (jpw b) QA.a12._auto_1):WE M (.Subscript a b pos) (jw jhW fa fb):=let ⟨_,h1,h2⟩:=ha.h;let ⟨_,k1,k2⟩:=hb.h;⟨_,fun j=>jmh (jbe (hu j)) (h1 j) (k1 j) hs,@jqa M.fr _ _ _ _ h2 k2⟩
theorem jna (hu:∀j,(M.X j).A.units+64<cLine) (ha:WT M o fa) (hb:WT M e fb) (h':qd e=false:=by rfl)
 (hbase:∀j,attributeBase o "get" (M.X j).env (eval o (M.X j).env)=eval o (M.X j).env:=by intro _;rfl) (hline:‹"4"›=true:=by rfl):WE M (.Call (.Attribute o "get" apos) [e] [] cpos) (jw jbu fa fb):=
 let ⟨_,h1,h2⟩:=ha.h;let ⟨_,k1,k2⟩:=hb.h;⟨_,fun j=>jlW (jbe (hu j)) (h1 j) (k1 j) ⟨hbase j,by rw [j5 h'];rfl,hline,by rw [j5 h'];rfl⟩,@jme M.fr _ _ _ _ h2 k2⟩
theorem jmi:WBO M (.type "list") jc7:=⟨_,fun j=>jg3 (M.calm j),@jmW M.fr⟩
theorem jla:WD M (.Dict [] [] pos) jh9:=⟨_,fun _=>jk0,@jph M.fr⟩
theorem js4 (ha:WE M a fa) (hb:WE M b fb):WD M (.Dict [some a] [b] pos) (jlO fa fb):=let ⟨_,h1,h2⟩:=ha.h;let ⟨_,k1,k2⟩:=hb.h;⟨_,fun j=>jnr (jlU (h1 j) (k1 j) jmQ) rfl rfl (by simp) (by show 1<=15;decide),@joQ M.fr _ _ _ _ h2 k2⟩
theorem jnb (hg:∀j,Gl (M.X j) "dict") (hm:∀j,(M.X j).mg "dict"=none) (ha:WAT M [e] fs) (h:qd e=false:=by rfl):WD M (.Call (.Name "dict" p) [e] [] pos) (jk jeV fs):=let ⟨_,h1,h2⟩:=ha.h;⟨_,fun j=>jbd jgO (hg j) (hm j) boot_dict (h1 j) (by decide) (by decide) (j5 h) (JQ rfl),@jl8 M.fr _ _ h2⟩
theorem jpc {tg:Expr} (h:WE M e fe):WI M tg e (jd6 fe):=let ⟨_,h1,h2⟩:=h.h;⟨_,fun j=>jmH (h1 j),@jsa M.fr _ _ h2⟩
variable {m:D->ef->Option ef} {tg iter:Expr} {st:Stmt} {sts body:List Stmt} {F F' B:FS}
theorem jeX {i:Nat} {pos':Pos} (h:WD M e fd) (hN:∀j,(M.X j).N.Nodup) (hi:M.N[i]?=some x) (hx:∀j,Loc (M.X j).env.scope x) (hf:∀j,(M.X j).fn x=true\/(M.X j).env.scope.names.lookup x=some .local) (hs:∀j,swapsWith e (some (.Name x pos')) pos.line (M.X j).env=pure false:=by intro _;rfl) :
 WS M (.Assign [.Name x pos'] e pos) (jdz i fd):=let ⟨_,h1,h2⟩:=h.h;⟨_,fun j=>jhv (hN j) (by rw [M.hN j];exact hi) (hx j) (h1 j) (hs j) (hf j),@joP M.fr _ _ i h2⟩
theorem jeU {i:Nat} {pos':Pos} {y:Str} {py:Pos} (hu:∀j,(M.X j).A.units+64<cLine) (hN:M.N[i]?=some y) (hv:∀j,Vis (M.X j).env.scope y) (hk:WE M b fb) (h:WE M e fe) (hd:(y == ("__debug__":Str))=false:=by decide) (hcd:(y == ("__classdict__":Str))=false:=by decide)
 (hs:∀j,swapsWith e (some (.Subscript (.Name y py) b pos')) pos.line (M.X j).env=pure false:=by intro _;rfl):WS M (.Assign [.Subscript (.Name y py) b pos'] e pos) (Q8 i fb fe):=
 let ⟨_,a1,a2⟩:=h.h;let ⟨_,b1,b2⟩:=hk.h;⟨_,fun j=>jm5 (jbe (hu j)) ‹"R"› (b1 j) (a1 j) (hs j),@joV M.fr _ _ _ _ i b2 a2⟩
theorem jiq (i:Nat) (hN:M.N[i]?=some x:=by rfl) (hv:autoParam (∀j,Vis (M.X j).env.scope x) QA.a7._auto_1) (hd:‹"l"›=false:=by decide)
 (hcd:(x == ("__classdict__":Str))=false:=by decide):WS M (.Return (some (.Name x p)) pos) (jfJ i):=⟨_,fun j=>jki ‹"R"›,@jpt M.fr i⟩
theorem jlA:WS M st (fun _=>.fail):=⟨fun _ _ _=>False,fun _ _ _ _ _ _ _ h=>h.elim,@jp9 M.fr _⟩
variable {ifs:List Expr} {scope sc:Scope} {Lc Fn:List Str} {ix:List Nat}
theorem jmu {i:Nat} {y:Str} {py spos:Pos} (hNd:∀j,(M.X j).N.Nodup) (hy:M.N[i]?=some y) (hyl:∀j,(M.X j).env.scope.names.lookup y=some .local) (hsc:∀j,(M.X j).env.scope=sc) (ok:LcOk sc M.N scope Fn ix) (hi:WIT M tg iter fo) (hg:WL ‹"8"› Lc.length tg m) (ht:WTs ‹"8"› ifs ga) (he:WO ‹"8"› e fs)
 (hsw:∀j,swapsWith ‹"A"› (some (.Name y py)) spos.line (M.X j).env=pure true:=by intro _;rfl) (hs:∀j x,foldedSetIterable iter (M.X j).env x=pure x:=by intro _ _;rfl):WS M (.Assign [.Name y py] ‹"A"› spos) (jcU i (jlc fo m ga fs Lc.length ix)):=
 let ⟨_,i1,i2⟩:=hi.h;let ⟨_,g1,g2,g3⟩:=hg.h;let ⟨_,t1,t2⟩:=ht.h;let ⟨_,e1,e2⟩:=he.h
 ⟨_,fun j=>jcq (hNd j) (by rw [M.hN j];exact hy) (hyl j) (hsc j) (M.hN j) (M.calm j) ok (i1 j) (fun C s H fp=>g1 (j,C,s,H,fp)) g3 (fun C s H fp=>t1 (j,C,s,H,fp)) (fun C s H fp=>e1 (j,C,s,H,fp)) (hsw j) (hs j),@jm4 M.fr _ _ i (@jr6 M.fr _ _ _ _ _ _ _ _ _ _ i2 g2 t2 e2)⟩
structure WIp (M:Fm) (op:Operator) (g:Int->Int->Int):Prop where
 h:∀j,PIp (M.X j) op (ipI g)
theorem jn3:WIp M .Add (fun i j=>i+j):=⟨fun _=>jpx⟩
theorem jrd:WIp M .Sub (fun i j=>i-j):=⟨fun _=>jpI⟩
theorem jpg {i:Nat} {op:Operator} {g:Int->Int->Int} {pos':Pos} (ho:WIp M op g) (h:WE M e fe) (hN:∀j,(M.X j).N.Nodup) (hi:M.N[i]?=some x) (hx:∀j,Loc (M.X j).env.scope x) (hf:∀j,(M.X j).fn x=true\/(M.X j).env.scope.names.lookup x=some .local) :
 WS M (.AugAssign (.Name x pos') op e pos) (jmP i fe g):=let ⟨_,h1,h2⟩:=h.h;⟨_,fun j=>jpa (hN j) (by rw [M.hN j];exact hi) (hx j) (h1 j) (ho.h j) (hf j),@jrV M.fr _ _ g i h2⟩
theorem jit {i:Nat} {y:Str} {py p1 tpos:Pos} {op:Operator} {g:Int → Int → Int} (ho:WIp M op g) (hN:M.N[i]?=some y) (hv:∀j,Vis (M.X j).env.scope y) (hk:WT M a fa) (hl:WE M b fb) (h:WE M e fe) (hd:(y == ("__debug__":Str))=false:=by decide) (hcd:(y == ("__classdict__":Str))=false:=by decide) (hs:jeD a:=by exact fun _ _=>rfl)
 (ha:∀ov iv new,augStore b ov iv new=(do holding [new,ov,iv] (setItem ov iv new);release [new,ov,iv] [];pure .next):=by intros;rfl):WS M (.AugAssign (.Subscript (.Subscript (.Name y py) a p1) b tpos) op e pos) (jc0 i fa fb fe g):=
 let ⟨_,a1,a2⟩:=hk.h;let ⟨_,b1,b2⟩:=hl.h;let ⟨_,e1,e2⟩:=h.h
 ⟨_,fun j=>jms (jnS (r:=rIx M.K) (by rw [<-M.hK j];exact jlQ) ‹"R"› (a1 j) hs) (b1 j) jlz (e1 j) (ho.h j) jfy ha,@jo0 M.fr _ _ _ _ _ _ g i a2 b2 e2⟩
end
end L2
namespace L2
open PySem PySem.Spec PyProof.Rows
abbrev TLk:=V->TT
section
variable {X:Cx} {op op':CmpOp} {ops:List CmpOp} {b b' a:Expr} {bs:List Expr} {r:R2} {tb ta:TE} {l:TLk} {pos:Pos}
end
section
variable [Fr]
variable {r:R2} {f:D->D->Option D} {ta tb:TE} {fa fb:ef->Option D} {l:TLk} {m:D->ef->Option Bool}
end
section
variable {M:Fm} {a b b':Expr} {bs:List Expr} {op op':CmpOp} {ops:List CmpOp} {f:D->D->Option D} {fa fb:ef->Option D} {m:D->ef->Option Bool} {pos:Pos}
end
end L2
namespace L2
open PySem PySem.Spec PyProof.Rows
def jgW:V->List V->Hp->VK->Prop:=fun x vs H Q=>∃(l:Addr) (bs:List Bool) (b:Bool),x=.ref l/\vs=[.bl b]/\Rd H l (.lst (bs.map V.bl))/\Q (.int ((bs.countP (· == b):Nat):Int)) H
theorem jfg:∀{bs:List Bool} {its:List Value},Vals (bs.map V.bl) its->its=bs.map Value.bool
 | [],_,h=>by cases h;rfl
 | b::bs,_,h=>by
   cases h with
   | cons r t=>cases r;rw [jfg t];rfl
section
variable {X:Cx}
theorem jlJ:MtR X "list.count" jgW:=by
 intro tu s σ H x vs v us Q I rx rv h;obtain ⟨l,bs,b,rfl,rfl,hH,q⟩:=h;cases rx;obtain ⟨u,rfl,ru⟩:=rv.one;cases ru;obtain ⟨z,its,n,r,e⟩:=hH.ok I.hok;have hits:=jfg r;subst hits;refine call_meets PySem.F.slot_list_count ⟨_,e,rfl⟩ PySem.F.entry_list_count (PySem.F.args_list_count_2 _ _) (PySem.SeqAt.list_countAt l (bs.map Value.bool).toArray n none #[] (.bool b) (isBoolOf b)) ⟨e,fun y hy=>?_,?_⟩
 . have hy':y∈bs.map Value.bool:=by simpa using hy
   obtain ⟨c,_,rfl⟩:=YX.mp hy';exact PySem.SeqAt.EqAt.bool_bool c b
 . have ec:List.countP (isBoolOf b) (bs.map Value.bool).toArray.toList=bs.countP (· == b):=by show List.countP (isBoolOf b) (bs.map Value.bool)=_;rw [List.countP_map];rfl
   rw [ec];exact ⟨.int _,H,I.tok _,⟨_,rfl⟩,q⟩
end
section
variable [Fr]
def jcg:D->List D->Option D
 | .lst l,[.bl b]=>(jdk l).map fun bs=>.int ((bs.countP (· == b):Nat):Int)
 | _,_=>none
theorem jkC {G:Hp} {bs:List Bool} {vs:List V} (h:Reps G vs (bs.map D.bl)):vs=bs.map V.bl:=h.bls
def eBM (f:D->List D->Option D) (fa:ef->Option D) (fs:ef->Option (List D)):ef->Option D:=fun ρ=>(fa ρ).bind fun x=>(fs ρ).bind fun xs=>f x xs
theorem jns {to:TE} {t:TA} {fa:ef → Option D} {fs:ef → Option (List D)} (ha:zx to fa) (hs:AOk t fs):EOk (tBM Fr.K "list" jgW to t) (eBM jcg fa fs):=fun G0 H0 G H σ ρ Q d e q k=>by
 obtain ⟨x,qa,q⟩:=bind_some q;obtain ⟨xs,qs,q⟩:=bind_some q;refine ha G0 H0 G H σ ρ _ x e qa fun u G1 H1 x1 r1=>?_;unfold jcg at q;split at q
 . obtain ⟨bs,hb,q⟩:=map_some q;subst q;obtain ⟨_,_,rfl,h,r⟩:=r1.of_lst;rw [jbc hb] at r;have hv:=jkC r;subst hv;refine ⟨.inl ⟨rfl,_,.inl h⟩,hs G0 H0 G1 H1 σ ρ _ _ (e.grow x1) qs fun vs G2 H2 x2 r2=>?_⟩;cases r2 with
   | cons r2 t2=>
     cases t2
     (have hh:=Rep.of_bl r2;subst hh)
     exact ⟨_,bs,_,rfl,rfl,h.same x2.hh,k _ G2 H2 (x1.trans x2) (.int _)⟩
 . cases q
end
section
variable {M:Fm} {o e:Expr} {fa fe:ef->Option D} {apos cpos:Pos}
theorem jm8 (ha:WT M o fa) (hb:WE M e fe) (h':qd e=false:=by rfl)
 (hbase:∀j,attributeBase o "count" (M.X j).env (eval o (M.X j).env)=eval o (M.X j).env:=by intro _;rfl) (hline:‹"4"›=true:=by rfl):WE M (.Call (.Attribute o "count" apos) [e] [] cpos) (eBM jcg fa (jd fe jo)):=
 let ⟨_,h1,h2⟩:=ha.h;let ⟨_,k1,k2⟩:=hb.h
 ⟨tBM M.K "list" jgW _ _,fun j=>by have:=jou (X:=M.X j) (apos:=apos) (cpos:=cpos) PySem.F.plainAttrs_list PySem.F.slot_list_count PySem.F.type_list_count jlJ (h1 j) (QK (k1 j) jba (j5 h')) (hbase j) (by rw [j5 h'];rfl) hline (j5 h') (JQ rfl);rw [M.hK j] at this;exact this,@jns M.fr _ _ _ _ h2 (@jlo M.fr _ _ _ _ k2 (@a_nil M.fr))⟩
end
section
variable {P:Program} {w:World} {K:PySem.W.Frag} {mg:Str->Option Value} {base:Heap} {f:Addr} {fd:FuncData} {ps:List Str} {k:Nat}
theorem jpm:FnOk P w K mg base JN k f fd ps (@spS ⟨K⟩ fun _=>none):=⟨fun vs H Q E z=>(by obtain ⟨_,_,_,_,_,h,_⟩:=z;cases h),fun A outer s H args us vs Q E _ _ _ _ z=>by obtain ⟨_,_,_,_,_,h,_⟩:=z;cases h⟩
end
end L2
namespace QS
open PySem.W PyProof.Rows
def ans {α:Type} (n:Nat) (K:Nat->Int):KasT α->(α->Prop)->Prop
 | .ret a,Q=>Q a
 | .ask i j k,Q=>i<n/\j<n/\ans n K (k (decide (K i<K j))) Q
theorem Qr {α β:Type} {n:Nat} {K:Nat->Int} {f:α->KasT β} {Q:β->Prop}:∀{t:KasT α},ans n K t (fun a=>ans n K (f a) Q)->ans n K (t.bind f) Q
 | .ret _,h=>h
 | .ask _ _ k,h=>⟨h.1,h.2.1,Qr (t:=k _) h.2.2⟩
theorem zV {α:Type} {n:Nat} {K:Nat->Int} {Q Q':α->Prop} (hq:∀a,Q a->Q' a):∀{t:KasT α},ans n K t Q->ans n K t Q'
 | .ret a,h=>hq a h
 | .ask _ _ k,h=>⟨h.1,h.2.1,zV hq (t:=k _) h.2.2⟩
structure PA (n:Nat) (p:Array Nat):Prop where
 size:p.size=n
 perm:p.toList.Perm (List.range n)
def key (K:Nat->Int) (p:Array Nat) (i:Nat):Int:=K (p.getD i 0)
section
variable {n:Nat} {K:Nat->Int} {p:Array Nat}
theorem PA.at (h:PA n p) {i:Nat} (hi:i<n):p[i]?=some (p.getD i 0):=by rw [yX,YE (by rw [h.size];exact hi)];rfl
theorem PA.lt (h:PA n p) {i:Nat} (hi:i<n):p.getD i 0<n:=by have e:=h.at hi;have m:p.getD i 0∈p.toList:=Array.mem_toList_iff.mpr (Array.mem_of_getElem? e);exact kQ.mp (h.perm.mem_iff.mp m)
theorem PA.inj (h:PA n p) {i j:Nat} (hi:i<n) (hj:j<n) (e:p.getD i 0=p.getD j 0):i=j:=by
 have nd:p.toList.Nodup:=h.perm.nodup_iff.mpr List.nodup_range;have hi':i<p.toList.length:=by rw [YJ,h.size];exact hi
 have hj':j<p.toList.length:=by rw [YJ,h.size];exact hj
 refine (KH (h₀:=hi') (h₁:=hj') nd).mp ?_;have a:=h.at hi;have b:=h.at hj;rw [<-Y8,Yb hi'] at a;rw [<-Y8,Yb hj'] at b;rw [Option.some.inj a,Option.some.inj b,e]
theorem PA.rev (h:PA n p) (i j:Nat):PA n (kas_rev p i j):=⟨(mirror_size _ _ _ _).trans h.size,(Array.perm_iff_toList_perm.mp (mirror_perm _ _ _ _)).trans h.perm⟩
theorem PA.bub (h:PA n p) (i j:Nat):PA n (bubble p i j):=⟨(bubble_size _ _ _).trans h.size,(Array.perm_iff_toList_perm.mp (bubble_perm _ _ _)).trans h.perm⟩
theorem Ja {q:Array Nat} {i j:Nat} (h:p[i]?=q[j]?):key K p i=key K q j:=by unfold key;rw [yX,yX,h]
theorem jhX (h:PA n p) {m i:Nat} (hm:m<=n):key K (kas_rev p 0 m) i=if i<m then key K p (m-1-i) else key K p i:=by
 have e:=getElem?_mirror_all (xs:=p) (i:=0) (j:=m) (by rw [h.size];exact hm) i;by_cases c:i<m
 . rw [if_pos c];rw [if_pos ⟨yf _,c⟩,kN] at e;exact Ja e
 . rw [if_neg c];rw [if_neg (by omega)] at e;exact Ja e
theorem jh0 (h:PA n p) {k d i:Nat} (hk:k<n) (hd:d<=k):key K (bubble p k d) i=if i=k-d then key K p k else if k-d<i/\i<=k then key K p (i-1) else key K p i:=by
 have e:=getElem?_bubble (xs:=p) (by rw [h.size];exact hk) d hd i;by_cases c:i=k-d
 . rw [if_pos c] at e ⊢;exact Ja e
 . rw [if_neg c] at e ⊢;by_cases c2:k-d<i/\i<=k
   . rw [if_pos c2] at e ⊢;exact Ja e
   . rw [if_neg c2] at e ⊢;exact Ja e
theorem jaR {α:Type} (h:PA n p) {i j:Nat} {k:Bool->KasT α} {Q:α->Prop} (hi:i<n) (hj:j<n) (y:key K p i<key K p j->ans n K (k true) Q) (z:¬key K p i<key K p j->ans n K (k false) Q):ans n K (.ask (p.getD i 0) (p.getD j 0) k) Q:=by
 refine ⟨h.lt hi,h.lt hj,?_⟩;show ans n K (k (decide (key K p i<key K p j))) Q;by_cases c:key K p i<key K p j
 . rw [YN c];exact y c
 . rw [YU c];exact z c
def Ris (K:Nat->Int) (p:Array Nat) (m:Nat):Prop:=∀i,i+1<m->key K p i<key K p (i+1)
theorem Ris.all {m:Nat} (h:Ris K p m):∀{d i:Nat},i+d+1<m->key K p i<key K p (i+d+1)
 | 0,i,hi=>h i hi
 | d+1,i,hi=>kP (h.all (d:=d) (by omega)) (h (i+d+1) (by omega))
theorem Ris.lt {m i j:Nat} (h:Ris K p m) (hij:i<j) (hj:j<m):key K p i<key K p j:=by obtain ⟨d,rfl⟩:∃d,j=i+d+1:=⟨j-i-1,by omega⟩;exact h.all hj
variable (hK:∀i j,i<n->j<n->i≠j->K i≠K j)
include hK
theorem jg4 (h:PA n p) {i j:Nat} (hi:i<n) (hj:j<n) (hij:i≠j):key K p i≠key K p j:=hK _ _ (h.lt hi) (h.lt hj) fun e=>hij (h.inj hi hj e)
theorem jg1 (h:PA n p):∀(f m:Nat),1<=m->m+f=n->Ris K p m->ans n K (kas_asc p f m) fun r=>m<=r/\r<=n/\Ris K p r/\(r<n->key K p r<key K p (r-1))
 | 0,m,h1,hm,hr=>⟨Ym _,by omega,hr,by omega⟩
 | f+1,m,h1,hm,hr=>by
   refine jaR h (by omega) (by omega) (fun c=>?_) fun c=>?_
   . exact ⟨Ym _,by omega,hr,fun _=>c⟩
   . refine zV (fun r q=>⟨by omega,q.2.1,q.2.2.1,q.2.2.2⟩) (jg1 h f (m+1) (by omega) (by omega) fun i hi=>?_);by_cases e:i+1<m
     . exact hr i e
     . have e':i=m-1:=by omega
       subst e';have ne:=jg4 hK h (i:=m) (j:=m-1) (by omega) (by omega) (by omega);rw [show m-1+1=m by omega];omega
theorem jij (h:PA n p):∀(f m:Nat),2<=m->m+f=n->(∀i,i+1<m->key K p (i+1)<key K p i)->ans n K (kas_desc f p m 0) fun r=>r.1=p/\r.2.2=0/\m<=r.2.1/\r.2.1<=n/\∀i,i+1<r.2.1->key K p (i+1)<key K p i
 | 0,m,h1,hm,hr=>⟨rfl,rfl,Ym _,by show m<=n;omega,hr⟩
 | f+1,m,h1,hm,hr=>by
   refine jaR h (by omega) (by omega) (fun c=>?_) fun c=>?_
   . refine zV (fun r q=>⟨q.1,q.2.1,by omega,q.2.2.2⟩) (jij h f (m+1) (by omega) (by omega) fun i hi=>?_);by_cases e:i+1<m
     . exact hr i e
     . have e':i=m-1:=by omega
       subst e';rw [show m-1+1=m by omega];exact c
   . have ne:=jg4 hK h (i:=m) (j:=m-1) (by omega) (by omega) (by omega);refine jaR h (by omega) (by omega) (fun c2=>⟨rfl,rfl,Ym _,by show m<=n;omega,hr⟩) fun c2=>?_;omega
theorem jj1 (h:PA n p) (hn:1<=n):ans n K (kas_count n p) fun r=>PA n r.2/\1<=r.1/\r.1<=n/\Ris K r.2 r.1:=by
 unfold kas_count;refine Qr (zV (fun r q=>?_) (jg1 hK h (n-1) 1 (by omega) (by omega) fun i hi=>by omega));obtain ⟨q1,q2,q3,q4⟩:=q;by_cases c1:r=n
 . rw [if_pos (by rw [c1];exact ke _)];exact ⟨h,q1,q2,q3⟩
 . rw [if_neg (by rw [kR];exact c1)];by_cases c2:r>1
   . rw [if_pos c2];exact jaR h (by omega) (by omega) (fun _=>⟨h,q1,q2,q3⟩) fun c=>absurd (q3.lt (by omega) (by omega)) c
   . rw [if_neg c2];have e:r=1:=by omega
     subst e;unfold kas_descPart;refine Qr (zV (fun r q=>?_) (jij hK h (n-(1+1)) (1+1) (by omega) (by omega) fun i hi=>by
       have e':i=0:=by omega
       subst e';exact q4 (by omega)))
     obtain ⟨z,m,t⟩:=r;obtain ⟨rfl,z2,z3,z4,z5⟩:=q;dsimp only at z2 z3 z4 z5 ⊢;subst z2;rw [if_neg (by omega)];unfold kas_tail3;have h':=h.rev 0 m;refine Qr (zV (fun r q=>?_) (jg1 hK h' (n-m) m (by omega) (by omega) fun i hi=>?_))
     . exact ⟨h',by omega,q.2.1,q.2.2.1⟩
     . rw [jhX h z4,jhX h z4,if_pos (by omega),if_pos hi];have:=z5 (m-1-(i+1)) (by omega);rw [show m-1-(i+1)+1=m-1-i by omega] at this;exact this
theorem jcW (h:PA n p) {k:Nat} (hk:k<n) (hr:Ris K p k):∀(f l r:Nat),l<=r->r<=k->r-l<=f->(∀i,i<l->key K p i<key K p k)->(∀i,r<=i->i<k->key K p k<key K p i)->ans n K (kas_place p k f l r) fun x=>x<=k/\(∀i,i<x->key K p i<key K p k)/\∀i,x<=i->i<k->key K p k<key K p i
 | 0,l,r,h1,h2,h3,h4,h5=>by
   have e:l=r:=by omega
   subst e;exact ⟨h2,h4,h5⟩
 | f+1,l,r,h1,h2,h3,h4,h5=>by
   unfold kas_place;by_cases c:l>=r
   . rw [if_pos c];have e:l=r:=by omega
     subst e;exact ⟨h2,h4,h5⟩
   . rw [if_neg c];refine jaR h hk (by omega) (fun d=>?_) fun d=>?_
     . refine jcW h hk hr f l ((l+r)/2) (by omega) (by omega) (by omega) h4 fun i hi hik=>?_;by_cases e:i=(l+r)/2
       . subst e;exact d
       . exact kP d (hr.lt (by omega) hik)
     . have ne:=jg4 hK h (i:=k) (j:=(l+r)/2) hk (by omega) (by omega);refine jcW h hk hr f ((l+r)/2+1) r (by omega) h2 (by omega) (fun i hi=>?_) h5;by_cases e:i=(l+r)/2
       . subst e;omega
       . have:=hr.lt (i:=i) (j:=(l+r)/2) (by omega) (by omega);omega
theorem jlq:∀(f:Nat) (p:Array Nat) (k:Nat),PA n p->1<=k->k+f=n->Ris K p k->ans n K (kas_bin f p k) fun r=>PA n r/\Ris K r n
 | 0,p,k,h,h1,hk,hr=>by
   have e:k=n:=by omega
   subst e;exact ⟨h,hr⟩
 | f+1,p,k,h,h1,hk,hr=>by
   unfold kas_bin;refine Qr (zV (fun l q=>?_) (jcW hK h (k:=k) (by omega) hr k 0 k (by omega) (by omega) (by omega) (fun i hi=>by omega) fun i hi hk=>by omega));obtain ⟨q1,q2,q3⟩:=q;refine jlq f _ (k+1) (h.bub k (k-l)) (by omega) (by omega) fun i hi=>?_;rw [jh0 h (by omega) (by omega),jh0 h (by omega) (by omega),show k-(k-l)=l by omega];by_cases c1:i=l
   . rw [if_pos c1,if_neg (by omega),if_pos (by omega)];exact q3 _ (by omega) (by omega)
   . rw [if_neg c1];by_cases c2:l<i/\i<=k
     . rw [if_pos c2,if_neg (by omega),if_pos (by omega)];have:=hr (i-1) (by omega);rw [show i-1+1=i by omega] at this;rw [show i+1-1=i by omega];exact this
     . rw [if_neg c2];by_cases c3:i+1=l
       . rw [if_pos c3];exact q2 i (by omega)
       . rw [if_neg c3,if_neg (by omega)];exact hr i (by omega)
theorem jnK (hn:1<=n):ans n K (kas_sort n) fun r=>PA n r/\Ris K r n:=by
 unfold kas_sort;have h0:PA n (List.toArray (List.range n)):=⟨by simp,List.Perm.refl _⟩;refine Qr (zV (fun r q=>?_) (jj1 hK h0 hn));obtain ⟨q1,q2,q3,q4⟩:=q;by_cases c:r.1<n
 . rw [if_pos c,Nat.max_eq_left q2];exact jlq hK _ _ _ q1 q2 (by omega) q4
 . rw [if_neg c];have e:r.1=n:=by omega
   rw [e] at q4;exact ⟨q1,q4⟩
end
end QS
namespace QS
open PySem PySem.W PySem.Calls PyProof.Rows
abbrev Tr:=Value×Int×Int
def jbR (h:Heap) (q:Tr):Prop:=∃a t u,q.1=.ref a ∧ h.get? a=some { cls:=.type "tuple",data:=.seq #[.int q.2.1 t,.int q.2.2 u] }
def t0:Tr:=(.none,0,0)
section
variable {prog:Program} {w:World} {A:Around} {E:Value->Shared->Prop} {s:Shared}
theorem jpz {p q:Tr} {C:Bool->Shared->Prop} (hp:jbR s.heap p) (hq:jbR s.heap q) (e:p.2.1=q.2.1->p.2.2=q.2.2) (h:C (decide (p.2.1<q.2.1)) s):wpAny (model prog w) A (keyLt' (tuples' true) p.1 q.1) C E s:=by
 obtain ⟨a,t,u,ea,ha⟩:=hp;obtain ⟨b,t',u',eb,hb⟩:=hq;rw [ea,eb];refine kat_lt ha rfl hb rfl ?_;show KatLex prog w A true (decide (2<2)) C [(.int p.2.1 t,.int q.2.1 t'),(.int p.2.2 u,.int q.2.2 u')] 0 s;refine kat_cons (wpAny_eqBool_int ?_);by_cases c:p.2.1=q.2.1
 . rw [kR.mpr c];refine kat_yes (kat_cons (wpAny_eqBool_int ?_));rw [kR.mpr (e c)];refine kat_yes (kat_nil ?_);rw [YU (by omega)] at h;exact h
 . rw [Kq.mpr c];exact kat_no (oneLt_int h)
theorem jdA {α:Type} {n:Nat} {K:Nat->Int} {vs:List Value} {κ:SortKind} (hc:∀i j (C:Bool->Shared->Prop),i<n->j<n->C (decide (K i<K j)) s->kas_ask prog w A κ vs i j C s) {Q:α->Shared->Prop}:∀{t:KasT α},ans n K t (fun a=>Q a s)->t.kasWp (kas_ask prog w A κ vs) Q s
 | .ret _,h=>h
 | .ask i j k,h=>hc i j _ h.1 h.2.1 (jdA hc h.2.2)
theorem jiS {T:List Tr}:(List.range T.length).map (fun i=>T.getD i t0)=T:=by
 apply Ko;intro i;rw [List.getElem?_map];by_cases h:i<T.length
 . rw [yG h,Yb h];simp [Yc,h]
 . rw [YI (by simp;omega),YI (by omega)];rfl
theorem jp0 {T:List Tr} {p:Array Nat} (h:PA T.length p) (hr:Ris (fun i=>(T.getD i t0).2.1) p T.length):(p.toList.map fun i=>T.getD i t0).Perm T/\(p.toList.map fun i=>T.getD i t0).Pairwise fun a b=>a.2.1<b.2.1:=by
 refine ⟨?_,?_⟩
 . have:=h.perm.map fun i=>T.getD i t0
   rwa [jiS] at this
 . rw [Kf];intro i j hi hj hij;rw [Yd,YJ,h.size] at hi hj;have q:=hr.lt hij hj;unfold key at q;have e:∀i (hi:i<T.length),p.getD i 0=p.toList[i]'(by rw [YJ,h.size];exact hi):=fun i hi=>by have:=h.at hi;rw [<-Y8,Yb (by rw [YJ,h.size];exact hi)] at this;exact (Option.some.inj this).symm
   rw [kl,kl,<- e i hi,<- e j hj];exact q
theorem jiw {h:Heap}:∀{T:List Tr},(∀q∈T,jbR h q)->∃fs:List Value,fs.length=T.length/\KatTups h (T.map (·.1)) fs/\∀v∈fs,∃k t,v=Value.int k t
 | [],_=>⟨[],rfl,KatTups.nil,fun v hv=>absurd hv Yw⟩
 | q::T,hT=>by
   obtain ⟨fs,h1,h2,h3⟩:=jiw (T:=T) fun x hx=>hT x (Yf _ hx);obtain ⟨a,t,u,ea,ha⟩:=hT q Ye;refine ⟨.int q.2.1 t::fs,by rw [Yx,Yx,h1],?_,fun v hv=>?_⟩
   . rw [List.map_cons,ea];exact KatTups.cons ha rfl rfl rfl h2
   . rcases Yk.mp hv with rfl | hv
     . exact ⟨_,_,rfl⟩
     . exact h3 v hv
theorem jfk {h:Heap} {a:Addr} {vs:List Value} {q:Tr} (hq:jbR h q) (hne:∀b o,h.get? b=some o → o.cls=.type "tuple" → b≠a):jbR (((h.update a (Obj.mapSeq fun _=>#[])).push (seqObj "tuple" vs.toArray 0)).push (seqObj "list" #[] 0)) q:=by obtain ⟨b,t,u,eb,hb⟩:=hq;refine ⟨b,t,u,eb,Yg _ (Yg _ ?_)⟩;rw [Heap.get?_update_ne _ _ _ _ (hne b _ hb rfl)];exact hb
theorem jbS {a:Addr} {T:List Tr} {n:Nat} {P:PySem.Fin → Shared → Prop} (ho:s.heap.get? a=some (seqObj "list" (T.map (·.1)).toArray n)) (hT:∀q∈T,jbR s.heap q) (hnd:(T.map (·.2.1)).Nodup) (h64:T.length<64)
 (h:∀T':List Tr,T'.Perm T->T'.Pairwise (fun a b=>b.2.1<a.2.1)->P (.done (.ret .none)) { s with heap:=sortedHeap s.heap a (T.map (·.1)) (T'.map (·.1)).toArray }) :
 wpAny (model prog w) A (Builtin.«list.sort» ⟨[.ref a],[(Str.ofString "reverse",.bool true)]⟩) P E s:=by
 rw [list_sort_rev];have ha:a<s.heap.objs.size:=Yr ho;have hsz:(T.map (·.1)).toArray.size=T.length:=by simp
 refine Ya (listItems_at ho rfl ?_);refine Ya (listUpdate_at ho rfl ?_ (by rw [hsz,KJ];omega) (yf _));obtain ⟨e1,ho1⟩:∃e1,‹"v"›.get? a=some (seqObj "list" #[] e1):=⟨_,get?_update_seq ho (fun _=>#[])⟩;refine Ya (seqEpoch_at ho1 rfl ?_);refine Ya (wpAny_newTuple ?_ (by show (T.map (·.1)).length<=_;rw [Yd,KJ];omega));refine Ya (wpAny_newList ?_ (yf _));refine Y4 ?_;have ho6:((‹"v"›.push (seqObj "tuple" (T.map (·.1)).toArray 0)).push (seqObj "list" #[] 0)).get? a=some (seqObj "list" #[] e1):=by rw [Heap.get?_push_ne _ _ _ (by rw [size_push',Heap.size_update];exact Yp (yE ha)),Heap.get?_push_ne _ _ _ (by rw [Heap.size_update];exact Yp ha)];exact ho1
 have hT2:∀q∈T,jbR ((‹"v"›.push (seqObj "tuple" (T.map (·.1)).toArray 0)).push (seqObj "list" #[] 0)) q:=fun q hq=>jfk (hT q hq) fun b o hb hc z=>by subst z;rw [ho] at hb;cases hb;exact absurd (Value.type.inj hc) (by decide)
 show wpAny (model prog w) A _ P E { s with heap:=(‹"v"›.push (seqObj "tuple" (T.map (·.1)).toArray 0)).push (seqObj "list" #[] 0) };dsimp only;rw [if_pos rfl];refine Ya (ky ?_);by_cases h2:(T.map (·.1)).toArray.size<2
 . rw [if_pos h2,if_pos h2];refine Ya (Yi ?_);rw [StateT.run_pure];refine Ya (Yi ?_);dsimp only;have hp:T.Pairwise (fun a b=>b.2.1<a.2.1):=by
    rw [hsz] at h2
    match T,h2 with
    | [],_=>exact List.Pairwise.nil
    | [q],_=>exact List.pairwise_singleton _ _
   have eo:(if true=true then ((arrOf (SortSt.mk' general' (if true=true then ((T.map (·.1)).toArray.zip (T.map (·.1)).toArray).reverse else (T.map (·.1)).toArray.zip (T.map (·.1)).toArray) #[] 7 none)).map (·.2)).reverse else (arrOf (SortSt.mk' general' (if true=true then ((T.map (·.1)).toArray.zip (T.map (·.1)).toArray).reverse else (T.map (·.1)).toArray.zip (T.map (·.1)).toArray) #[] 7 none)).map (·.2))=(T.map (·.1)).toArray:=by
    rw [if_pos rfl,if_pos rfl];show ((((T.map (·.1)).toArray.zip (T.map (·.1)).toArray).reverse).map (·.2)).reverse=_;rw [hsz] at h2
    match T,h2 with
    | [],_=>simp
    | [q],_=>simp
   refine Ya (seqEpoch_at ho6 rfl ?_);rw [eo];refine Ya (listUpdate_at ho6 rfl ?_ (yf _) (by rw [hsz,KJ];omega));simp only [bne_self_eq_false,Y2,yL];exact Yi (h T (List.Perm.refl _) hp)
 . rw [if_neg h2,if_neg h2];rw [hsz] at h2;obtain ⟨fs,f1,f2,f3⟩:=jiw hT2;refine Ya (kat_kind (T:=.type "int") f2 (by omega) (fun v hv=>by obtain ⟨k,t,rfl⟩:=f3 v hv;exact Looks.now) (by decide) ?_);rw [show (Value.type "int" != Value.type "tuple")=true from by decide];have eL:(T.map (·.1)).length=(T.map (·.1)).length:=rfl;rw [kat_pairs true eL,show katRev true (T.map (·.1))=T.reverse.map (·.1) from by rw [kj];rfl];have hl:(T.reverse.map (·.1)).length=T.length:=by simp
   have hrl:T.reverse.length=T.length:=by simp
   have hT3:∀i,i<T.length → jbR ((‹"v"›.push (seqObj "tuple" (T.map (·.1)).toArray 0)).push (seqObj "list" #[] 0)) (T.reverse.getD i t0):=fun i hi=>by refine hT2 _ (List.mem_reverse.mp ?_);rw [Yc,Yb (by rw [hrl];exact hi)];exact KG _
   have hget:∀i,(T.reverse.map (·.1)).getD i Value.none=(T.reverse.getD i t0).1:=fun i=>by rw [Yc,Yc,List.getElem?_map];cases T.reverse[i]? <;> rfl
   have hK:∀i j,i<T.length->j<T.length->i≠j->(T.reverse.getD i t0).2.1≠(T.reverse.getD j t0).2.1:=fun i j hi hj hij z=>by
    have nd:(T.reverse.map (·.2.1)).Nodup:=by rw [kj];exact (List.reverse_perm _).nodup_iff.mpr hnd
    have hi':i<(T.reverse.map (·.2.1)).length:=by rw [Yd,hrl];exact hi
    have hj':j<(T.reverse.map (·.2.1)).length:=by rw [Yd,hrl];exact hj
    refine hij ((KH (h₀:=hi') (h₁:=hj') nd).mp ?_);rw [kl,kl];rw [Yc,Yc,Yb (by rw [hrl];exact hi),Yb (by rw [hrl];exact hj)] at z;exact z
   have so:=jnK (n:=T.length) (K:=fun i=>(T.reverse.getD i t0).2.1) hK (by omega);refine Ya (yk (kat_run (ks:=T.reverse.map (·.1)) (vs:=T.reverse.map (·.1)) (G:=fun p s'=>s'={ s with heap:=(‹"v"›.push (seqObj "tuple" (T.map (·.1)).toArray 0)).push (seqObj "list" #[] 0) } ∧ PA T.length p ∧ Ris (fun i=>(T.reverse.getD i t0).2.1) p T.length)
    (Q:=fun st' s'=>∃p:Array Nat,arrOf st'=p.map (kas_item ((T.reverse.map (·.1)).toArray.zip (T.reverse.map (·.1)).toArray)) ∧ failedOf st'=none ∧ s'={ s with heap:=(‹"v"›.push (seqObj "tuple" (T.map (·.1)).toArray 0)).push (seqObj "list" #[] 0) } ∧ PA T.length p ∧ Ris (fun i=>(T.reverse.getD i t0).2.1) p T.length)
    rfl (by rw [hl];omega) (by rw [hl];exact h64) (fun p st' s' a1 a2 a3 a4=>⟨p,a2,a3,a4⟩) ?_) ?_ fun _ _ e=>e)
   . rw [hl];refine jdA (n:=T.length) (K:=fun i=>(T.reverse.getD i t0).2.1) (fun i j C hi hj hC=>?_) (zV (fun p q=>⟨rfl,q.1,q.2⟩) so);unfold kas_ask;rw [hget,hget];refine jpz (hT3 i hi) (hT3 j hj) (fun z=>?_) hC;by_cases c:i=j
     . rw [c]
     . exact absurd z (hK i j hi hj c)
   . rintro ⟨⟨⟩,st'⟩ s' ⟨p,har,hf,rfl,hp,hr⟩;dsimp only;have hout:=kat_snds (ks:=T.reverse.map (·.1)) (vs:=T.reverse.map (·.1)) rfl har;have e1':(p.toList.map fun i=>(T.reverse.map (·.1)).getD i Value.none)=(p.toList.map fun i=>T.reverse.getD i t0).map (·.1):=by rw [YC];exact yF fun i _=>hget i
     rw [e1'] at hout;obtain ⟨o1,o2⟩:=jp0 (T:=T.reverse) (by rw [hrl];exact hp) (by rw [hrl];exact hr);generalize (p.toList.map fun i=>T.reverse.getD i t0)=O at hout o1 o2;have hOl:O.length=T.length:=by rw [o1.length_eq,hrl]
     refine Ya (seqEpoch_at ho6 rfl ?_);rw [hout,if_pos rfl];have er:(O.map (·.1)).toArray.reverse=(O.reverse.map (·.1)).toArray:=by rw [kj];simp
     rw [er];refine Ya (listUpdate_at ho6 rfl ?_ (yf _) (by rw [YA,Yd,kG,hOl,KJ];omega));rw [hf];simp only [bne_self_eq_false,Y2,yL];exact Yi (h O.reverse ((List.reverse_perm O).trans (o1.trans (List.reverse_perm T))) (List.pairwise_reverse.mpr o2))
theorem jb0 {α β:Type}:∀{as:List β} {ps:List α},as.length=ps.length->(as.zip ps).map (·.1)=as
 | [],[],_=>rfl
 | a::as,p::ps,h=>by rw [Y1,List.map_cons,jb0 (by simpa using h)]
 | [],_::_,h=>by simp at h
 | _::_,[],h=>by simp at h
theorem jic {α β:Type}:∀{as:List β} {ps:List α},as.length=ps.length->(as.zip ps).map (·.2)=ps
 | [],[],_=>rfl
 | a::as,p::ps,h=>by rw [Y1,List.map_cons,jic (by simpa using h)]
 | [],_::_,h=>by simp at h
 | _::_,[],h=>by simp at h
def trs (as:List Addr) (ps:List (Int×Int)):List Tr:=(as.zip ps).map fun q=>(.ref q.1,q.2)
theorem jeq {K:Type} [DecidableEq K] {knd:PySem.KeyKind prog w K} {v d:Addr} {kvs:List (K×Value)} {ep:Nat} {ps:List (Int×Int)} {Q:Value->Shared->Prop} (hh:A.handled=none) (hv:s.heap.IsItemsView v d) (hlast:s.heap.objs.size=v+1) (hm:s.heap.DictAt knd d kvs ep)
 (hl:kvs.length=ps.length) (hps:∀(i:Nat) k x,kvs[i]?=some (k,x)->∃p u,ps[i]?=some p/\x=.int p.2 u/\∀key,knd.is k key=true->∃t,key=.int p.1 t) (hnd:(ps.map (·.1)).Nodup) (h64:ps.length<64)
 (h:∀h' tk l c (T:List Tr),‹"W"› → s.heap.objs.size ≤ l → h'.get? l=some (seqObj "list" (T.map (·.1)).toArray c) → (∀q∈T,jbR h' q) → (∀q∈T,∃a,q.1=.ref a ∧ s.heap.objs.size ≤ a ∧ a≠l) → (T.map (·.1)).Nodup → (T.map (·.2)).Perm ps → T.Pairwise (fun a b=>b.2.1<a.2.1) →
  Q (.ref l) { s with heap:=h',toks:=tk }):wpAny (model prog w) A (call (.builtin "sorted") [.ref v] [(Str.ofString "reverse",.bool true)]) Q E s:=by
 refine call_function_entry_kw kind_sorted plain_sorted entry_sorted (args_sorted_rev _ _) ?_;unfold Builtin.«sorted»;refine Ya (m:=checkCount "sorted" 1 1 _) (Yi ?_);refine Ya (kdx_collect (A:=A.in1) (knd:=knd) (kvs:=kvs) (ep:=ep) hh hv hm (by rw [hl,KJ];omega) fun h1 tk as hk hal hG=>?_);refine Ya (wpAny_newList ?_ (by rw [Yd,hal,hl,KJ];omega));have hal':as.length=ps.length:=hal.trans hl;have e1:(trs as ps).map (·.1)=as.map Value.ref:=by
  unfold trs;rw [YC];have:=congrArg (List.map Value.ref) (jb0 hal')
  rwa [YC] at this
 have e2:(trs as ps).map (·.2)=ps:=by unfold trs;rw [YC];exact jic hal'
 have e3:(trs as ps).length=ps.length:=by have:=congrArg List.length e2;rwa [Yd] at this
 have hoL:(h1.push (seqObj "list" (as.map Value.ref).toArray 0)).get? h1.objs.size=some (seqObj "list" (as.map Value.ref).toArray 0):=Ys _ rfl;have mem:∀q∈trs as ps,∃(j:Nat) (a:Addr),as[j]?=some a/\ps[j]?=some q.2/\q.1=.ref a:=fun q hq=>by unfold trs at hq;obtain ⟨r,hr,rfl⟩:=YX.mp hq;obtain ⟨j,hj⟩:=List.mem_iff_getElem?.mp hr;rw [YO] at hj;exact ⟨j,r.1,hj.1,hj.2,rfl⟩
 have hT:∀q∈trs as ps,jbR h1 q:=fun q hq=>by obtain ⟨j,a,h3,h4,h5⟩:=mem q hq;obtain ⟨key,k,x,g1,g2,g3⟩:=hG.pairs j a h3;obtain ⟨p,u,f1,rfl,f3⟩:=hps j k x g1;rw [h4] at f1;cases f1;obtain ⟨t,rfl⟩:=f3 key g2;exact ⟨a,t,u,h5,g3⟩
 have up:∀{hx:Heap} {q:Tr},(∀b o,h1.get? b=some o->hx.get? b=some o)->jbR h1 q->jbR hx q:=fun {hx q} kp ⟨a,t,u,x1,x2⟩=>⟨a,t,u,x1,kp a _ x2⟩;have hz:s.heap.objs.size<=h1.objs.size:=by obtain ⟨o,ho,_⟩:=hv;rw [hlast];exact Yr (hk _ _ ho)
 rw [<-e1] at hoL;show wpAny _ _ _ _ _ { s with heap:=h1.push (seqObj "list" (as.map Value.ref).toArray 0),toks:=tk };rw [<-e1];refine Ya (Y4 (wpAny_call_entry_kw slot_list_sort ⟨_,hoL,rfl⟩ entry_list_sort (jbS (s:={ s with heap:=h1.push (seqObj "list" ((trs as ps).map (·.1)).toArray 0),toks:=tk }) hoL (fun q hq=>up (fun b o e=>Yg _ e) (hT q hq)) (by rw [show (trs as ps).map (·.2.1)=((trs as ps).map (·.2)).map (·.1) from by rw [YC];rfl,e2];exact hnd) (by rw [e3];exact h64) fun T' p1 p2=>⟨_,rfl,?_⟩) (args_list_sort_rev _ _)));refine Yi ⟨_,rfl,?_⟩;have hlt:h1.objs.size<(h1.push (seqObj "list" ((trs as ps).map (·.1)).toArray 0)).objs.size:=by rw [size_push'];exact yK _
 obtain ⟨c,hc⟩:=sortedHeap_at (out:=(T'.map (·.1)).toArray) hoL;have keep:∀b o,h1.get? b=some o → (sortedHeap (h1.push (seqObj "list" ((trs as ps).map (·.1)).toArray 0)) h1.objs.size ((trs as ps).map (·.1)) (T'.map (·.1)).toArray).get? b=some o:=fun b o e=>by have hb:b≠h1.objs.size:=Yp (Yr e);rw [sortedHeap_old hb (yH (Yr e) hlt)];exact Yg _ e
 refine h _ tk h1.objs.size c T' (fun b o e=>keep b o (hk b o e)) hz hc (fun q hq=>up keep (hT q (p1.mem_iff.mp hq))) (fun q hq=>?_) ?_ ?_ p2
 . obtain ⟨j,a,h3,h4,h5⟩:=mem q (p1.mem_iff.mp hq);exact ⟨a,h5,yP (hG.above a (Yz h3)),Yp (hG.there (Yz h3))⟩
 . refine (p1.map (·.1)).nodup_iff.mpr ?_;rw [e1];refine List.Pairwise.map _ (fun a b z=>?_) hG.rise;intro y;cases y;exact YZ _ z
 . have:=p1.map (·.2)
   rwa [e2] at this
end
end QS
namespace QS
open PySem PySem.W PySem.Calls PyProof.Rows PyProof.V PySem.Spec
def mxN (val:Nat->Int):Nat->Int
 | 0=>val 0
 | k+1=>if val (k+1)>mxN val k then val (k+1) else mxN val k
theorem jkd (val:Nat->Int):∀k,(∃j,j<=k/\mxN val k=val j)/\∀j,j<=k->val j<=mxN val k
 | 0=>⟨⟨0,Ym _,rfl⟩,fun j hj=>by rw [show j=0 by omega];exact YR _⟩
 | k+1=>by
   obtain ⟨⟨i,hi,e⟩,h⟩:=jkd val k;unfold mxN;split
   . rename_i c;refine ⟨⟨k+1,Ym _,rfl⟩,fun j hj=>?_⟩;by_cases z:j=k+1
     . subst z;exact YR _
     . have:=h j (by omega);omega
   . rename_i c;refine ⟨⟨i,by omega,e⟩,fun j hj=>?_⟩;by_cases z:j=k+1
     . subst z;omega
     . exact h j (by omega)
section
variable {prog:Program} {w:World} {A:Around} {R:Result->Shared->Prop} {I S:Addr} {fp wr:List Addr} {n:Nat} {P:Nat->Value->Prop} {St:Nat->Heap->Prop} {val:Nat->Int} {d:Value}
theorem gt_int {a b:Int} {t u:Tok} {s:Shared} {Q:Value->Shared->Prop} {E:Value->Shared->Prop} (h:Q (.bool (decide (a>b))) s):wpAny (model prog w) A (richCompare .Gt (.int a t) (.int b u)) Q E s:=CmpOf.ints_gt (P:=fun i v=>v=.int (if i=0 then a else b) (if i=0 then t else u)) (fun i=>if i=0 then a else b) (fun i v hv=>⟨_,hv⟩) 0 1 _ _ s Q E rfl rfl h
abbrev mlA (I S:Addr) (d:Value):Args:=⟨[.ref I,.none,.ref S],[(Str.ofString "default",d)]⟩
abbrev jnQ (xs:Array Value) (c:Nat):Obj:={ cls:=.type "list",dict:=none,data:=.seq xs c,slots:=#[] }
theorem jrM (W:Walks prog w A.in1 I fp wr n P St) (hv:∀i v,P i v->∃t,v=.int (val i) t) (hSf:S∉fp):∀(k j:Nat) (s:Shared) (t:Tok) (c:Nat),j+1+k=n->St (j+1) s.heap->s.heap.get? S=some (jnQ #[.int (mxN val j) t,.int (mxN val j) t] c)->
 (∀t' h' tk,(∀b o,b∉wr → b≠S → s.heap.get? b=some o → h'.get? b=some o) → R (.ok (.ret (.int (mxN val (n-1)) t'))) { s with heap:=h',toks:=tk }) → codeAny (model prog w) A (.builtin "max.loop" (mlA I S d)) R s:=by
 have hSw:S∉wr:=fun z=>hSf (W.sub _ z);have nm:(toString "max"++toString ".loop":String)="max.loop":=by decide
 intro k;induction k with
 | zero=>
   intro j s t c hn hst hS hR;refine yy F.entry_max_loop ?_;rw [ye Kb _];show wpAny _ A.in1 (seqItems? (.ref S) >>= _) _ _ s;refine Ya (yM hS rfl ?_);show wpAny _ A.in1 (tryCatch (pyNext (.ref I)) _ >>= _) _ _ s;have hst':St n s.heap:=by rw [<-hn];exact hst
   refine Ya (K7 (W.done s _ _ hst' fun h1 tk hk=>?_));have hS1:=hk S _ hSw hS;show wpAny _ A.in1 (updateSeq S (fun _=>#[]) >>= _) _ _ _;refine Ya (yg hS1 rfl (Ya (kz (Yi ?_))));have e:j=n-1:=by omega
   subst e;exact hR t _ tk fun b o hb hbS q=>(yp _ _ (Ne.symm hbS)).trans (hk b o hb q)
 | succ k ih=>
   intro j s t c hn hst hS hR;refine yy F.entry_max_loop ?_;rw [ye Kb _];show wpAny _ A.in1 (seqItems? (.ref S) >>= _) _ _ s;refine Ya (yM hS rfl ?_);show wpAny _ A.in1 (tryCatch (pyNext (.ref I)) _ >>= _) _ _ s;refine Ya (K7 (W.item (j+1) s _ _ (by omega) hst fun v h1 tk hP hst1 hk=>?_));have hS1:=hk S _ hSw hS;obtain ⟨u,rfl⟩:=hv _ _ hP;show wpAny _ A.in1 (tryCatch (holding [.int (val (j+1)) u,.int (val (j+1)) u] (richCompare .Gt (.int (val (j+1)) u) (.int (mxN val j) t) >>= _)) _ >>= _) _ _ _;refine Ya (K7 (Y4 (Ya (gt_int ?_))));refine Ya (Y4 (yD ?_));refine Ya (kz (Yi ?_));by_cases c:val (j+1)>mxN val j
   . have e:mxN val (j+1)=val (j+1):=by unfold mxN;exact if_pos c
     rw [YN c];simp only [Kl];refine Ya (yg hS1 rfl (Ya (kz ?_)));rw [nm];refine Yi ⟨yt Kb _,ih (j+1) _ u _ (by omega) ‹"aC"› (by rw [e];exact YT _ hS1 rfl) fun t' h' tk' hk'=>?_⟩;exact hR t' h' tk' fun b o hb hbS q=>hk' b o hb hbS ((yp _ _ (Ne.symm hbS)).trans (hk b o hb q))
   . have e:mxN val (j+1)=mxN val j:=by rw [mxN];exact if_neg c
     rw [YU c];simp only [Y2,yL];refine Ya (kz ?_);rw [nm];exact Yi ⟨yt Kb _,ih (j+1) _ t _ (by omega) hst1 (by rw [e];exact hS1) fun t' h' tk' hk'=>hR t' h' tk' fun b o hb hbS q=>hk' b o hb hbS (hk b o hb q)⟩
theorem jly (W:Walks prog w A.in1 I fp wr n P St) (hv:∀i v,P i v->∃t,v=.int (val i) t) (hSf:S∉fp) {s:Shared} {c:Nat} (hst:St 0 s.heap) (hS:s.heap.get? S=some (jnQ #[] c))
 (hR:∀t' h' tk,0<n->(∀b o,b∉wr->b≠S->s.heap.get? b=some o->h'.get? b=some o)->R (.ok (.ret (.int (mxN val (n-1)) t'))) { s with heap:=h',toks:=tk })
 (hR0:∀h' tk,n=0 → (∀b o,b∉wr → b≠S → s.heap.get? b=some o → h'.get? b=some o) → R (.ok (.ret d)) { s with heap:=h',toks:=tk }):codeAny (model prog w) A (.builtin "max.loop" (mlA I S d)) R s:=by
 have hSw:S∉wr:=fun z=>hSf (W.sub _ z);have nm:(toString "max"++toString ".loop":String)="max.loop":=by decide
 refine yy F.entry_max_loop ?_;rw [ye Kb _];show wpAny _ A.in1 (seqItems? (.ref S) >>= _) _ _ s;refine Ya (yM hS rfl ?_);show wpAny _ A.in1 (tryCatch (pyNext (.ref I)) _ >>= _) _ _ s;by_cases z:n=0
 . subst z;refine Ya (K7 (W.done s _ _ hst fun h1 tk hk=>?_));show wpAny _ A.in1 (rule _ >>= _) _ _ _;exact Ya (ky (Yi (hR0 h1 tk rfl fun b o hb hbS q=>hk b o hb q)))
 . refine Ya (K7 (W.item 0 s _ _ (by omega) hst fun v h1 tk hP hst1 hk=>?_));have hS1:=hk S _ hSw hS;obtain ⟨u,rfl⟩:=hv _ _ hP;show wpAny _ A.in1 (updateSeq S (fun _=>#[.int (val 0) u,.int (val 0) u]) >>= _) _ _ _;refine Ya (yg hS1 rfl ?_);rw [nm];refine Yi ⟨yt Kb _,jrM W hv hSf (n-1) 0 _ u _ (by omega) ‹"aC"› (YT _ hS1 rfl) fun t' h' tk' hk'=>?_⟩;exact hR t' h' tk' (by omega) fun b o hb hbS q=>hk' b o hb hbS ((yp _ _ (Ne.symm hbS)).trans (hk b o hb q))
end
section
variable {prog:Program} {w:World} {A:Around} {E:Value->Shared->Prop} {s:Shared}
theorem jjK (a v:Value):argsOk "max" ⟨[a],[(Str.ofString "default",v)]⟩:=by unfold argsOk;kernel_rfl
theorem jga {l:Addr} {xs:Array (Int×Tok)} {d:Value} {Q:Value->Shared->Prop} (hh:A.handled=none) (hl:s.heap.IsList l (intItems xs))
 (h1:∀t h' tk,0<xs.size->‹"2"›->Q (.int (mxN (numAt xs) (xs.size-1)) t) { s with heap:=h',toks:=tk })
 (h0:∀h' tk,xs.size=0 → ‹"W"› → Q d { s with heap:=h',toks:=tk }):wpAny (model prog w) A (call (.builtin "max") [.ref l] [(Str.ofString "default",d)]) Q E s:=by
 have nm:(toString "max"++toString ".loop":String)="max.loop":=by decide
 refine kmb_tree F.kind_max F.plain_max F.entry_max (jjK _ _) ?_;show wpAny _ A.in1 (Builtin.Builtins.bindParams "max" ["key","default"] 0 ⟨[],[(Str.ofString "default",d)]⟩ >>= _) _ _ s;refine Ya (wpAny_of_eq (show Builtin.Builtins.bindParams "max" ["key","default"] 0 ⟨[],[(Str.ofString "default",d)]⟩=pure [none,some d] from rfl) ?_);refine Ya (Yi ?_);refine Ya (iter_intList hl fun s₂ e st hfp hlI=>?_);subst e;refine Ya (Kj ?_);rw [nm];have ez:(intItems xs).size=xs.size:=by simp [intItems]
 have W:=Walks.list (prog:=prog) (w:=w) (A:=A.in1) hh s.heap.objs.size l hlI (intItems xs);have hSf:(s.heap.push { cls:=.type "list_iterator",data:=.fields #[.ref l,.int 0 0] }).objs.size∉[s.heap.objs.size,l]:=fun z=>YZ _ (hfp _ z);have old:∀{h':Heap},(∀b o,b∉[s.heap.objs.size] → b≠(s.heap.push { cls:=.type "list_iterator",data:=.fields #[.ref l,.int 0 0] }).objs.size → ((s.heap.push { cls:=.type "list_iterator",data:=.fields #[.ref l,.int 0 0] }).push { cls:=.type "list",data:=.seq ([]:List Value).toArray }).get? b=some o → h'.get? b=some o) → ∀b o,s.heap.get? b=some o → h'.get? b=some o:=fun {h'} hk b o q=>by have q1:=Yg { cls:=.type "list_iterator",data:=.fields #[.ref l,.int 0 0] } q;refine hk b o (fun z=>?_) (Yp (Yr q1)) (Yg _ q1);rw [Yn.mp z] at q;exact YZ _ (Yr q)
 refine Yi ⟨yt Kb _,jly (n:=(intItems xs).size) (val:=numAt xs) W (fun i v hv=>intItems_at hv) hSf (W.frame _ _ _ st fun b _ o q=>Yg _ q) (Ys _ rfl) (fun t' h' tk hn hk=>?_) fun h' tk hn hk=>?_⟩
 . rw [ez] at hn ⊢;exact h1 t' h' tk hn (old hk)
 . rw [ez] at hn;exact h0 h' tk hn (old hk)
end
end QS
namespace L2
open PySem PySem.Spec PyProof.Rows
def jig (to:TE):TE:=fun σ H Q=>to σ H fun x H1=>∃(a:Addr) (ks xs:List Int),x=.ref a/\Rd H1 a (.dK (qF ks (xs.map V.int)))/\ks.length=xs.length/\ks.Nodup/\ks.length<64 /\
 ∀(l:Addr) (ts:List Addr) (ps:List (Int×Int)) (H':Hp),H1 l=none->(∀t∈ts,H1 t=none)->l∉ts->ts.Nodup->ts.length=ps.length->ps.Perm (ks.zip xs)->ps.Pairwise (fun a b=>b.1<a.1)->(∀b,b≠l->b∉ts->H' b=H1 b)->H' l=some (.lst (ts.map V.ref))->
   (∀(i:Nat) t p,ts[i]?=some t->ps[i]?=some p->H' t=some (.tup [.int p.1,.int p.2]))->Q (.ref l) H'
def jrW (h:Heap) (a:Addr) (p:Int×Int):Prop:=∃t u,h.get? a=some { cls:=.type "tuple",data:=.seq #[.int p.1 t,.int p.2 u] }
section
variable {X:Cx}
theorem jmc {T:List QS.Tr} (h:∀q∈T,∃a,q.1=Value.ref a):∃ts:List Addr,T.map (·.1)=ts.map Value.ref:=by
 induction T with
 | nil=>exact ⟨[],rfl⟩
 | cons q T ih=>obtain ⟨a,ea⟩:=h q Ye;obtain ⟨ts,e⟩:=ih fun x hx=>h x (Yf _ hx);exact ⟨a::ts,by rw [List.map_cons,List.map_cons,e,ea]⟩
theorem jjN {o:Expr} {to:TE} {p1 apos pos2 pos1 kp cp:Pos} (hc:X.calm=true) (hg:Gl X "sorted") (hm:X.mg "sorted"=none) (ho:PE X o to)
 (hbase:attributeBase o "items" X.env (eval o X.env)=eval o X.env:=by rfl) (hline:(apos.endLine == pos2.line)=true:=by rfl)
 (hs:starEach [.Call (.Attribute o "items" apos) [] [] pos2] X.env=[(false,eval (.Call (.Attribute o "items" apos) [] [] pos2) X.env)]:=by rfl) :
 PE X ‹"V"› (jig to):=by
 intro tu s σ H Q I h;refine Kv (Js I hg hm boot_sorted ?_);refine PyProof.Rows.callWith_kw (rest:=[]) ?_ (by rw [hs];rfl) (by rw [hs];rfl);rw [hs];show wpAny _ _ (spliced ((false,eval (.Call (.Attribute o "items" apos) [] [] pos2) X.env)::backTo pos1 [])) _ _ s;refine yA (wpAny_Call_method0_late hbase hline (qu (ho tu s σ H _ I h) fun v s1 zz=>?_));obtain ⟨x,H1,I1,r1,a,ks,xs,ex,hd,hl,hnd,h64,q⟩:=zz;subst ex;obtain rfl:v=Value.ref a:=r1;obtain ⟨z,hsm,vs,rel,dd⟩:=Qx I1.hok hd;obtain ⟨t1,t2,_⟩:=jg6 I1 (.inl ⟨_,hd⟩);refine ⟨"dict","dict.items",KW,PySem.F.slot_dict_items,PySem.F.type_dict_items,t1,t2,Ku rfl (PySem.evalArgs_none ?_)⟩;refine K8 PySem.F.slot_dict_items dd.typeIs PySem.F.entry_dict_items (PySem.F.args_dict_items_1 _) (meets_dict_items (jO X.prog X.w) a hsm) ⟨⟨vs,dd⟩,?_⟩;refine yS (PyProof.Rows.kws_cons (Constant_bool (PyProof.Rows.kws_nil ?_)));show wpAny _ _ (call (.builtin "sorted") [.ref s1.heap.objs.size] [(Str.ofString "reverse",.bool true)]) _ _ _;obtain ⟨ep,dat⟩:=dd.dictAt;have hlv:ks.length=(xs.map V.int).length:=by rw [Yd];exact hl
 have lw:vs.length=ks.length:=by rw [<-KV.length rel,jcc hlv]
 have lp:(ks.zip xs).length=ks.length:=by rw [Kn];omega
 refine QS.jeq (knd:=jO X.prog X.w) (kvs:=vs) (ep:=ep) (ps:=ks.zip xs) (I.ok.hd hc) ⟨_,Ys _ rfl,rfl,rfl⟩ (size_push' _ _) (dat.push _) (by rw [lw,lp]) (fun i k x e=>?_) ?_ (by rw [lp];exact h64) fun h' tk l c T hk hle hol hT hfr hndT hperm hpw=>?_
 . have hi:i<ks.length:=by rw [<-lw];exact (Yj.mp e).1
   have hz:(qF ks (xs.map V.int))[i]?=some (Sum.inl ks[i],V.int (xs[i]'(by omega))):=by unfold qF;rw [YO];exact ⟨by rw [List.getElem?_map,Yb hi];rfl,by rw [List.getElem?_map,Yb (by omega)];rfl⟩
   obtain ⟨q',hq,e1,e2⟩:=Paired.get rel hz;rw [e] at hq;cases hq;dsimp only at e1 e2;subst e1;obtain ⟨u,rfl⟩:=e2;exact ⟨(ks[i],xs[i]'(by omega)),u,by rw [YO];exact ⟨Yb hi,Yb (by omega)⟩,rfl,fun key hkey=>jeu hkey⟩
 . have:(ks.zip xs).map (·.1)=ks:=QS.jb0 hl;rw [this];exact hnd
 . obtain ⟨ts,ets⟩:=jmc fun q hq=>let ⟨a,ea,_⟩:=hfr q hq;⟨a,ea⟩;have sz:s1.heap.objs.size ≤ (s1.heap.push { cls:=.type "dict_items",data:=.fields #[.ref a] }).objs.size:=by rw [size_push'];exact kE _
   have hTl:T.length=ts.length:=by have:=congrArg List.length ets;rwa [Yd,Yd] at this
   have tsT:∀(i:Nat) t,ts[i]?=some t->∃q,T[i]?=some q/\q∈T/\q.1=Value.ref t:=fun i t et=>by have:=congrArg (fun l=>l[i]?) ets;simp only [List.getElem?_map,et,Yy] at this;obtain ⟨q,e1,e2⟩:=map_some this;exact ⟨q,e1,Yz e1,e2⟩
   have fresh:∀t∈ts,s1.heap.objs.size<=t/\t≠l:=fun t ht=>by obtain ⟨i,hi⟩:=List.mem_iff_getElem?.mp ht;obtain ⟨q',_,hq,e1⟩:=tsT i t hi;obtain ⟨b,e2,e3,e4⟩:=hfr q' hq;rw [e1] at e2;cases e2;exact ⟨YW sz e3,e4⟩
   have nd:ts.Nodup:=by rw [ets] at hndT;exact List.Pairwise.of_map Value.ref (fun a b hab z=>hab (congrArg Value.ref z)) hndT
   have pl:∀(i:Nat) t p,ts[i]?=some t->(T.map (·.2))[i]?=some p->jrW h' t p:=fun i t p e1 e2=>by obtain ⟨q',f1,f2,f3⟩:=tsT i t e1;rw [List.getElem?_map,f1] at e2;cases e2;obtain ⟨b,t',u,g1,g2⟩:=hT q' f2;rw [f3] at g1;cases g1;exact ⟨t',u,g2⟩
   have lT:(T.map (·.2)).length=ts.length:=by rw [Yd];exact hTl
   have pw:(T.map (·.2)).Pairwise fun a b=>b.1<a.1:=List.pairwise_map.mpr hpw;generalize T.map (·.2)=ps at hperm pl lT pw
   let H':Hp:=fun b=>if b=l then some (.lst (ts.map V.ref)) else if b∈ts then some (.tup [.int ((ps[ts.idxOf b]?).getD (0,0)).1,.int ((ps[ts.idxOf b]?).getD (0,0)).2]) else H1 b
   have HS:H' l=some (.lst (ts.map V.ref)):=if_pos rfl;have HT:∀(i:Nat) t p,ts[i]?=some t->ps[i]?=some p->H' t=some (.tup [.int p.1,.int p.2]):=fun i t p e e1=>by
    have hi:i<ts.length:=(Yj.mp e).1;have ht:t∈ts:=Yz e;have hix:ts.idxOf t=i:=by obtain ⟨h1,h2⟩:=ja2 ht;exact (KH (h₀:=h1) (h₁:=hi) nd).mp ((Yj.mp h2).2.trans (Yj.mp e).2.symm)
    show (if t=l then _ else if t∈ts then _ else _)=_;rw [if_neg (fresh t ht).2,if_pos ht,hix,e1];rfl
   have HO':∀b,b≠l->b∉ts->H' b=H1 b:=fun b h1 h2=>by show (if b=l then _ else if b∈ts then _ else _)=_;rw [if_neg h1,if_neg h2]
   have lel:s1.heap.objs.size<=l:=YW sz hle;have I2:Inv X tu σ H' { s1 with heap:=h',drawn:=s1.drawn,toks:=tk }:=by
    refine I1.grow (fun b o e=>hk b o (Yg _ e)) (fun b hb=>HO' b (fun z=>?_) (fun z=>?_)) fun b o hb e=>?_
    . rw [z] at hb;exact K5.mpr lel hb
    . exact K5.mpr (fresh b z).1 hb
    . by_cases hbS:b=l
      . subst hbS;rw [HS] at e;cases e;refine ⟨by rw [Yd,<- hTl,hTl,<- lT,hperm.length_eq,lp];exact YW (by omega:ks.length<=64) (by decide),ts.map Value.ref,c,jbg ts,?_⟩;rw [<-ets];exact hol
      . by_cases hbt:b∈ts
        . obtain ⟨h1,h2⟩:=ja2 hbt;have hpi:ts.idxOf b<ps.length:=by rw [lT];exact h1
          rw [HT _ b _ h2 (Yb hpi)] at e;cases e;obtain ⟨t',u,g2⟩:=pl _ b _ h2 (Yb hpi);exact ⟨by show 2<=sizeLine;decide,_,.cons ⟨_,rfl⟩ (.cons ⟨_,rfl⟩ .nil),⟨_,g2,rfl,0,rfl⟩⟩
        . rw [HO' b hbS hbt] at e;exact absurd (I1.hok.lt e) (K5.mpr hb)
   exact ⟨.ref l,H',I2,rfl,q l ts ps H' (I1.hok.fresh lel) (fun t ht=>I1.hok.fresh (fresh t ht).1) (fun z=>(fresh l z).2 rfl) nd lT.symm hperm pw HO' HS HT⟩
end
def jjV (p:Int×Int):List (Int×Int)->List (Int×Int)
 | []=>[p]
 | q::l=>if q.1<p.1 then p::q::l else q::jjV p l
def jeQ:List (Int×Int)->List (Int×Int)
 | []=>[]
 | p::l=>jjV p (jeQ l)
theorem jbx (p:Int×Int):∀l,(jjV p l).Perm (p::l)
 | []=>List.Perm.refl _
 | q::l=>by
   unfold jjV;split
   . exact List.Perm.refl _
   . exact (List.Perm.cons q (jbx p l)).trans (List.Perm.swap p q l)
theorem Z0:∀l,(jeQ l).Perm l
 | []=>List.Perm.refl _
 | p::l=>(jbx p (jeQ l)).trans (List.Perm.cons p (Z0 l))
theorem jdQ {p:Int×Int}:∀{l:List (Int×Int)},l.Pairwise (fun a b=>b.1<a.1)->(∀q∈l,q.1≠p.1)->(jjV p l).Pairwise fun a b=>b.1<a.1
 | [],_,_=>List.pairwise_singleton _ _
 | q::l,h,hn=>by
   have h':=YB.mp h;have hq:=hn q Ye;unfold jjV;split
   . rename_i c;refine YB.mpr ⟨fun x hx=>?_,h⟩;rcases Yk.mp hx with rfl | hx
     . exact c
     . exact kP (h'.1 x hx) c
   . rename_i c;refine YB.mpr ⟨fun x hx=>?_,jdQ h'.2 fun x hx=>hn x (Yf _ hx)⟩;rcases Yk.mp ((jbx p l).mem_iff.mp hx) with rfl | hx
     . omega
     . exact h'.1 x hx
theorem jbi:∀{l:List (Int×Int)},(l.map (·.1)).Nodup->(jeQ l).Pairwise fun a b=>b.1<a.1
 | [],_=>List.Pairwise.nil
 | p::l,h=>by have h':=Y9.mp h;refine jdQ (jbi h'.2) fun q hq z=>h'.1 ?_;show p.1∈_;rw [<-z];exact yv ((Z0 l).mem_iff.mp hq)
theorem jgf:∀{l m:List (Int×Int)},l.Pairwise (fun a b=>b.1<a.1)->m.Pairwise (fun a b=>b.1<a.1)->l.Perm m->l=m
 | [],m,_,_,h=>by rw [List.nil_perm.mp h]
 | x::l,[],_,_,h=>by cases List.perm_nil.mp h
 | x::l,y::m,h1,h2,h=>by
   have p1:=YB.mp h1;have p2:=YB.mp h2;have e:x=y:=by
     rcases Yk.mp (h.mem_iff.mp Ye) with z | z
     . exact z
     . rcases Yk.mp (h.mem_iff.mpr Ye) with w | w
       . exact w.symm
       . have:=p2.1 x z;have:=p1.1 y w;omega
   subst e;rw [jgf p1.2 p2.2 ((List.perm_cons x).mp h)]
section
variable [Fr]
def jqI (p:Int×Int):D:=.tup [.int p.1,.int p.2]
def jb4 (fd:ef->Option D):ef->Option (List D):=fun ρ=>match fd ρ with
 | some (.dic ks ds)=>(J8 ds).bind fun xs=>if ks.length=xs.length/\ks.Nodup/\ks.length<64 then some ((jeQ (ks.zip xs)).map jqI) else none
 | _=>none
theorem jkt {td:TE} {fd:ef->Option D} (hd:zx td fd):EOkO (jig td) (jb4 fd):=fun G0 H0 G H σ ρ Q ds e q k=>by
 unfold jb4 at q;split at q
 . rename_i ks es z;obtain ⟨xs,q1,q2⟩:=bind_some q;split at q2
   . rename_i hz;cases q2;refine hd _ _ _ _ _ _ _ _ e z fun v G1 H1 x1 rr=>?_;cases rr with
     | @dic a vs _ _ h hl r=>
       rw [Jd q1] at r;rw [r.ints] at h;refine ⟨a,ks,xs,rfl,h,hz.1,hz.2.1,hz.2.2,fun c ts ps H' hc hts hcn hnd tL hperm hfall hoth hcl htup=>?_⟩;have eps:ps=jeQ (ks.zip xs):=by refine jgf hfall (jbi ?_) (hperm.trans (Z0 _).symm);have:(ks.zip xs).map (·.1)=ks:=QS.jb0 hz.1;rw [this];exact hz.2.1
       subst eps;have G2:∃G2:Hp,G2=fun x=>if x∈ts then H' x else G1 x:=⟨_,rfl⟩
       obtain ⟨G2,eG2⟩:=G2;have inT:∀x,x∈ts->G2 x=H' x:=fun x hx=>by rw [eG2];exact if_pos hx
       have outT:∀x,x∉ts->G2 x=G1 x:=fun x hx=>by rw [eG2];exact if_neg hx
       have sG:Same G1 G2:=fun x o w=>by rw [outT x fun z=>by have:=hts x z;rw [x1.gh x o w] at this;cases this];exact w
       have sH:Same H1 H':=fun x o w=>by rw [hoth x (jD w hc) fun z=>by have:=hts x z;rw [w] at this;cases this];exact w
       have x2:Ext G1 H1 G2 H':=⟨sH,sG,fun x o w=>by
        by_cases hx:x∈ts
        . rw [inT x hx] at w;exact w
        . rw [outT x hx] at w;exact sH x o (x1.gh x o w),fun x o w=>by
        by_cases hx:x∈ts
        . exact .inr (hts x hx)
        . rw [outT x hx] at w;exact .inl w⟩
       have gc:G2 c=none:=by rw [outT c hcn];exact x1.gh.free hc
       refine k c _ G2 H' (x1.trans x2) (x1.hh.free hc) gc hcl ?_;have build:∀(vs:List V) (ds:List D),vs.length=ds.length->(∀(i:Nat) v d,vs[i]?=some v->ds[i]?=some d->Rep G2 v d)->Reps G2 vs ds:=by
        intro vs;induction vs with
        | nil=>intro ds hl _;cases ds with | nil=>exact .nil | cons _ _=>simp at hl
        | cons v vs ih=>
          intro ds hl hh;cases ds with
          | nil=>simp at hl
          | cons d ds=>exact .cons (hh 0 v d rfl rfl) ‹"ap"›
       refine build _ _ (by rw [Yd,Yd,tL]) fun i v d g1 g2=>?_;rw [List.getElem?_map] at g1 g2;obtain ⟨t,et,rfl⟩:=map_some g1;obtain ⟨p,epp,rfl⟩:=map_some g2;exact .tup (by rw [inT t (Yz et)];exact htup i t p et epp) (.cons (.int _) (.cons (.int _) .nil))
   . cases q2
 . cases q
end
def joa (K:PySem.W.Frag) (te tf:TE):TE:=fun σ H Q=>te σ H fun x H1=>tf σ H1 fun y H2=>∃(p:Addr) (ns:List Int),x=.ref p/\Jf K H2 p (ns.map V.int)/\(ns=[]->Q y H2)/\∀M,M∈ns->(∀a∈ns,a<=M)->Q (.int M) H2
section
variable {X:Cx}
theorem jny {e f:Expr} {te tf:TE} {p1 pos1 kp:Pos} (hc:X.calm=true) (hg:Gl X "max") (hm:X.mg "max"=none) (he:PE X e te) (hf:PE X f tf) (hs:starEach [e] X.env=[(false,eval e X.env)]:=by rfl) :
 PE X (.Call (.Name "max" p1) [e] [⟨some "default",f,kp⟩] pos1) (joa X.K te tf):=by
 intro tu s σ H Q I h;refine Kv (Js I hg hm boot_max ?_);refine PyProof.Rows.callWith_kw (rest:=[]) ?_ (by rw [hs];rfl) (by rw [hs];rfl);rw [hs];show wpAny _ _ (spliced ((false,eval e X.env)::backTo pos1 [])) _ _ s;refine yA (qu (he tu s σ H _ I h) fun u s1 ⟨x,H1,I1,rx,q1⟩=>yS (PyProof.Rows.kws_cons (qu (hf tu s1 σ H1 _ I1 q1) fun v s2 zz=>PyProof.Rows.kws_nil ?_)));obtain ⟨y,H2,I2,ry,p,ns,ex,hq,q0,q⟩:=zz;subst ex;obtain rfl:u=Value.ref p:=rx;show wpAny _ _ (call (.builtin "max") [.ref p] [(Str.ofString "default",v)]) _ _ _;obtain ⟨its,rv,pl,hz⟩:=I2.list hq;have hi:IntsAre its ns:=QI rv;obtain ⟨ys,hx⟩:=hi.allInts.items;have hl':s2.heap.IsList p (intItems ys):=hx ▸ pl.isList;have e1:ns=ys.toList.map (·.1):=by rw [<-nums_intItems,<- hx];exact (show numsOf its.toArray.toList=ns from hi.numsOf).symm
 refine QS.jga (I.ok.hd hc) hl' (fun t h' tk hn hk=>?_) fun h' tk hn hk=>?_
 . obtain ⟨⟨j,hj,ej⟩,hall⟩:=QS.jkd (numAt ys) (ys.size-1);refine ⟨.int _,H2,I2.kept hk,⟨t,rfl⟩,q _ ?_ fun a ha=>?_⟩
   . rw [ej,numAt_eq,e1];exact getD_mem (by rw [Yd,YJ];omega)
   . rw [e1] at ha;obtain ⟨j,hj,rfl⟩:=mem_getD ha;rw [Yd,YJ] at hj;rw [<-numAt_eq];exact hall j (by omega)
 . refine ⟨y,H2,I2.kept hk,ry,q0 ?_⟩;rw [e1];exact List.map_eq_nil_iff.mpr (List.eq_nil_of_length_eq_zero (by rw [YJ];exact hn))
end
section
variable [Fr]
def jif (fe ff:ef->Option D):ef->Option D:=fun ρ=>(fe ρ).bind fun x=>(ff ρ).bind fun y=>match x with
 | .lst l=>(J8 l).map fun ns=>match jb9 ns with
   | some m=>.int m
   | none=>y
 | _=>none
theorem joC {te tf:TE} {fe ff:ef->Option D} (he:zx te fe) (hf:EOk tf ff):EOk (joa Fr.K te tf) (jif fe ff):=fun G0 H0 G H σ ρ Q d e q k=>by
 obtain ⟨x,qa,q⟩:=bind_some q;obtain ⟨y,qb,q⟩:=bind_some q;split at q
 . rename_i l;obtain ⟨ns,q1,q2⟩:=map_some q;refine he G0 H0 G H σ ρ _ _ e qa fun u G1 H1 x1 r1=>?_;refine hf G0 H0 G1 H1 σ ρ _ y (e.grow x1) qb fun v G2 H2 x2 r2=>?_;obtain ⟨_,_,rfl,h,r⟩:=r1.of_lst;rw [Jd q1] at r;rw [r.ints] at h;refine ⟨_,ns,rfl,Or.inl (h.same x2.hh),fun z=>?_,fun M h1 h2=>?_⟩
   . subst z;cases q2;exact k _ G2 H2 (x1.trans x2) r2
   . cases em:jb9 ns with
     | none=>rw [jdd em] at h1;cases h1
     | some m=>
       rw [em] at q2;subst q2;obtain ⟨m1,m2⟩:=jeM em;have e:M=m:=by have:=h2 m m1;have:=m2 M h1;omega
       subst e;exact k _ G2 H2 (x1.trans x2) (.int _)
 . cases q
def jbn (fd fk fx:ef->Option D):ef->Option D:=fun ρ=>(fd ρ).bind fun d=>(fk ρ).bind fun k=>(fx ρ).bind fun x=>match d,k with
 | .dic ks ds,.int i=>some ((qB ks ds i).getD x)
 | _,_=>none
theorem jnt {td ty tx:TE} {fd fk fx:ef->Option D} (hd:zx td fd) (hk:zx ty fk) (hx:EOk tx fx):EOk (jl1 td ty tx) (jbn fd fk fx):=fun G0 H0 G H σ ρ Q d e q k=>by
 obtain ⟨x,qa,q⟩:=bind_some q;obtain ⟨y,qb,q⟩:=bind_some q;obtain ⟨z,qc,q⟩:=bind_some q;split at q
 . rename_i ks ds i _ _;refine hd G0 H0 G H σ ρ _ _ e qa fun u G1 H1 x1 r1=>?_;cases r1 with
   | @dic a _ vs _ h hl r=>
     refine ⟨a,rfl,.inl ⟨_,h⟩,hk G0 H0 G1 H1 σ ρ _ _ (e.grow x1) qb fun v G2 H2 x2 r2=>?_⟩
     (have hh:=RepT.of_int r2;subst hh)
     refine hx G0 H0 G2 H2 σ ρ _ z ((e.grow x1).grow x2) qc fun w G3 H3 x3 r3=>?_;cases q;have h':=(h.same x2.hh).same x3.hh;have r':=(r.mono x2.gg).mono x3.gg;obtain ⟨l1,l2⟩:=jaF r' i hl;refine ⟨_,.inl ⟨_,Sum.inl i,h',rfl,rfl⟩,?_⟩;cases hz:qB ks ds i with
     | none=>rw [l2 hz];exact k _ G3 H3 ‹"Y"› (by rw [hz];exact r3)
     | some d'=>obtain ⟨v',hv,rv⟩:=l1 d' hz;rw [hv];exact k _ G3 H3 ‹"Y"› (by rw [hz];exact rv)
 . cases q
end
end L2
namespace L2
open PySem PySem.Spec PyProof.Rows
section
variable {M:Fm} {o e f:Expr} {fa fb fx:ef->Option D}
theorem jlh {p1 apos pos2 pos1 kp cp:Pos} (hg:∀j,Gl (M.X j) "sorted") (hm:∀j,(M.X j).mg "sorted"=none) (ha:WT M o fa) (hbase:∀j,attributeBase o "items" (M.X j).env (eval o (M.X j).env)=eval o (M.X j).env:=by intro _;rfl) (hline:(apos.endLine == pos2.line)=true:=by rfl) :
 WO M ‹"V"› (jb4 fa):=
 let ⟨_,h1,h2⟩:=ha.h;⟨_,fun j=>jjN (M.calm j) (hg j) (hm j) (h1 j) (hbase j) hline (by rw [j5 rfl];rfl),@jkt M.fr _ _ h2⟩
theorem jnE {apos cpos:Pos} (hu:∀j,(M.X j).A.units+64<cLine) (ha:WT M o fa) (hb:WT M e fb) (hx:WE M f fx) (h':qd e=false:=by rfl) (h'':qd f=false:=by rfl)
 (hbase:∀j,attributeBase o "get" (M.X j).env (eval o (M.X j).env)=eval o (M.X j).env:=by intro _;rfl) (hline:‹"4"›=true:=by rfl):WE M (.Call (.Attribute o "get" apos) [e,f] [] cpos) (jbn fa fb fx):=
 let ⟨_,h1,h2⟩:=ha.h;let ⟨_,k1,k2⟩:=hb.h;let ⟨_,l1,l2⟩:=hx.h;⟨_,fun j=>jkh (jbe (hu j)) (h1 j) (k1 j) (l1 j) ⟨hbase j,by rw [j5 h',j5 h''];rfl,hline,by rw [j5 h',j5 h''];rfl⟩,@jnt M.fr _ _ _ _ _ _ h2 k2 l2⟩
theorem jo2 {p1 pos1 kp:Pos} (hg:∀j,Gl (M.X j) "max") (hm:∀j,(M.X j).mg "max"=none) (ha:WT M e fa) (hx:WE M f fx) (h':qd e=false:=by rfl):WE M (.Call (.Name "max" p1) [e] [⟨some "default",f,kp⟩] pos1) (jif fa fx):=let ⟨_,h1,h2⟩:=ha.h;let ⟨_,l1,l2⟩:=hx.h;⟨_,fun j=>by have:=jny (p1:=p1) (pos1:=pos1) (kp:=kp) (M.calm j) (hg j) (hm j) (h1 j) (l1 j) (by rw [j5 h'];rfl);rw [M.hK j] at this;exact this,@joC M.fr _ _ _ _ h2 l2⟩
end
end L2
namespace Q
open PySem PySem.Spec PyProof.Rows L2
def JW:FS:=(jC (Qq (qT (jw dLt (ja 1) (jk QX (jd (ja 0) jo))))
 (qM (jw qt (ja 0) (ja 1))) ql)
 (qM (eC (.int 0))))
def jW:List D->Option D:=ze 2 2 JW
def ZO:FS:=(jC (jP 3 (jw JT (jw zw (ja 0) (eC (.int 6))) (eC (.int 2))))
 (jC ‹"au"›
 (jC (Qq (qT (jw dEq (ja 2) (eC (.int 1))))
 (jC (jP 3 (jw JT (jw zw (ja 0) (eC (.int 50))) (eC (.int 25))))
 (jP 4 (jw zc (jw zc (ja 3) (eC (.int 1))) (jw zw (jw Q9 (ja 0) (eC (.int 50))) (eC (.int 40)))))) ql)
 (jC (Qq (qT (jw dEq (ja 2) (eC (.int 2))))
 (jC ‹"H"›
 (jP 4 (jw zc (jw zc (ja 3) (eC (.int 1))) (jw zZ (jw zw (jw zZ (ja 0) (eC (.int 1664525013))) (eC (.int 2147483629))) (jw Zb (eC (.int 10)) (eC (.int 5))))))) ql)
 (jC (jP 5 (jw qt (jK (JU (jd (eC (.int 2)) (jd (eC (.int 1)) (jd (eC (.int 3)) (jd (eC (.int 5)) (jd (jw Zb (eC (.int 10)) (eC (.int 15))) (jd (jw zc (eC (.int 1)) (jw zw (jw Q9 (ja 1) (eC (.int 8))) (eC (.int 50)))) (jd (eC (.int 0)) (jd (eC (.int 4)) jo)))))))))) (jw zw (ja 1) (eC (.int 8)))))
 (jC (jP 6 (jw zw (jw zZ (ja 1) (eC (.int 1103515245))) (eC (.int 2147483647))))
 (jC (jP 7 (jw zZ (ja 5) (jw JT (ja 4) (ja 3))))
 (jC (jP 8 (jw qt (jK (JU (jd (jw Q9 (jw zZ (ja 7) (jw zw (ja 6) (eC (.int 17)))) (eC (.int 16))) (jd (jw zw (ja 6) (jw zc (ja 7) (eC (.int 1)))) (jd (jk jcB (jd (ja 7) (jd (jw zw (ja 6) (eC (.int 9))) jo))) (jd (jn 7) jo)))))) (jw zw (jw Q9 (ja 6) (eC (.int 17))) (eC (.int 4)))))
 (qM (QW (jd (jn 3) (jd (jn 4) (jd (jn 8) (jd (jn 5) jo))))))))))))))
def Jj:List D->Option D:=ze 3 9 ZO
def JH:FS:=(jC (jP 2 (jk jW (jd (jn 0) (jd (jn 1) jo))))
 (jC (J2 3 (JU jo))
 (jC (JC (je4 (jd (jw qt (jK (JU (jd (eC (.int 3)) (jd (eC (.int 4)) (jd (eC (.int 2)) (jd (eC (.int 4)) (jd (eC (.int 1)) (jd (eC (.int 3)) (jd (eC (.int 0)) (jd (eC (.int 4)) jo)))))))))) (jw zw (ja 2) (eC (.int 8)))) jo)) (jA 4)
 (jC (jP 5 (jk jW (jd (jn 0) (jd (jw zc (jw zc (ja 1) (eC (.int 1))) (jw zZ (eC (.int 2)) (ja 4))) jo))))
 (Zf 3 (jk Jj (jd (jn 5) (jd (jk jW (jd (jn 0) (jd (jw zc (jw zc (ja 1) (eC (.int 2))) (jw zZ (eC (.int 2)) (ja 4))) jo))) (jd (jw zw (jw Q9 (ja 2) (eC (.int 8))) (eC (.int 3))) jo)))))))
 (jC (Qq ‹"T"›
 (jkv 3 (jkS (eC (.int 1))) (jw qt (ja 3) (eC (.int 0)))) ql)
 (jdI 3)))))
def Q2:List D->Option (List D):=Jk 2 6 JH
def jcQ:FS:=(qM (jeg (jjM "int" (ja 0)) (jmL (jjM "bool" (ja 0)))))
def jan:List D->Option D:=ze 1 1 jcQ
def jbt:FS:=(jC (Qq (bOr (jdj (qT (jjM "tuple" (ja 0)))) (qT (jw dNe (jk QX (jd (ja 0) jo)) (eC (.int 4)))))
 (qM (eC (.bl false))) ql)
 (jC (Qq (jdj (qT (jk ji3 (jd (jK (Qp (jbF (jn 0)) (jA 0) ‹"m"› (jk jan (jd (jn 0) jo)) 1 [])) jo))))
 (qM (eC (.bl false))) ql)
 (jC (jP 1 (jw JT (jw qt (ja 0) (eC (.int 1))) (jw qt (ja 0) (eC (.int 0)))))
 (qM (jeg (jw dGt (ja 1) (eC (.int 0))) (jeg (jw dGe (jw qt (ja 0) (eC (.int 3))) (eC (.int 0))) (jb8 dLe dLe (eC (.int 0)) (jw qt (ja 0) (eC (.int 2))) (jw zZ (jw qt (ja 0) (eC (.int 3))) (ja 1)))))))))
def Qy:List D->Option D:=ze 1 2 jbt
def jag:FS:=(qM (jeg (jjM "list" (ja 0)) (jk ji3 (jd (jK (Qp (qh (ja 0)) (jA 0) ‹"m"› (jk Qy (jd (jn 0) jo)) 1 [])) jo))))
def QY:List D->Option D:=ze 1 1 jag
def Jq:FS:=(Qq (jdj (qT (jk QY (jd (jn 0) jo))))
 (fun _=>.fail) ql)
def zH:List D->Option D:=ze 1 1 Jq
def QD:FS:=(jC (jP 3 (jk Qb (jd (jK (Qp (Zi (jd (ja 1) (jd (ja 2) jo))) ‹"ag"› (jdj (qT (ja 1))) (jn 0) 2 [])) jo)))
 (qM (jk jgu (jd (jw JT (ja 0) (ja 3)) (jd (eC (.int 0)) jo)))))
def jaq:List D->Option D:=ze 3 4 QD
def jgH:FS:=(zO (Qp (Zi (jd (ja 0) (jd (ja 1) jo))) ‹"ag"› (qT (jw dEq (ja 1) (ja 2))) (jn 0) 2 [2]))
def QO:List D->Option (List D):=Jk 3 3 jgH
def jcK:FS:=(jC (J2 3 (JU jo))
 (jC (JC (Qe (jd (jn 2) jo)) (Ju 2 (jM (jA 4) (jM (jA 5) JD)))
 (jC (jP 6 (eBM jcg (jK (eSl (ja 2) pNo (pSo (ja 4)))) (jd (jn 5) jo)))
 (Zf 3 (eIf (qT (ja 5)) (jw qt (ja 0) (ja 6)) (jw qt (ja 1) (ja 6))))))
 (jdI 3)))
def jay:List D->Option (List D):=Jk 3 7 jcK
def jea:FS:=(jC (JC (Qe (jd (jn 1) jo)) (Ju 2 (jM (jA 4) (jM (jA 5) JD)))
 (Qq (Z2 (qT (jw dGt (jw qt (ja 5) (ja 2)) (eC (.int 0)))) (qT (jw dLt (jw qt (ja 5) (ja 3)) (jw qt (jw qt (ja 0) (ja 4)) (ja 3)))))
 (qM (jn 4)) ql))
 (qM (eC .non)))
def QT:List D->Option D:=ze 4 6 jea
def jev:FS:=(jC (jdz 3 (jk jeV (jd (ja 2) jo)))
 (jC (J2 4 (jk jc7 (jd (ja 2) jo)))
 (jC (jP 5 (eC (.int 0)))
 (jC (JZ (qT (jw dLt (ja 5) (jk QX (jd (ja 4) jo))))
 (jC (jP 6 (jw qt (ja 4) (ja 5)))
 (jC (JC (je4 (jd (jk QX (jd (jw qt (ja 0) (eC (.int 0))) jo)) jo)) (jA 7)
 (jC (jP 8 (eIf (qT ‹"aw"›) (eC .non) ‹"L"›))
 (Qq (qT (jbH (ja 8)))
 (jC (Q8 3 (jn 7) (QW (jd (jn 8) (jd (jn 6) (jd (jn 7) jo)))))
 (Zf 4 (jn 7))) ql)))
 (jmP 5 (eC (.int 1)) (fun i j=>i+j)))))
 (jfJ 3)))))
def jbY:List D->Option D:=ze 3 9 jev
def jc5:FS:=(jC (J2 2 (JU jo))
 (jC (jP 3 (jw jhW (ja 0) (ja 1)))
 (jC (JZ (qT (jbH (ja 3)))
 (jC (Zf 2 (jn 3))
 (jP 3 (jw jbu (ja 0) (jw qt (ja 3) (eC (.int 1)))))))
 (zO (jk jky (jd (ja 2) jo))))))
def jaP:List D->Option (List D):=Jk 2 4 jc5
def jc1:FS:=(jC (jcU 3 (jlc (qh (ja 0)) (jA 0) ‹"m"› (jk jdF (jd (ja 0) jo)) 1 []))
 (jC (JC (qh (jn 1)) (Ju 3 (jM (jA 4) (jM (jA 5) (jM (jA 6) JD))))
 (jC (Qq (qT (jbH (ja 5)))
 (jc0 3 (ja 4) (jn 5) (jn 2) (fun i j=>i-j)) ql)
 (jc0 3 (ja 4) (jn 6) (jn 2) (fun i j=>i+j))))
 (jm9 3 (qM (jn 3)))))
def jaH:List D->Option D:=ze 3 7 jc1
def jca:FS:=(jC (jdz 3 jh9)
 (jC (JC (Qe (jd (jn 2) jo)) (Ju 2 (jM (jA 4) (jM (jA 5) JD)))
 (jC (jP 6 (jw dLt (jk Qb (jd (ja 5) jo)) (jw qt (ja 0) (ja 4))))
 (JC (Qe (jd (jn 5) jo)) (Ju 2 (jM (jA 7) (jM (jA 8) JD)))
 (Qq ‹"t"›
 (Q8 3 (jn 7) (QW (jd (jn 4) (jd (eC .non) (jd (jn 7) jo))))) ql))))
 (jfJ 3)))
def ja1:List D->Option D:=ze 3 9 jca
def je7:FS:=(qM (jk Qb (jd (jK (Qp (qh (ja 0)) (jA 0) ‹"m"› (jw qt (ja 0) (ja 1)) 1 [1])) jo)))
def QE:List D->Option D:=ze 2 2 je7
def QV:FS:=(jC (jP 4 (jw qt (jw qt (ja 3) (eC (.int 0))) (eC (.int 0))))
 (jC (J2 5 (JU (jd (jw JT (jw qt (ja 0) (ja 4)) (jk Qb (jd (jw qt (ja 2) (ja 4)) jo))) jo)))
 (jC (JC (qh (jn 3)) (Ju 3 (jM (jA 6) (jM (jA 7) (jM (jA 8) JD))))
 (jC (Zf 5 (jw JT (jw qt (jw qt (ja 1) (ja 6)) (ja 8)) (jw qt (jw qt (ja 2) (ja 6)) (ja 8))))
 (Qq (qT (jbH (ja 7)))
 (Zf 5 (jw qt (jw qt (ja 2) (ja 6)) (ja 7))) ql)))
 (qM (jk jfi (jd (ja 5) jo))))))
def Jx:List D->Option D:=ze 4 9 QV
def jcb:FS:=(JZ (qT (eC (.bl true)))
 (jC (jP 4 (jk jbY (jd (jn 1) (jd (jn 3) (jd (jk ja1 (jd (jn 0) (jd (jn 1) (jd (jn 3) jo)))) jo)))))
 (jC (jP 5 (jK (Qp (jd6 (jn 4)) (jA 0) (qT (jw dLt (jk QE (jd (jn 1) (jd (jn 0) jo))) (jw qt (ja 2) (ja 0)))) (jn 0) 1 [3,2])))
 (jC (Qq (qT (jw dEq (ja 5) (jK (JU jo))))
 (jC (jP 6 (jk Qb (jd (jK (Qp (qh (ja 3)) (jA 0) ‹"m"› (jk Qb (jd (ja 0) jo)) 1 [])) jo)))
 (qM (QW (jd (jn 6) (jd (jn 3) (jd (jK (Qp (je4 (jd (jk QX (jd (ja 2) jo)) jo)) (jA 0) (fun _=>some true) (jw (jas false) (ja 0) (ja 1)) 1 [4])) jo)))))) ql)
 (jC (jP 7 (jK (jk jaP (jd (jn 4) (jd (jw qt (ja 5) (eC (.int 0))) jo)))))
 (jC (jP 8 (jw JT (jw qt (ja 2) (jw qt (ja 5) (eC (.int 0)))) (jk QE (jd (jn 3) (jd (jw qt (ja 5) (eC (.int 0))) jo)))))
 (jP 3 (jk jaH (jd (jn 3) (jd (jn 7) (jd (jk jcB (jd (ja 8) (jd (jk Jx (jd (jn 0) (jd (jn 1) (jd (jn 3) (jd (jn 7) jo))))) jo))) jo)))))))))))
def Zv:List D->Option D:=ze 4 9 jcb
def Zo:FS:=(zO (Qp (qh (ja 0)) (jA 0) ‹"m"› (jK (jw jmq (jK (JU (jd (eC (.int 0)) jo))) (jk QX (jd (ja 0) jo)))) 1 []))
def J3:List D->Option (List D):=Jk 1 1 Zo
def qw (f_evened:List D->Option D):FS:=(jC (jP 4 (jK (Qp (Zi (jd (ja 0) (jd (ja 1) jo))) ‹"ag"› ‹"m"› (jk jaq (jd (jn 0) (jd (jn 1) (jd (jn 2) jo)))) 2 [3])))
 (jC (jP 5 (jK (Qp (Zi (jd (ja 0) (jd (ja 4) jo))) ‹"ag"› ‹"m"› (jw JT (ja 0) (ja 1)) 2 [])))
 (jC (jP 6 (jk f_evened (jd (jn 4) (jd (jK (Qp (qh (ja 1)) (jA 0) ‹"m"› (jK (jk QO (jd (jn 0) (jd (jn 1) (jd (eC (.bl true)) jo))))) 1 [3])) (jd (jK (jk QO (jd (jn 2) (jd (jn 3) (jd (eC (.bl true)) jo))))) jo)))))
 (jC (jP 7 (jk f_evened (jd (jn 5) (jd (jK (Qp (qh (ja 1)) (jA 0) ‹"m"› (jK (jk QO (jd (jn 0) (jd (jn 1) (jd (eC (.bl false)) jo))))) 1 [3])) (jd (jK (jk QO (jd (jn 2) (jd (jn 3) (jd (eC (.bl false)) jo))))) jo)))))
 (zO (Qp (Zi (jd (ja 6) (jd (ja 7) jo))) (Ju 2 (jM (jA 0) (jM (jA 1) JD))) (fun _=>some true) (jK (jk jay (jd (jn 0) (jd (jn 1) (jd (jn 2) jo))))) 2 [3]))))))
def jaG (f_evened_apart:List D->Option (List D)):FS:=(jC (jP 3 (jw Q9 (jk Qb (jd (ja 0) jo)) (jk Qb (jd (ja 2) jo))))
 (jC (jP 4 (jk Zv (jd (jn 0) (jd (jn 1) (jd (jK (Qp (qh (ja 2)) (jA 0) ‹"m"› (jw zZ (ja 1) (ja 0)) 1 [3])) (jd (jK (jk J3 (jd (jn 1) jo))) jo))))))
 (jC (Qq (qT (jw dLt (jw qt (ja 4) (eC (.int 0))) (jw zZ (ja 3) (jk Qb (jd (ja 2) jo)))))
 (qM (jK (jk f_evened_apart (jd (jn 0) (jd (jn 1) (jd (jn 2) (jd (jw qt (ja 4) (eC (.int 2))) jo))))))) ql)
 (jC (jP 5 (jk Zv (jd (jn 0) (jd (jn 1) (jd (jK (Qp (qh (ja 2)) (jA 0) ‹"m"› (jw zZ (jw zc (ja 1) (eC (.int 1))) (ja 0)) 1 [3])) (jd (jw qt (ja 4) (eC (.int 1))) jo))))))
 (jC (Qq (qT (jw dLt (jw qt (ja 5) (eC (.int 0))) (jk Qb (jd (ja 0) jo))))
 (qM (jK (jk f_evened_apart (jd (jn 0) (jd (jn 1) (jd (jn 2) (jd (jw qt (ja 5) (eC (.int 2))) jo))))))) ql)
 (qM (jw qt (ja 5) (eC (.int 1)))))))))
def zi:Nat->List D->Option D
 | 0=>fun _=>none
 | k+1=>ze 3 6 (jaG (Jk 4 8 (qw (zi k))))
def f_evened:List D->Option D:=zi 17
def QC:FS:=(zO (Qp (qh (ja 0)) (jA 0) ‹"m"› (jw qt (ja 0) (eC (.int 2))) 1 []))
def QM:List D->Option (List D):=Jk 1 1 QC
def jaV:FS:=(jC (jP 1 (jK (Qp (qh (ja 0)) (jA 0) ‹"m"› (jw qt (ja 0) (eC (.int 0))) 1 [])))
 (jC (jP 2 (jK (Qp (qh (ja 0)) (jA 0) ‹"m"› (jw qt (ja 0) (eC (.int 1))) 1 [])))
 (zO (jfs (jd (jK (jw jcf (ja 1) (ja 2))) jo)))))
def jc2:List D->Option (List D):=Jk 1 3 jaV
def J0:FS:=(jC (jP 1 (jK (jk jc2 (jd (jn 0) jo))))
 (zO (eLZ (jd (ja 1) (jd (jK (eSl (ja 1) (pSo (eC (.int 1))) pNo)) jo)))))
def Jo:List D->Option (List D):=Jk 1 2 J0
def jcr:FS:=(qM (jw JT (jw qt (ja 0) (eC (.int 1))) (jw qt (ja 0) (eC (.int 0)))))
def Qu:List D->Option D:=ze 1 1 jcr
def jgI:FS:=(jC (Qq (Z2 (qT (jw dLe (jw qt (ja 0) (eC (.int 0))) (jw qt (ja 1) (eC (.int 0))))) (qT (jw dLe (jw qt (ja 1) (eC (.int 1))) (jw qt (ja 0) (eC (.int 1))))))
 (qM (jw zZ (jw qt (ja 0) (eC (.int 3))) (jk Qu (jd (jn 1) jo)))) ql)
 (qM (eC (.int 0))))
def je2:List D->Option D:=ze 2 2 jgI
def QP:FS:=(jC (jP 1 (jK (jk Jo (jd (jn 0) jo))))
 (zO (Qp (qh (ja 0)) (jA 0) (fun _=>some true) (jK (Qp (qh (ja 1)) (jA 0) (fun _=>some true) (jk je2 (jd (jn 1) (jd (jn 0) jo))) 1 [0])) 1 [1])))
def jat:List D->Option (List D):=Jk 1 2 QP
def Jz:FS:=(zO (Qp (qh (jK (jk Jo (jd (jn 0) jo)))) (jA 0) ‹"m"› (jk Qu (jd (jn 0) jo)) 1 []))
def JB:List D->Option (List D):=Jk 1 1 Jz
def jg8:FS:=(jC (jft (jk zH (jd (jn 0) jo)))
 (jC (Qq (qT (jw dEq (ja 0) (jK (JU jo))))
 (qM (jK (JU jo))) ql)
 (qM (jk f_evened (jd (jK (jk QM (jd (jn 0) jo))) (jd (jK (jk jat (jd (jn 0) jo))) (jd (jK (jk JB (jd (jn 0) jo))) jo)))))))
def jbh:List D->Option D:=ze 1 1 jg8
def jar:FS:=(jC (jP 2 (jw Q9 (ja 0) (ja 1)))
 (jC (jP 3 (jw zw (ja 0) (ja 1)))
 (jC (J2 4 (JU (jd (QW (jd (jn 2) (jd (jw JT (ja 1) (ja 3)) jo))) jo)))
 (jC (Qq (qT (jw dGt (ja 3) (eC (.int 0))))
 (Zf 4 (QW (jd (jw zc (ja 2) (eC (.int 1))) (jd (jn 3) jo)))) ql)
 (jdI 4)))))
def QH:List D->Option (List D):=Jk 2 5 jar
def jau:FS:=(jC (jdz 2 jh9)
 (jC (JC (Qe (jd (jK (jk Jo (jd (jn 0) jo))) jo)) (Ju 2 (jM (jA 3) (jM (jA 4) JD)))
 (JC (qh (jK (jk QH (jd (jk QE (jd (jn 1) (jd (jn 3) jo))) (jd (jk Qu (jd (jn 4) jo)) jo))))) (Ju 2 (jM (jA 5) (jM (jA 6) JD)))
 (Q8 2 (jn 5) (jw zc (jbn (ja 2) (ja 5) (eC (.int 0))) (ja 6)))))
 (zO (jb4 (ja 2)))))
def Qz:List D->Option (List D):=Jk 2 7 jau
def jhm:FS:=(jC (jP 1 (jk jbh (jd (jn 0) jo)))
 (qM (jif (jK (Qp (qh (jK (jk Qz (jd (jn 0) (jd (jn 1) jo))))) (Ju 2 (jM (jA 0) (jM (jA 1) JD))) (fun _=>some true) (jn 0) 2 [])) (eC (.int 0)))))
def Qf:List D->Option D:=ze 1 2 jhm
def jhD:FS:=(jC (jP 1 (jK (jk Q2 (jd (jn 0) (jd (eC (.int 3)) jo)))))
 (jC (jP 2 (jk jW (jd (jn 0) (jd (eC (.int 0)) jo))))
 (jC (jP 3 (jk Qf (jd (jK (jk jdF (jd (ja 1) jo))) jo)))
 (jC (jP 4 (jw zw (ja 2) (jw zc (jk QX (jd (ja 1) jo)) (eC (.int 1)))))
 (jC (Qq (qT (jw dNe (jk Qf (jd (jK (jw jcf (jK (eSl (ja 1) (pSo (ja 4)) pNo)) (jK (eSl (ja 1) pNo (pSo (ja 4)))))) jo)) (ja 3)))
 (qM (eC (.bl false))) ql)
 (jC (jP 5 (jw JT (jw zw (jk jW (jd (jn 0) (jd (eC (.int 1)) jo))) (jw zZ (eC (.int 2)) (jw Zb (eC (.int 10)) (eC (.int 14))))) (jw Zb (eC (.int 10)) (eC (.int 14)))))
 (jC (Qq (qT (jw dNe (jk Qf (jd (jK (Qp (qh (ja 1)) (Ju 4 (jM (jA 0) (jM (jA 1) (jM (jA 2) (jM (jA 3) JD))))) ‹"m"› (QW (jd (jw zc (ja 0) (ja 4)) (jd (jw zc (ja 1) (ja 4)) (jd (jn 2) (jd (jn 3) jo))))) 4 [5])) jo)) (ja 3)))
 (qM (eC (.bl false))) ql)
 (jC (Qq (qT (jw dNe (jk Qf (jd (jK (Qp (qh (ja 1)) (Ju 4 (jM (jA 0) (jM (jA 1) (jM (jA 2) (jM (jA 3) JD))))) ‹"m"› (QW (jd (jw JT (eC (.int 1)) (ja 1)) (jd (jw JT (eC (.int 1)) (ja 0)) (jd (jn 2) (jd (jn 3) jo))))) 4 [])) jo)) (ja 3)))
 (qM (eC (.bl false))) ql)
 (jC (Qq (qT (jw dEq (ja 1) (jK (JU jo))))
 (qM (jw dEq (ja 3) (eC (.int 0)))) ql)
 (jC (jP 4 (jw zw (jw Q9 (ja 2) (eC (.int 5))) (jk QX (jd (ja 1) jo))))
 (jC (jkf (Ju 4 (jM (jA 6) (jM (jA 7) (jM (jA 8) (jM (jA 9) JD))))) (jw qt (ja 1) (ja 4)))
 (jC (jP 10 (jk Qf (jd (jK (jw jcf (jK (eSl (ja 1) pNo (pSo (ja 4)))) (jK (eSl (ja 1) (pSo (jw zc (ja 4) (eC (.int 1)))) pNo)))) jo)))
 (jC (Qq (bOr (qT (jw dGt (ja 10) (ja 3))) (qT (jw dGt (ja 3) (jw zc (ja 10) (ja 9)))))
 (qM (eC (.bl false))) ql)
 (jC (jP 11 (jw zw (jk jW (jd (jn 0) (jd (eC (.int 2)) jo))) (eC (.int 10))))
 (jC (J2 12 (JU (jd (QW (jd (jw JT (ja 6) (ja 11)) (jd (jn 7) (jd (jn 8) (jd (jn 9) jo))))) (jd (QW (jd (jn 6) (jd (jw zc (ja 7) (ja 11)) (jd (jn 8) (jd (jn 9) jo))))) jo))))
 (jC (Zf 12 (QW (jd (jn 6) (jd (jn 7) (jd (jn 8) (jd (jk jcB (jd (jw Zb (eC (.int 10)) (eC (.int 15))) (jd (jw zc (ja 9) (ja 11)) jo))) jo))))))
 (qM (jw dLe (jk Qf (jd (jK (jw jcf (jK (jw jcf (jK (eSl (ja 1) pNo (pSo (ja 4)))) (jK (JU (jd (jw qt (ja 12) (jw zw (jw Q9 (jk jW (jd (jn 0) (jd (eC (.int 2)) jo))) (eC (.int 10))) (eC (.int 3)))) jo))))) (jK (eSl (ja 1) (pSo (jw zc (ja 4) (eC (.int 1)))) pNo)))) jo)) (ja 3)))))))))))))))))))
def jnT:List D->Option D:=ze 1 13 jhD
def cell (ns:List Int) (k:Int):Int:=ns.getD k.toNat 0
theorem jpE {l:List Int}:QX [.scr l]=some (.int (l.length:Int)):=rfl
theorem jbb (ns:List Int) (k:Int) (h:0<=k):jW [.scr ns,.int k]=some (.int (cell ns k)):=by
 unfold jW JW;simp (disch:=omega) only [ze,Yx,yI,kN,Nat.reduceAdd,jei,jC,Qq,qT,jw,ja,qK,List.map_cons,Kw,K9,KL,km,kF,Y5,YL,jk,jd,jo,Yy,Yu,jpE,Zc,qM,ql,eC,Kl];by_cases hk:k<ns.length
 . have e:qt (.scr ns) (.int k)=some (.int (cell ns k)):=by
    show (atI ns k).map D.int=_;unfold atI ixN;rw [if_pos h,if_pos hk];have hi:k.toNat<ns.length:=by omega
    simp [cell,hi,Yc]
   simp only [hk,decide_true,e]
 . have e:cell ns k=0:=by unfold cell;rw [Yc,YI (by omega)];rfl
   simp only [hk,decide_false,e]
def jj (s:Ship):D:=.tup [.int s.b,.int s.e,.int s.n,.int s.m]
theorem jkZ {ns:List Int} {i:Int} (h0:0<=i) (h1:i<ns.length):∃m,m∈ns/\qt (.lst (ns.map D.int)) (.int i)=some (.int m):=by obtain ⟨d,hd,e⟩:=jrQ (ds:=ns.map D.int) h0 (by rw [Yd];exact h1);obtain ⟨m,hm,rfl⟩:=YX.mp hd;exact ⟨m,hm,e⟩
theorem jql {f x:Int} (h0:0<=f) (h1:0<=x) (h2:x<=16):0<=f*x/16/\f*x/16<=f:=by have a:0<=f*x:=Kh h0 h1;have b:f*x<=f*16:=YK h2 h0;omega
section
variable {β:Type} {ρ:ef}
theorem ju {f:List D->Option β} {fa:ef->Option (List D)} {ds:List D} {x:β} (ha:fa ρ=some ds) (h:f ds=some x):jk f fa ρ=some x:=by unfold jk;rw [ha];exact h
theorem jm {g:D->D->Option β} {fa fb:ef->Option D} {x y:D} {z:β} (h1:fa ρ=some x) (h2:fb ρ=some y) (h3:g x y=some z):jw g fa fb ρ=some z:=by unfold jw;rw [h1,h2];exact h3
theorem jS {fe:ef->Option D} {i:Nat} {d:D} (h:fe ρ=some d):jP i fe ρ=.next (ρ.set i (.sh d)):=by unfold jP;rw [h]
theorem jX {fo:ef->Option (List D)} {l:List D} (h:fo ρ=some l):jK fo ρ=some (.lst l):=by unfold jK;rw [h];rfl
theorem ji {fa:ef->Option D} {fs:ef->Option (List D)} {d:D} {ds:List D} (h1:fa ρ=some d) (h2:fs ρ=some ds):jd fa fs ρ=some (d::ds):=by unfold jd;rw [h1,h2];rfl
theorem jR {fa:ef->Option D} {b:Bool} (h:fa ρ=some (.bl b)):qT fa ρ=some b:=by unfold qT;rw [h]
theorem zE {fc:ef->Option Bool} {F:FS} (h:fc ρ=some false):Qq fc F ql ρ=.next ρ:=by unfold Qq;rw [h];rfl
theorem ZD {fc:ef->Option Bool} {F F':FS} (h:fc ρ=some true):Qq fc F F' ρ=F ρ:=by unfold Qq;rw [h]
theorem jnY {ga gb:ef->Option Bool} {b:Bool} (h:ga ρ=some false) (h2:gb ρ=some b):bOr ga gb ρ=some b:=by unfold bOr;rw [h];exact h2
theorem jfC {ga:ef->Option Bool} {b:Bool} (h:ga ρ=some b):jdj ga ρ=some (!b):=by unfold jdj;rw [h];rfl
theorem Qn {fe:ef->Option D} {d:D} (h:fe ρ=some d):qM fe ρ=.ret d:=by unfold qM;rw [h]
theorem jhB {fa fb:ef->Option D} {d:D} (h:fa ρ=some (.bl true)) (h2:fb ρ=some d):jeg fa fb ρ=some d:=by unfold jeg;rw [jR h];exact h2
theorem joW {i j:Int} (h:i=j):dEq (.int i) (.int j)=some (.bl true):=by rw [joG,YN h]
theorem jmg {i j:Int} (h:i=j):dNe (.int i) (.int j)=some (.bl false):=by rw [js5,YN h];rfl
theorem joq {i j:Int} (h:i<=j):dGt (.int i) (.int j)=some (.bl false):=by rw [jcy,YU (by omega)]
theorem Q6 {C:Res->Prop} {F:FS} {r:Res} (h:F ρ=r) (k:C r):C (F ρ):=by rw [h];exact k
theorem qQ {F F':FS} {ρ':ef} (h:F ρ=.next ρ'):jC F F' ρ=F' ρ':=by unfold jC;rw [h]
theorem jdL {ga gb:ef->Option Bool} {b c:Bool} (h:ga ρ=some b) (h2:gb ρ=some c):Z2 ga gb ρ=some (b && c):=by unfold Z2;rw [h];cases b <;> simp [h2]
theorem jkI {fc:ef->Option Bool} {F F':FS} {b:Bool} (h:fc ρ=some b):Qq fc F F' ρ=if b=true then F ρ else F' ρ:=by unfold Qq;rw [h];cases b <;> rfl
theorem jhK {i j:Int} (h:¬i=j):dEq (.int i) (.int j)=some (.bl false):=by rw [joG,YU h]
theorem jfU {fs:ef->Option (List D)} {l:List D} (h:fs ρ=some l) (h2:l.length<16777216):JU fs ρ=some l:=by unfold JU;rw [h];show (if zG l.length=true then _ else _)=_;rw [if_pos (qP h2)]
theorem jdG {fs:ef->Option (List D)} {l:List D} (h:fs ρ=some l) (h2:l.length<16777216):QW fs ρ=some (.tup l):=by unfold QW;rw [h];show (if zG l.length=true then _ else _)=_;rw [if_pos (qP h2)]
end
theorem jh3 {ρ:ef} {i:Nat} {fa:ef->Option D} {ds:List D} {d:D} (h:ρ[i]?=some (.ow ds)) (hf:fa ρ=some d) (hs:ds.length<16777216):Zf i fa ρ=.next (ρ.set i (.ow (ds++[d]))):=by unfold Zf;rw [h,hf];show (if zG ds.length=true then _ else _)=_;rw [if_pos (qP hs)]
theorem jaz {a n:Nat} {m:FS} {ds:List D} {ρ:ef} {d:D} (h1:ds.length=a) (h2:qK n ds=ρ) (h:∀C:Res->Prop,C (.ret d)->C (m ρ)):ze a n m ds=some d:=by unfold ze;rw [if_pos h1,h2];exact h (fun r=>jei r=some d) rfl
theorem jE {C:Res->Prop} {F F':FS} {ρ:ef} (ρ':ef) (h:F ρ=.next ρ') (k:C (F' ρ')):C (jC F F' ρ):=by unfold jC;rw [h];exact k
structure Ok0 (s:Ship):Prop where
 ok:s.Ok
 long:s.e-s.b<=214748362800001
 lo:-100000000000000<=s.b
 hi:s.b<=114748364600000
theorem zy (x:Int) {k:Int} (h:0<k):0<=x%k/\x%k<k:=⟨yz _ (Int.ne_of_gt h),yn _ h⟩
theorem jml (one two kind:Int):∃s:Ship,Ok0 s/\Jj [.int one,.int two,.int kind]=some (jj s):=by
 have key:∃b e:Int,b<e/\e-b<=214748362800001 /\ -100000000000000<=b/\b<=114748364600000/\∀R:FS,
  (jC (jP 3 (jw JT (jw zw (ja 0) (eC (.int 6))) (eC (.int 2)))) (jC ‹"au"› (jC (Qq (qT (jw dEq (ja 2) (eC (.int 1))))
  (jC (jP 3 (jw JT (jw zw (ja 0) (eC (.int 50))) (eC (.int 25))))
  (jP 4 (jw zc (jw zc (ja 3) (eC (.int 1))) (jw zw (jw Q9 (ja 0) (eC (.int 50))) (eC (.int 40)))))) ql)
  (jC (Qq (qT (jw dEq (ja 2) (eC (.int 2))))
  (jC ‹"H"›
  (jP 4 (jw zc (jw zc (ja 3) (eC (.int 1))) (jw zZ (jw zw (jw zZ (ja 0) (eC (.int 1664525013))) (eC (.int 2147483629))) (jw Zb (eC (.int 10)) (eC (.int 5))))))) ql) R))))
    [.sh (.int one),.sh (.int two),.sh (.int kind),.un,.un,.un,.un,.un,.un]=R [.sh (.int one),.sh (.int two),.sh (.int kind),.sh (.int b),.sh (.int e),.un,.un,.un,.un]:=by
  have b50:=zy one (show (0:Int)<50 by decide);have b40:=zy (one/50) (show (0:Int)<40 by decide);have b6:=zy one (show (0:Int)<6 by decide);have b5:=zy (one/6) (show (0:Int)<5 by decide);have bx:=zy (one*1103515245) (show (0:Int)<2147483647 by decide);have by':=zy (one*1664525013) (show (0:Int)<2147483629 by decide)
  by_cases h1:kind=1
  . clear b6 b5 bx by'
    refine ⟨one%50-25,one%50-25+1+one/50%40,?_,?_,?_,?_,fun R=>
      (qQ (jS (jm ‹"Q"› rfl zm))).trans ((qQ ‹"aT"›).trans
      ((qQ ((ZD (jR (jm rfl rfl (joW h1)))).trans ((qQ (jS (jm ‹"Q"› rfl zm))).trans ‹"aT"›))).trans
      (qQ (zE (jR (jm rfl rfl (jhK (by omega))))))))⟩
    all_goals (generalize one%50=u at *;generalize one/50%40=v at *;omega)
  . by_cases h2:kind=2
    . clear b6 b5 b50 b40;refine ⟨(one*1103515245%2147483647-1000000000)*100000,(one*1103515245%2147483647-1000000000)*100000+1+one*1664525013%2147483629*100000,?_,?_,?_,?_,fun R=>
       (qQ (jS (jm ‹"Q"› rfl zm))).trans ((qQ ‹"aT"›).trans
       ((qQ (zE (jR (jm rfl rfl (jhK h1))))).trans
       (qQ ((ZD (jR (jm rfl rfl (joW h2)))).trans ((qQ (jS (jm (jm (jm (jm rfl rfl (ZI (by decide) (by decide))) rfl (jU (by decide))) (jm rfl rfl jrj) zm) (jm rfl rfl jnV) (ZI (by decide) (by decide))))).trans (jS (jm (jm rfl rfl jZ) (jm (jm (jm rfl rfl (ZI (by decide) (by decide))) rfl (jU (by decide))) (jm rfl rfl jnV) (ZI (by decide) (by decide))) jZ)))))))⟩
      all_goals (generalize one*1103515245%2147483647=u at *;generalize one*1664525013%2147483629=v at *;omega)
    . clear bx by' b50 b40
      refine ⟨one%6-2,one%6-2+1+one/6%5,?_,?_,?_,?_,fun R=>
       (qQ (jS (jm ‹"Q"› rfl zm))).trans ((qQ ‹"aT"›).trans
       ((qQ (zE (jR (jm rfl rfl (jhK h1))))).trans (qQ (zE (jR (jm rfl rfl (jhK h2)))))))⟩
      all_goals (generalize one%6=u at *;generalize one/6%5=v at *;omega)
 obtain ⟨b,e,h1,h2,h3,h4,hk⟩:=key;obtain ⟨m,hm,em⟩:=jkZ (ns:=[2,1,3,5,1000000000000000,1+two/8%50,0,4]) (i:=two%8) (zy two (show (0:Int)<8 by decide)).1 (zy two (show (0:Int)<8 by decide)).2;have m01:0<=m/\m<=1000000000000000:=by
  have:=zy (two/8) (show (0:Int)<50 by decide);simp only [Yk,Yw,KD] at hm;generalize two/8%50=u at *
  clear hk h1 h2 h3 h4 em;rcases hm with rfl | rfl | rfl | rfl | rfl | rfl | rfl | rfl
  . exact ⟨by decide,by decide⟩
  . exact ⟨by decide,by decide⟩
  . exact ⟨by decide,by decide⟩
  . exact ⟨by decide,by decide⟩
  . exact ⟨by decide,by decide⟩
  . omega
  . exact ⟨by decide,by decide⟩
  . exact ⟨by decide,by decide⟩
 clear hm;obtain ⟨m0,m1⟩:=m01;have full0:0<=m*(e-b):=Kh m0 (by omega);obtain ⟨x,hx,hx0⟩:∃x,two*1103515245%2147483647=x/\0<=x:=⟨_,rfl,(zy _ (by decide)).1⟩;obtain ⟨f,hf⟩:∃f,m*(e-b)=f:=⟨_,rfl⟩;rw [hf] at full0;obtain ⟨n,hn,en⟩:=jkZ (ns:=[f*(x%17)/16,x%(f+1),if x%9<f then x%9 else f,f]) (i:=x/17%4) (zy (x/17) (show (0:Int)<4 by decide)).1 (zy (x/17) (show (0:Int)<4 by decide)).2;have n01:0<=n/\n<=f:=by
  have a1:=jql full0 (x:=x%17) (zy x (by decide)).1 (Int.le_of_lt_add_one (zy x (show (0:Int)<17 by decide)).2);have a2:0<=x%(f+1):=yz _ (by omega);have a3:x%(f+1)<f+1:=yn _ (by omega);simp only [Yk,Yw,KD] at hn;rcases hn with rfl | rfl | rfl | rfl
  . exact a1
  . omega
  . split <;> omega
  . omega
 clear hn;refine ⟨⟨b,e,n,m⟩,⟨⟨h1,by show e-b<=_;omega,by show _<=b;omega,by show b<=_;omega,m0,m1,n01.1,by show n<=m*(e-b);rw [hf];exact n01.2⟩,h2,h3,h4⟩,?_⟩;unfold Jj;refine jaz (ρ:=[.sh (.int one),.sh (.int two),.sh (.int kind),.un,.un,.un,.un,.un,.un]) rfl rfl fun C fin=>?_;unfold ZO;rw [hk];refine jE [.sh (.int one),.sh (.int two),.sh (.int kind),.sh (.int b),.sh (.int e),.sh (.int m),.un,.un,.un] (jS (jm (jX (jfU (ji rfl (ji rfl (ji rfl (ji rfl (ji (jm rfl rfl jkj) (ji (jm rfl ‹"h"› jZ) (ji rfl (ji rfl rfl)))))))) (show 8<16777216 by decide))) ‹"Q"› em)) ?_;refine jE [.sh (.int one),.sh (.int two),.sh (.int kind),.sh (.int b),.sh (.int e),.sh (.int m),.sh (.int x),.un,.un] (hx ▸ jS (jm (jm rfl rfl (ZI (by decide) (by decide))) rfl (jU (by decide)))) ?_;refine jE [.sh (.int one),.sh (.int two),.sh (.int kind),.sh (.int b),.sh (.int e),.sh (.int m),.sh (.int x),.sh (.int f),.un] (hf ▸ jS (jm rfl (jm rfl rfl zm) (jbq (by omega) (by omega)))) ?_;refine jE [.sh (.int one),.sh (.int two),.sh (.int kind),.sh (.int b),.sh (.int e),.sh (.int m),.sh (.int x),.sh (.int f),.sh (.int n)] (jS (jm (jX (jfU (ji (jm (jm rfl ‹"Q"› (ZI (Int.lt_of_lt_of_le (by decide) (zy x (show (0:Int)<17 by decide)).1) (kP (zy x (show (0:Int)<17 by decide)).2 (by decide)))) rfl (zr (by decide) (by decide))) (ji (jm rfl (jm rfl rfl jZ) (jU (by omega))) (ji (ju (ji rfl (ji ‹"Q"› rfl)) rfl) (ji rfl rfl)))) (show 4<16777216 by decide))) ‹"h"› en)) ?_;exact Q6 (Qn (jdG (l:=[.int b,.int e,.int n,.int m]) (ji rfl (ji rfl (ji rfl (ji rfl rfl)))) (show 4<16777216 by decide))) fin
theorem jis {m:D->ef->Option ef} {B:FS} (P:List D->ef->Prop) (hs:∀d ds ρ,P (d::ds) ρ->∃ρ1 ρ2,m d ρ=some ρ1/\B ρ1=.next ρ2/\P ds ρ2):∀(ds:List D) (ρ:ef),P ds ρ->∃ρ',Jp m B ds ρ=.next ρ'/\P [] ρ'
 | [],ρ,h=>⟨ρ,rfl,h⟩
 | d::ds,ρ,h=>by obtain ⟨ρ1,ρ2,h1,h2,h3⟩:=hs d ds ρ h;obtain ⟨ρ',h4,h5⟩:=jis P hs ds ρ2 h3;exact ⟨ρ',by simp only [Jp,h1,h2];exact h4,h5⟩
theorem jdU {C:Res->Prop} {F F':FS} {ρ:ef} {d:D} (h:F ρ=.ret d) (k:C (.ret d)):C (jC F F' ρ):=by unfold jC;rw [h];exact k
theorem jlu {C:Res->Prop} {fi:ef->Option (List D)} {m:D->ef->Option ef} {B F':FS} {ρ:ef} (ds:List D) (P:List D->ef->Prop) (hi:fi ρ=some ds) (h0:P ds ρ)
 (hs:∀d ds ρ,P (d::ds) ρ->∃ρ1 ρ2,m d ρ=some ρ1/\B ρ1=.next ρ2/\P ds ρ2) (k:∀ρ',P [] ρ'->C (F' ρ')):C (jC (JC fi m B) F' ρ):=by
 obtain ⟨ρ',h1,h2⟩:=jis P hs ds ρ h0;exact jE ρ' (by unfold JC;rw [hi];exact h1) (k ρ' h2)
theorem jaE (lo:Int) (n:Nat):rng lo (n+1)=.int lo::rng (lo+1) n:=by unfold rng;rw [List.range_succ_eq_map,List.map_cons,YC];simp only [Int.natCast_zero,KS,List.cons.injEq,true_and];refine yF fun i _=>?_;simp only [Function.comp,Nat.succ_eq_add_one,Int.natCast_add,Int.natCast_one,D.int.injEq];omega
theorem jeF {fa:ef->Option (List D)} {ρ:ef} {j:Int} (h:fa ρ=some [.int j]) (h0:0<=j) (h1:j<4611686018427387904):je4 fa ρ=some (rng 0 j.toNat):=by unfold je4;rw [h];simp only;rw [if_pos ⟨by omega,by omega⟩]
theorem jkz {Pr:Ship->Prop} (hP:∀one two kind:Int,∃s:Ship,Pr s/\Jj [.int one,.int two,.int kind]=some (jj s)) (ns:List Int) (st:Int) (h0:0<=st):∃fl:List Ship,(∀s∈fl,Pr s)/\fl.length<=4/\Q2 [.scr ns,.int st]=some (fl.map jj):=by
 suffices main:∀C:Res->Prop,(∀fl:List Ship,(∀s∈fl,Pr s)->fl.length<=4->C (.retO (fl.map jj)))->C (JH [.sh (.scr ns),.sh (.int st),.un,.un,.un,.un]) by exact main (fun r=>∃fl:List Ship,(∀s∈fl,Pr s)/\fl.length<=4/\jdt r=some (fl.map jj)) fun fl h1 h2=>⟨fl,h1,h2,rfl⟩
 intro C fin;unfold JH;have ec:=jbb ns st h0;generalize cell ns st=c at ec;refine jE [.sh (.scr ns),.sh (.int st),.sh (.int c),.un,.un,.un] (jS (ju rfl ec)) ?_;refine jE [.sh (.scr ns),.sh (.int st),.sh (.int c),.ow [],.un,.un] rfl ?_;obtain ⟨n,hn,en⟩:=jkZ (ns:=[3,4,2,4,1,3,0,4]) (i:=c%8) (by omega) (by show c%8<8;omega);have n01:0<=n/\n<=4:=by simp only [Yk,Yw,KD] at hn;omega
 clear hn;refine jlu (rng 0 n.toNat) (fun ds ρ=>∃(fl:List Ship) (k:Nat) (lo:Int) (x y:Slot),ds=rng lo k/\0<=lo/\fl.length+k<=4/\(∀s∈fl,Pr s)/\ρ=‹"6"›)
  (jeF (ji (jm (jX (jfU (l:=[3,4,2,4,1,3,0,4].map D.int) rfl (show 8<16777216 by decide))) ‹"Q"› en) rfl) n01.1 (by omega)) ⟨[],n.toNat,0,.un,.un,rfl,by omega,by simp;omega,by simp,rfl⟩ ?_ ?_
 . rintro d ds ρ ⟨fl,k,lo,x,y,hd,hlo,hl,hok,rfl⟩;cases k with
   | zero=>cases hd
   | succ k=>
     rw [jaE] at hd;cases hd;obtain ⟨s,hs,es⟩:=hP (cell ns (st+1+2*lo)) (cell ns (st+2+2*lo)) (c/8%3);refine ⟨_,[.sh (.scr ns),.sh (.int st),.sh (.int c),.ow ((fl++[s]).map jj),.sh (.int lo),.sh (.int (cell ns (st+1+2*lo)))],rfl,?_,⟨fl++[s],k,lo+1,_,_,rfl,by omega,by simp;omega,fun s' h'=>?_,rfl⟩⟩
     . rw [Y7];exact (qQ (jS (ju (ji rfl (ji (jm (jm rfl rfl jZ) (jm rfl rfl (jbq (by decide) (by decide))) jZ) rfl)) (jbb ns (st+1+2*lo) (by omega))))).trans (jh3 (ds:=fl.map jj) rfl (ju (ji rfl (ji (ju (ji rfl (ji (jm (jm rfl rfl jZ) (jm rfl rfl (jbq (by decide) (by decide))) jZ) rfl)) (jbb ns (st+2+2*lo) (by omega))) (ji ‹"h"› rfl))) es) (by rw [Yd];omega))
     . rcases YQ.mp h' with h' | h'
       . exact hok s' h'
       . rw [Yn.mp h'];exact hs
 . rintro ρ ⟨fl,k,lo,x,y,hd,hlo,hl,hok,rfl⟩;have hk:k=0:=by
    cases k with
    | zero=>rfl
    | succ k=>rw [jaE] at hd;cases hd
   subst hk;have el:QX [.lst (fl.map jj)]=some (.int (fl.length:Int)):=by show some (D.int ((fl.map jj).length:Int))=_;rw [Yd]
   have hif:∀(ρ:ef) (F:FS),ρ=‹"6"›->Qq ‹"T"› F ql ρ=if (decide (1<(fl.length:Int)) && decide (c/24%4=1))=true then F ρ else ql ρ:=fun ρ F hρ=>by subst hρ;exact jkI (jdL (jR (jm (ju rfl el) rfl jcy)) (jR (jm ‹"h"› rfl joG)))
   by_cases hb:1<(fl.length:Int)/\c/24%4=1
   . cases fl with
     | nil=>simp at hb
     | cons s fl=>
       rw [Yx] at hb;refine jE [.sh (.scr ns),.sh (.int st),.sh (.int c),.ow (((s::fl).set fl.length s).map jj),x,y] ?_ ?_
       . have e0:qt (.lst (jj s::fl.map jj)) (.int 0)=some (jj s):=ZA (by decide) rfl;have e1:ixN (fl.length+1) (-1)=some fl.length:=by unfold ixN;rw [if_neg (by decide),if_pos (by omega)];congr 1;omega
         rw [hif _ _ rfl,if_pos (by rw [YN (by rw [Yx];exact hb.1),YN hb.2];rfl)];simp (disch:=omega) only [jw,ja,List.map_cons,Y5,YL,Yu,Yx,eC,jkv,jkS,Int.reduceNeg,K0,KZ];simp only [Yx,Yd,e0,e1,List.map_set,List.map_cons]
       . refine fin ((s::fl).set fl.length s) (fun s' h'=>?_) (by simpa using hl);rcases List.mem_or_eq_of_mem_set h' with h' | h'
         . exact hok s' h'
         . rw [h'];exact hok s Ye
   . refine jE ‹"6"› ?_ (fin fl hok (by omega));rw [hif _ _ rfl,if_neg (fun q=>hb ⟨yQ (Bool.and_eq_true_iff.mp q).1,yQ (Bool.and_eq_true_iff.mp q).2⟩)];rfl
theorem jhg {m:D->ef->Option ef} {ft:ef->Option Bool} {fe:ef->Option D} {ρ:ef} (g:D->D):∀(ds:List D),(∀d∈ds,∃ρ1,m d ρ=some ρ1/\ft ρ1=some true/\fe ρ1=some (g d))->jak m ft fe ρ ds=some (ds.map g)
 | [],_=>rfl
 | d::ds,h=>by obtain ⟨ρ1,h1,h2,h3⟩:=h d Ye;simp only [jak,h1,h2,h3,Yu,Kl,jhg g ds fun x hx=>h x (Yf _ hx),Yy,List.map_cons]
theorem qI {fi:ef->Option (List D)} {m:D->ef->Option ef} {ft:ef->Option Bool} {fe:ef->Option D} {n:Nat} {ix:List Nat} {ρ:ef} {ds es:List D} (h1:fi ρ=some ds) (h2:ds.length<16777216) (h3:jak m ft fe (zU n ix ρ) ds=some es):Qp fi m ft fe n ix ρ=some es:=by unfold Qp;rw [h1,Yu,if_pos (qP h2),h3]
theorem jiD (bs:List Bool):ji3 [.lst (bs.map D.bl)]=some (.bl (bs.all id)):=by show ((jdk (bs.map D.bl)).map fun ns=>D.bl (ns.all id))=_;rw [ZM];rfl
theorem jeY (bs:List Int):Qb [.lst (bs.map D.int)]=some (.int bs.sum):=by show ((J8 (bs.map D.int)).map fun ns=>D.int ns.sum)=_;rw [JL];rfl
theorem jkT {fe:ef->Option D} {ρ:ef} {l:List D} (h:fe ρ=some (.tup l)):jbF fe ρ=some l:=by unfold jbF;rw [h]
theorem qo {fe:ef->Option D} {ρ:ef} {l:List D} (h:fe ρ=some (.lst l)):qh fe ρ=some l:=by unfold qh;rw [h]
def plain:Nat->D->Prop
 | n+1,.lst l=>∀d∈l,plain n d
 | n+1,.tup l=>∀d∈l,plain n d
 | _,.lst _=>False
 | _,.tup _=>False
 | _,.scr _=>False
 | _,.dic _ _=>False
 | _,_=>True
theorem jem {l:List D}:dEq (.lst l) (.lst [])=some (.bl l.isEmpty):=by show (eqF 40 (.lst l) (.lst [])).map D.bl=_;cases l <;> rfl
theorem jmE {α:Type} {f:α->D} {l:List α} {k:Int} {a:α} (h0:0<=k) (h:l[k.toNat]?=some a):qt (.lst (l.map f)) (.int k)=some (f a):=ZA h0 (by rw [List.getElem?_map,h];rfl)
def j9 (p:Int×Int):D:=.tup [.int p.1,.int p.2]
theorem jiB (k:Int):∀l:List Int,(ins k l).length<=l.length+1
 | []=>by simp [ins]
 | x::l=>by
   have:=jiB k l;unfold ins;split
   . simp
   . split
     . simp
     . simp;omega
theorem jir:∀l:List Int,(srt l).length<=l.length
 | []=>by simp [srt]
 | x::l=>by have h1:=jir l;have h2:=jiB x (srt l);show (ins x (srt l)).length<=l.length+1;omega
theorem jaO (fl:List Ship):(zA fl).length<=2*fl.length:=by have:=jir (hrs fl);unfold zA;simp [hrs] at this ⊢;omega
theorem jbj {fl:List Ship} (k:Int) (g:Ship->Int) (hg:∀s,qt (jj s) (.int k)=some (.int (g s))) (ρ:ef) (i:Nat) (hi:ja i ρ=some ‹"aF"›) (hl:fl.length<1000) :
 Qp (qh (ja i)) (jA 0) ‹"m"› (jw qt (ja 0) (eC (.int k))) 1 [] ρ=some ((fl.map g).map D.int):=by
 refine qI (qo hi) (by rw [Yd];omega) ?_;rw [jhg (fun d=>match qt d (.int k) with | some x=>x | none=>.non) _ fun d hd=>?_]
 . rw [YC,YC];congr 1;refine yF fun s _=>?_;show (match qt (jj s) (.int k) with | some x=>x | none=>D.non)=_;rw [hg s];rfl
 . obtain ⟨s,_,rfl⟩:=YX.mp hd;refine ⟨[.sh (jj s)],rfl,rfl,?_⟩;show qt (jj s) (.int k)=_;rw [hg s]
theorem jgt (fl:List Ship) (hl:fl.length<20):jc2 [.lst (fl.map jj)]=some ((zA fl).map D.int):=by
 suffices main:∀C:Res->Prop,C (.retO ((zA fl).map D.int))->C (jaV [.sh ‹"aF"›,.un,.un]) by exact main (fun r=>jdt r=some ((zA fl).map D.int)) rfl
 intro C fin;unfold jaV;refine jE [.sh ‹"aF"›,.sh (.lst ((fl.map (·.b)).map D.int)),.un] (by unfold jP jK;rw [jbj 0 (·.b) (fun s=>jam) _ 0 rfl (by omega)];rfl) ?_
 refine jE [.sh ‹"aF"›,.sh (.lst ((fl.map (·.b)).map D.int)),.sh (.lst ((fl.map (·.e)).map D.int))] (by unfold jP jK;rw [jbj 1 (·.e) (fun s=>ZE) _ 0 rfl (by omega)];rfl) ?_
 have last:∀r,r=Res.retO ((zA fl).map D.int)->C r:=fun r h=>by rw [h];exact fin
 refine last _ ?_;have hcat:jcf (.lst ((fl.map (·.b)).map D.int)) (.lst ((fl.map (·.e)).map D.int))=some ((hrs fl).map D.int):=by show (if _ then some _ else none)=_;rw [if_pos (by simp only [Yd];show fl.length+fl.length<=2 ^ 24;omega),<- Y7];rfl
 unfold zO jfs;simp (disch:=omega) only [jd,jK,jw,ja,Y5,YL,Yu,jo,Yy];rw [hcat];simp (disch:=omega) only [Yy,Yu];rw [JL,Yu,if_pos (by simp [hrs];omega)];rfl
theorem jlw {l:List D}:L2.Qc l (some 1) none=l.tail:=by
 unfold L2.Qc;rw [HT.sIx_none,show (1:Int)=((1:Nat):Int) from rfl,HT.sIx_nat];cases l with
 | nil=>rfl
 | cons d l=>simp
theorem JX (fl:List Ship) (hl:fl.length<20):Jo [.lst (fl.map jj)]=some ((jx fl).map j9):=by
 suffices main:∀C:Res->Prop,C (.retO ((jx fl).map j9))->C (J0 [.sh ‹"aF"›,.un]) by exact main (fun r=>jdt r=some ((jx fl).map j9)) rfl
 intro C fin;unfold J0;refine jE [.sh ‹"aF"›,.sh (.lst ((zA fl).map D.int))] (by simp (disch:=omega) only [jP,jK,jk,jd,jn,YL,jo,Yy,Yu,K0,KZ];simp only [jgt fl hl];simp (disch:=omega) only [Yy]) ?_;have last:∀r,r=Res.retO ((jx fl).map j9)->C r:=fun r h=>by rw [h];exact fin
 refine last _ ?_;have hb:=jaO fl;unfold zO eLZ;simp (disch:=omega) only [jd,ja,Y5,YL,jK,eSl,pSo,eC,pNo,Yy,jo,Yu];rw [jlw];simp only [Yd];rw [qP (by omega)];unfold jaf jx;rw [<-List.map_tail,List.zip_map,YC];rfl
theorem JM (fl:List Ship):(zA fl).Pairwise (· < ·):=jao
theorem mem_bnds {fl:List Ship} {k:Int}:k∈zA fl ↔ k∈hrs fl:=je0
theorem Zs:∀{l:List Int},l.Pairwise (· < ·)->∀p∈l.zip l.tail,p.1<p.2/\p.1∈l/\p.2∈l
 | [],_,p,hp=>by simp at hp
 | [x],_,p,hp=>by simp at hp
 | x::y::l,h,p,hp=>by
   have h':=YB.mp h;simp only [KC,Y1,Yk] at hp;rcases hp with rfl | hp
   . exact ⟨h'.1 y Ye,Ye,Yf _ Ye⟩
   . obtain ⟨a,b,c⟩:=Zs h'.2 p hp;exact ⟨a,Yf _ b,Yf _ c⟩
theorem Zn {fl:List Ship} {p:Int×Int} (h:p∈jx fl):p.1<p.2/\p.1∈zA fl/\p.2∈zA fl:=Zs (JM fl) p h
theorem Qo {x:Int} {l:List Int} (h:(x::l).Pairwise (· < ·)):∀y∈x::l,x<=y:=fun y hy=>by
 rcases Yk.mp hy with rfl | hy
 . exact YR _
 . exact Y6 ((YB.mp h).1 y hy)
def jc8:Int->List Int->Int
 | x,[]=>x
 | _,y::l=>jc8 y l
theorem jgq:∀(x:Int) (l:List Int),(x::l).Pairwise (· < ·)->∀y∈x::l,y<=jc8 x l
 | x,[],_,y,hy=>by simp at hy;subst hy;exact YR _
 | x,z::l,h,y,hy=>by
   have h':=YB.mp h;have ih:=jgq z l h'.2;show y<=jc8 z l;rcases Yk.mp hy with rfl | hy
   . have:=h'.1 z Ye;have:=ih z Ye;omega
   . exact ih y hy
theorem ji7:∀(x:Int) (l:List Int),jc8 x l∈x::l
 | x,[]=>Ye
 | x,y::l=>Yf _ (ji7 y l)
def inS (h:Int) (p:Int×Int):Bool:=decide (p.1<=h) && decide (h<p.2)
theorem jqw (h:Int):∀(x:Int) (l:List Int),(x::l).Pairwise (· < ·)->(((x::l).zip l).filter (inS h)).length=if x<=h/\h<jc8 x l then 1 else 0
 | x,[],_=>by
   show 0=if x<=h/\h<x then 1 else 0
   rw [if_neg (by omega)]
 | x,y::l,hr=>by
   have h':=YB.mp hr;have ih:=jqw h y l h'.2;have xy:=h'.1 y Ye;have yl:=jgq y l h'.2 y Ye;show _=if x<=h/\h<jc8 y l then 1 else 0
   generalize jc8 y l=z at *
   rw [Y1,Ka];by_cases c:x<=h/\h<y
   . have e1:inS h (x,y)=true:=by simp [inS,c.1,c.2]
     have e2:¬(y<=h/\h<z):=by omega
     rw [if_neg e2] at ih;rw [if_pos e1,if_pos ⟨c.1,by omega⟩,Yx,ih]
   . have e1:¬inS h (x,y)=true:=by simp [inS];omega
     rw [if_neg e1,ih];by_cases d:y<=h/\h<z
     . rw [if_pos d,if_pos ⟨by omega,d.2⟩]
     . rw [if_neg d,if_neg (by omega)]
theorem jbV (l:List Int):(l.zip l.tail).length=l.length-1:=by simp <;> omega
theorem QU {l:List Int} {i:Nat} (h:i<l.length):qt (.lst (l.map D.int)) (.int i)=some (.int (l.getD i 0)):=by refine ZA (by omega) ?_;rw [Yv,List.getElem?_map,Yb h,Yc,Yb h];rfl
def Jl (s:Ship) (p:Int×Int):Int:=if s.b<=p.1/\p.2<=s.e then s.m*(p.2-p.1) else 0
def jh (r:List Int):D:=.lst (r.map D.int)
theorem jdT (s:Ship):∀(x:Int) (l:List Int),(x::l).Pairwise (· < ·)->(((x::l).zip l).map (Jl s)).sum=s.m*(((((x::l).zip l).filter fun p=>decide (s.b<=p.1/\p.2<=s.e)).map fun p=>p.2-p.1).sum)
 | x,[],_=>by simp
 | x,y::l,h=>by
   have h':=YB.mp h;have ih:=jdT s y l h'.2;rw [Y1,List.map_cons,List.sum_cons,ih,Ka];by_cases c:s.b<=x/\y<=s.e
   . rw [if_pos (by simpa using c),List.map_cons,List.sum_cons,Int.mul_add];simp [Jl,c]
   . rw [if_neg (by simpa using c)];simp [Jl,c]
theorem jfq (b e:Int):∀(x:Int) (l:List Int),(x::l).Pairwise (· < ·)->b<=x->x<=e->e∈x::l->((((x::l).zip l).filter fun p=>decide (b<=p.1/\p.2<=e)).map fun p=>p.2-p.1).sum=e-x
 | x,[],_,_,_,he=>by simp at he;subst he;simp
 | x,y::l,h,hb,hxe,he=>by
   have h':=YB.mp h;have hxy:=h'.1 y Ye;rw [Y1,Ka];by_cases c:y<=e
   . have he':e∈y::l:=by
       rcases Yk.mp he with z | z
       . omega
       . exact z
     have ih:=jfq b e y l h'.2 (by omega) c he';rw [if_pos (by simp;exact ⟨hb,c⟩),List.map_cons,List.sum_cons,ih];show y-x+(e-y)=e-x;omega
   . have hx:e=x:=by
       rcases Yk.mp he with z | z
       . exact z
       . have:=Qo h'.2 e z;omega
     rw [if_neg (by simp;intro _;omega)];have:(((y::l).zip l).filter fun p=>decide (b<=p.1/\p.2<=e))=[]:=List.filter_eq_nil_iff.mpr fun p hp=>by have q:=Zs h'.2 p (by simpa using hp);have:=Qo h'.2 p.1 q.2.1;simp;intro _;omega
     rw [this,hx];simp
theorem jiv (b e:Int) (hbe:b<=e):∀(l:List Int),l.Pairwise (· < ·)->b∈l->e∈l->(((l.zip l.tail).filter fun p=>decide (b<=p.1/\p.2<=e)).map fun p=>p.2-p.1).sum=e-b
 | [],_,hb,_=>by cases hb
 | x::l,h,hb,he=>by
   by_cases c:b=x
   . subst c;exact jfq b e b l h (YR _) hbe he
   . have hb':b∈l:=by rcases Yk.mp hb with z | z;exact absurd z c;exact z
     have h':=YB.mp h;have hxb:=h'.1 b hb';have he':e∈l:=by rcases Yk.mp he with z | z;omega;exact z
     have ih:=jiv b e hbe l h'.2 hb' he';cases l with
     | nil=>cases hb'
     | cons y l=>rw [KC,Y1,Ka,if_neg (by simp;intro z;omega)];exact ih
theorem jjr {fl:List Ship} {s:Ship} (hs:s∈fl) (hk:s.Ok):((jx fl).map (Jl s)).sum=s.m*(s.e-s.b):=by
 have hb:s.b∈zA fl:=mem_bnds.mpr (Yt _ (yv hs));have he:s.e∈zA fl:=mem_bnds.mpr (YF _ (yv hs));have hr:=JM fl;unfold jx;have e1:=jiv s.b s.e (by have:=hk.lt;omega) (zA fl) hr hb he;cases hl:zA fl with
 | nil=>rw [hl] at hb;cases hb
 | cons x l=>rw [hl] at e1 hr;rw [KC] at e1 ⊢;rw [jdT s x l hr,e1]
theorem jlY {s:Ship} (hs:s.Ok) {p:Int×Int} (h:p.1<p.2):0<=Jl s p:=by
 unfold Jl;split
 . exact Kh hs.m0 (by omega)
 . omega
theorem Zj (p:Int×Int):Qu [j9 p]=some (.int (p.2-p.1)):=by unfold Qu jcr j9;simp (disch:=omega) only [ze,Yx,yI,kN,jei,qM,jw,ja,qK,List.map_cons,Kw,K9,KL,km,kF,YL,eC,Yu,ZE,jam,zm,Kl]
def j8 (P:List (List Int)) (j:Nat):Int:=(P.map fun r=>r.getD j 0).sum
theorem jah {P:List (List Int)} {j:Nat} (hj:∀r∈P,j<r.length) (hl:P.length<1000):QE [.lst (P.map jh),.int j]=some (.int (j8 P j)):=by
 have lc:Qp (qh (ja 0)) (jA 0) ‹"m"› (jw qt (ja 0) (ja 1)) 1 [1] [.sh ‹"E"›,.sh (.int j)]=some ((P.map fun r=>r.getD j 0).map D.int):=by
  refine qI (qo rfl) (by rw [Yd];omega) ?_;rw [jhg (fun d=>match qt d (.int j) with | some x=>x | none=>.non) _ fun d hd=>?_]
  . rw [YC,YC];congr 1;refine yF fun r hr=>?_;show (match qt (jh r) (.int j) with | some x=>x | none=>D.non)=_;unfold jh;rw [QU (hj r hr)];rfl
  . obtain ⟨r,hr,rfl⟩:=YX.mp hd;refine ⟨[.sh (jh r),.sh (.int j)],rfl,rfl,?_⟩;show qt (jh r) (.int j)=_;unfold jh;rw [QU (hj r hr)]
 unfold QE je7;simp (disch:=omega) only [ze,Yx,yI,kN,Nat.reduceAdd,jei,qM,jk,jd,jK,qK,List.map_cons,Kw,K9,KL,km,kF,jo,Yy,Kl];simp only [lc];simp (disch:=omega) only [Yy,Yu];rw [jeY];rfl
/-- the stretch in which an hour lies -/
theorem jcI {l:List D} (i:Nat) (h:i<=l.length):L2.Qc l none (some (i:Int))=l.take i:=by unfold L2.Qc;rw [HT.sIx_none,HT.sIx_nat];simp <;> omega
theorem jf1 {l:List D} (i:Nat) (h:i<=l.length):L2.Qc l (some (i:Int)) none=l.drop i:=by unfold L2.Qc;rw [HT.sIx_none,HT.sIx_nat];rw [Nat.min_eq_left h];refine K3 ?_;rw [KF];omega
theorem ja0 {i:Nat} {fo:ef->Option (List D)} {ρ:ef} {l:List D} (h:fo ρ=some l):jP i (jK fo) ρ=.next (ρ.set i (.sh (.lst l))):=by unfold jP jK;rw [h];rfl
def js (f:Nat->Int):Nat->Int
 | 0=>0
 | n+1=>js f n+f n
theorem jf {f g:Nat->Int}:∀{n:Nat},(∀j,j<n->f j=g j)->js f n=js g n
 | 0,_=>rfl
 | n+1,h=>by unfold js;rw [jf fun j hj=>h j (by omega),h n (by omega)]
theorem qA {f g:Nat->Int}:∀{n:Nat},(∀j,j<n->f j<=g j)->js f n<=js g n
 | 0,_=>YR _
 | n+1,h=>by unfold js;have:=qA (n:=n) fun j hj=>h j (by omega);have:=h n (by omega);omega
theorem qV {f g:Nat->Int}:∀{n:Nat},js (fun j=>f j+g j) n=js f n+js g n
 | 0=>rfl
 | n+1=>by unfold js;rw [qV];omega
theorem qH {f g:Nat->Int}:∀{n:Nat},js (fun j=>f j-g j) n=js f n-js g n
 | 0=>rfl
 | n+1=>by unfold js;rw [qH];omega
theorem qi {f:Nat->Int} {c:Int}:∀{n:Nat},js (fun j=>c*f j) n=c*js f n
 | 0=>by simp [js]
 | n+1=>by unfold js;rw [qi,Int.mul_add]
theorem jV {f:Nat->Int} {n:Nat} (h:∀j,j<n->f j=0):js f n=0:=by
 rw [jf (g:=fun _=>0) h];induction n with
 | zero=>rfl
 | succ n ih=>unfold js;rw [ih fun j hj=>h j (by omega)];rfl
theorem JG {f:Nat->Int} {n:Nat} (h:∀j,j<n->0<=f j):0<=js f n:=by rw [<-jV (f:=fun _=>0) (n:=n) fun _ _=>rfl];exact qA h
theorem ZS {f:Nat->Int}:∀{n:Nat},js f (n+1)=f 0+js (fun j=>f (j+1)) n
 | 0=>by simp [js]
 | n+1=>by have:=ZS (f:=f) (n:=n);show js f (n+1)+f (n+1)=f 0+(js (fun j=>f (j+1)) n+f (n+1));omega
theorem jaK:∀(l:List Int),l.sum=js (fun j=>l.getD j 0) l.length
 | []=>rfl
 | x::l=>by rw [List.sum_cons,Yx,ZS,jaK l];rfl
theorem QQ {α:Type} (f:α->Int) (d:α):∀(l:List α),(l.map f).sum=js (fun j=>f (l.getD j d)) l.length
 | []=>rfl
 | x::l=>by rw [List.map_cons,List.sum_cons,Yx,ZS,QQ f d l];rfl
theorem jh4 (pr:Bool->Bool):∀(xs:List Int) (ms:List Bool),xs.length=ms.length->(((xs.zip ms).filter fun q=>pr q.2).map (·.1)).sum=js (fun j=>if pr (ms.getD j false)=true then xs.getD j 0 else 0) xs.length
 | [],ms,_=>by simp [js]
 | x::xs,[],h=>by simp at h
 | x::xs,m::ms,h=>by
   have ih:=jh4 pr xs ms (by simpa using h);rw [Y1,Ka,Yx,ZS];have e0:(if pr ((m::ms).getD 0 false)=true then (x::xs).getD 0 0 else 0)=if pr m=true then x else 0:=rfl
   have e1:(fun j=>if pr ((m::ms).getD (j+1) false)=true then (x::xs).getD (j+1) 0 else 0)=fun j=>if pr (ms.getD j false)=true then xs.getD j 0 else 0:=rfl
   rw [e0,e1,<- ih];dsimp only;by_cases hm:pr m=true
   . rw [if_pos hm,if_pos hm,List.map_cons,List.sum_cons]
   . rw [if_neg hm,if_neg hm,KP]
theorem jtb {C:Res->Prop} {fi:ef->Option (List D)} {m:D->ef->Option ef} {B F':FS} {ρ:ef} (n:Nat) (P:Nat->ef->Prop) (hi:fi ρ=some (rng 0 n)) (h0:P 0 ρ)
 (hs:∀(j:Nat) ρ,j<n->P j ρ->∃ρ1 ρ2,m (.int (j:Int)) ρ=some ρ1/\B ρ1=.next ρ2/\P (j+1) ρ2) (k:∀ρ',P n ρ'->C (F' ρ')):C (jC (JC fi m B) F' ρ):=by
 refine jlu (rng 0 n) (fun ds ρ=>∃j k:Nat,ds=rng (j:Int) k/\j+k=n/\P j ρ) hi ⟨0,n,rfl,by omega,h0⟩ ?_ ?_
 . rintro d ds ρ ⟨j,k,hd,hjk,hP⟩;cases k with
   | zero=>cases hd
   | succ k=>rw [jaE] at hd;cases hd;obtain ⟨ρ1,ρ2,h1,h2,h3⟩:=hs j ρ (by omega) hP;exact ⟨ρ1,ρ2,h1,h2,j+1,k,rfl,by omega,h3⟩
 . rintro ρ ⟨j,k',hd,hjk,hP⟩;cases k' with
   | zero=>
     have e:j=n:=by omega
     subst e;exact k ρ hP
   | succ k=>rw [jaE] at hd;cases hd
theorem jox {α:Type} {C:Res->Prop} {fi:ef->Option (List D)} {m:D->ef->Option ef} {B F':FS} {ρ:ef} (src:α->D) (l:List α) (P:List α->ef->Prop) (hi:fi ρ=some (l.map src)) (h0:P [] ρ)
 (hs:∀(pre:List α) (a:α) (q:List α) ρ,l=pre++a::q->P pre ρ->∃ρ1 ρ2,m (src a) ρ=some ρ1/\B ρ1=.next ρ2/\P (pre++[a]) ρ2) (k:∀ρ',P l ρ'->C (F' ρ')):C (jC (JC fi m B) F' ρ):=by
 refine jlu (l.map src) (fun ds ρ=>∃pre q:List α,ds=q.map src/\l=pre++q/\P pre ρ) hi ⟨[],l,rfl,rfl,h0⟩ ?_ ?_
 . rintro d ds ρ ⟨pre,q,hd,hl,hP⟩;cases q with
   | nil=>cases hd
   | cons a q=>cases hd;obtain ⟨ρ1,ρ2,h1,h2,h3⟩:=hs pre a q ρ hl hP;exact ⟨ρ1,ρ2,h1,h2,pre++[a],q,rfl,by rw [hl];simp,h3⟩
 . rintro ρ ⟨pre,q,hd,hl,hP⟩;cases q with
   | nil=>rw [yW] at hl;subst hl;exact k ρ hP
   | cons a q=>cases hd
theorem Ji {α:Type} {m:D->ef->Option ef} {ft:ef->Option Bool} {fe:ef->Option D} {ρ:ef} (src g:α->D):∀(l:List α),(∀a∈l,∃ρ1,m (src a) ρ=some ρ1/\ft ρ1=some true/\fe ρ1=some (g a))->jak m ft fe ρ (l.map src)=some (l.map g)
 | [],_=>rfl
 | d::ds,h=>by obtain ⟨ρ1,h1,h2,h3⟩:=h d Ye;simp only [List.map_cons,jak,h1,h2,h3,Yu,Kl,Ji src g ds fun x hx=>h x (Yf _ hx),Yy]
theorem jef {α:Type} {m:D->ef->Option ef} {ft:ef->Option Bool} {fe:ef->Option D} {ρ:ef} (src g:α->D) (p:α->Bool):∀(l:List α),(∀a∈l,∃ρ1,m (src a) ρ=some ρ1/\ft ρ1=some (p a)/\fe ρ1=some (g a))->jak m ft fe ρ (l.map src)=some ((l.filter p).map g)
 | [],_=>rfl
 | d::ds,h=>by
   obtain ⟨ρ1,h1,h2,h3⟩:=h d Ye;have ih:=jef src g p ds fun x hx=>h x (Yf _ hx);cases hp:p d with
   | true=>simp only [List.map_cons,jak,h1,h2,hp,h3,Yu,Kl,ih,Yy,Ka]
   | false=>simp only [List.map_cons,jak,h1,h2,hp,Yu,Y2,yL,ih,Ka]
theorem jaL {α β:Type} (f:α->D) (g:β->D) (xs:List α) (ys:List β):jaf (xs.map f) (ys.map g)=(xs.zip ys).map fun q=>.tup [f q.1,g q.2]:=by unfold jaf;rw [List.zip_map,YC];rfl
theorem sum_ints {l:List Int}:Qb [.lst (l.map D.int)]=some (.int l.sum):=jeY l
theorem J6 {a n:Nat} {m:FS} {ds:List D} {ρ:ef} (Pr:D->Prop) (h1:ds.length=a) (h2:qK n ds=ρ) (h:∀C:Res->Prop,(∀d,Pr d->C (.ret d))->C (m ρ)):∃d,Pr d/\ze a n m ds=some d:=by unfold ze;rw [if_pos h1,h2];exact h (fun r=>∃d,Pr d/\jei r=some d) fun d hd=>⟨d,hd,rfl⟩
theorem jb3 {a n:Nat} {m:FS} {ds l:List D} {ρ:ef} (h1:ds.length=a) (h2:qK n ds=ρ) (h:∀C:Res->Prop,C (.retO l)->C (m ρ)):Jk a n m ds=some l:=by unfold Jk;rw [if_pos h1,h2];exact h (fun r=>jdt r=some l) rfl
theorem ZG {fe:ef->Option (List D)} {ρ:ef} {l:List D} (h:fe ρ=some l):zO fe ρ=.retO l:=by unfold zO;rw [h]
theorem jmD {α:Type} {m:D->ef->Option ef} {ft:ef->Option Bool} {fe:ef->Option D} {ρ:ef} (src g:α->D) (p:α->Bool) (l:List α) (h:∀a∈l,∃ρ1,m (src a) ρ=some ρ1/\ft ρ1=some (p a)/\fe ρ1=some (g a)):jak m ft fe ρ (l.map src)=some ((l.filter p).map g):=jef src g p l h
def QG (fl:List Ship) (j:Nat):Int×Int:=(jx fl).getD j (0,0)
def zW (fl:List Ship) (j:Nat):Int:=(QG fl j).2-(QG fl j).1
def jI (x:Int):Int:=if x>0 then x else 0
theorem joY (x:Int):(if 0>x then 0 else x)=jI x:=by unfold jI;split <;> split <;> omega
def Sm (s:Ship):Prop:=0<=s.m/\s.m<=1000000000000000
theorem jrH {s:Ship} (h:s.Ok):Sm s:=⟨h.m0,h.m1⟩
theorem jg2 {fl:List Ship} {j:Nat} (h:j<(jx fl).length):(jx fl)[j]?=some (QG fl j):=by unfold QG;rw [Yc,Yb h];rfl
theorem QL {fl:List Ship} {j:Nat} (h:j<(jx fl).length):QG fl j∈jx fl:=Yz (jg2 h)
theorem jbw {fl:List Ship} (h:fl.length<20):(jx fl).length<40:=by have:=jaO fl;have:=jbV (zA fl);unfold jx;omega
theorem jku (n:Nat):rng 0 n=(List.range n).map fun j:Nat=>D.int (j:Int):=by unfold rng;refine yF fun i _=>?_;rw [KP]
def j2 (P:List (List Int)) (i s:Nat):Int:=(P.getD i []).getD s 0
def Shape (n m:Nat) (P:List (List Int)):Prop:=P.length=n/\∀r∈P,r.length=m
theorem Shape.row {n m:Nat} {P:List (List Int)} (h:Shape n m P) {i:Nat} (hi:i<n):P[i]?=some (P.getD i [])/\(P.getD i []).length=m:=by
 have hi':i<P.length:=by rw [h.1];exact hi
 have e:P[i]?=some (P.getD i []):=by rw [Yc,Yb hi'];rfl
 exact ⟨e,h.2 _ (Yz e)⟩
theorem Q3 {n m:Nat} {P:List (List Int)} (h:Shape n m P) {i:Nat} (hi:i<n):qt ‹"E"› (.int i)=some (jh (P.getD i [])):=by refine ZA (by omega) ?_;rw [Yv,List.getElem?_map,(h.row hi).1];rfl
theorem QF {n m:Nat} {P:List (List Int)} (h:Shape n m P) {i s:Nat} (hi:i<n) (hs:s<m):qt (jh (P.getD i [])) (.int s)=some (.int (j2 P i s)):=by unfold jh;exact QU (by rw [(h.row hi).2];exact hs)
theorem ZK {α:Type} (src:α->D) (d:α) (l:List α):Zp (l.map src)=(List.range l.length).map fun j:Nat=>.tup [.int (j:Int),src (l.getD j d)]:=by
 unfold Zp;apply Ko;intro i;rw [List.getElem?_map,List.getElem?_zipIdx,List.getElem?_map,List.getElem?_map];by_cases hi:i<l.length
 . rw [Yb hi,yG hi];simp [Yb hi,Yc]
 . rw [YI (by omega),YI (by simp;omega)];rfl
theorem jie {m:D->ef->Option ef} {B:FS} (g:Nat->D) (n:Nat) (P:Nat->ef->Prop) (R:D->Prop)
 (hs:∀(j:Nat) ρ,j<n->P j ρ->∃ρ1,m (g j) ρ=some ρ1/\((∃ρ2,B ρ1=.next ρ2/\P (j+1) ρ2)\/∃d,B ρ1=.ret d/\R d)):∀(k j:Nat) (ρ:ef),j+k=n->P j ρ->
 (∃ρ',Jp m B ((List.range' j k).map g) ρ=.next ρ'/\P n ρ')\/∃d,Jp m B ((List.range' j k).map g) ρ=.ret d/\R d
 | 0,j,ρ,hj,hP=>.inl ⟨ρ,rfl,(show j=n by omega) ▸ hP⟩
 | k+1,j,ρ,hj,hP=>by
   obtain ⟨ρ1,h1,h2⟩:=hs j ρ (by omega) hP;rw [List.range'_succ,List.map_cons];rcases h2 with ⟨ρ2,h2,h3⟩ | ⟨d,h2,h3⟩
   . rcases jie g n P R hs k (j+1) ρ2 (by omega) h3 with h | h
     . obtain ⟨ρ',e,p⟩:=h;exact .inl ⟨ρ',by simp only [Jp,h1,h2];exact e,p⟩
     . obtain ⟨d,e,p⟩:=h;exact .inr ⟨d,by simp only [Jp,h1,h2];exact e,p⟩
   . exact .inr ⟨d,by simp only [Jp,h1,h2],h3⟩
theorem jls {fi:ef->Option (List D)} {m:D->ef->Option ef} {B:FS} {ρ:ef} (g:Nat->D) (n:Nat) (P:Nat->ef->Prop) (R:D->Prop) (hi:fi ρ=some ((List.range n).map g)) (h0:P 0 ρ)
 (hs:∀(j:Nat) ρ,j<n->P j ρ->∃ρ1,m (g j) ρ=some ρ1/\((∃ρ2,B ρ1=.next ρ2/\P (j+1) ρ2)\/∃d,B ρ1=.ret d/\R d)) :
 (∃ρ',JC fi m B ρ=.next ρ'/\P n ρ')\/∃d,JC fi m B ρ=.ret d/\R d:=by
 unfold JC;rw [hi,List.range_eq_range'];exact jie g n P R hs n 0 ρ (by omega) h0
theorem jlS {fi:ef->Option (List D)} {m:D->ef->Option ef} {B:FS} {ρ:ef} (g:Nat->D) (n:Nat) (P:Nat->ef->Prop) (hi:fi ρ=some ((List.range n).map g)) (h0:P 0 ρ)
 (hs:∀(j:Nat) ρ,j<n->P j ρ->∃ρ1 ρ2,m (g j) ρ=some ρ1/\B ρ1=.next ρ2/\P (j+1) ρ2):∃ρ',JC fi m B ρ=.next ρ'/\P n ρ':=by
 rcases jls g n P (fun _=>False) hi h0 (fun j ρ hj hP=>let ⟨ρ1,ρ2,h1,h2,h3⟩:=hs j ρ hj hP;⟨ρ1,h1,.inl ⟨ρ2,h2,h3⟩⟩) with h | ⟨d,_,h⟩
 . exact h
 . exact h.elim
theorem jqZ {c:ef->Option Bool} {B:FS} (P:Nat->ef->Prop) (R:Res->Prop)
 (hs:∀(k:Nat) ρ,P k ρ->(c ρ=some false/\R (.next ρ))\/‹"aA"›):∀(k:Nat) (ρ:ef),P k ρ->∃n r,wh c B n ρ=some r/\R r:=by
 intro k;induction k using Nat.strongRecOn with
 | _ k ih=>
   intro ρ hP;rcases hs k ρ hP with ⟨h1,h2⟩ | ⟨h1,h2⟩
   . exact ⟨1,_,by unfold wh;rw [h1],h2⟩
   . rcases h2 with ⟨ρ2,k2,e,l,p⟩ | ⟨d,e,r⟩
     . obtain ⟨n,r,e2,hr⟩:=ih k2 l ρ2 p;refine ⟨n+1,r,?_,hr⟩;unfold wh;rw [h1];dsimp only;rw [e];exact e2
     . refine ⟨1,.ret d,?_,r⟩;unfold wh;rw [h1];dsimp only;rw [e]
theorem jcd {c:ef->Option Bool} {B:FS} {ρ:ef} (P:Nat->ef->Prop) (R:Res->Prop) {k:Nat} (h0:P k ρ)
 (hs:∀(k:Nat) ρ,P k ρ->(c ρ=some false/\R (.next ρ))\/‹"aA"›):∃r,JZ c B ρ=r/\R r:=by
 obtain ⟨n,r,e,hr⟩:=jqZ P R hs k ρ h0;exact ⟨r,jdV e,hr⟩
theorem jqq {C:Res->Prop} {fi:ef->Option (List D)} {m:D->ef->Option ef} {B F':FS} {ρ:ef} (g:Nat->D) (n:Nat) (P:Nat->ef->Prop) (R:D->Prop) (hi:fi ρ=some ((List.range n).map g)) (h0:P 0 ρ)
 (hs:∀(j:Nat) ρ,j<n->P j ρ->∃ρ1,m (g j) ρ=some ρ1/\((∃ρ2,B ρ1=.next ρ2/\P (j+1) ρ2)\/∃d,B ρ1=.ret d/\R d)) (k1:∀ρ',P n ρ'->C (F' ρ')) (k2:∀d,R d->C (.ret d)):C (jC (JC fi m B) F' ρ):=by
 rcases jls g n P R hi h0 hs with ⟨ρ',e,h⟩ | ⟨d,e,h⟩
 . exact jE ρ' e (k1 ρ' h)
 . exact jdU e (k2 d h)
theorem je9 {C:Res->Prop} {fi:ef->Option (List D)} {m:D->ef->Option ef} {B F':FS} {ρ:ef} (g:Nat->D) (n:Nat) (P:Nat->ef->Prop) (hi:fi ρ=some ((List.range n).map g)) (h0:P 0 ρ)
 (hs:∀(j:Nat) ρ,j<n->P j ρ->∃ρ1 ρ2,m (g j) ρ=some ρ1/\B ρ1=.next ρ2/\P (j+1) ρ2) (k:∀ρ',P n ρ'->C (F' ρ')):C (jC (JC fi m B) F' ρ):=
 let ⟨ρ',e,h⟩:=jlS g n P hi h0 hs;jE ρ' e (k ρ' h)
theorem jhV {C:Res->Prop} {c:ef->Option Bool} {B F':FS} {ρ:ef} (P:Nat->ef->Prop) (N:ef->Prop) {k:Nat} (h0:P k ρ)
 (hs:∀(k:Nat) ρ,P k ρ->(c ρ=some false/\N ρ)\/(c ρ=some true/\∃ρ2 k2,B ρ=.next ρ2/\k2<k/\P k2 ρ2)) (kf:∀ρ',N ρ'->C (F' ρ')):C (jC (JZ c B) F' ρ):=by
 obtain ⟨r,e,hr⟩:=jcd (c:=c) (B:=B) P (fun r=>∃ρ',r=.next ρ'/\N ρ') h0 fun k ρ hP=>by
  rcases hs k ρ hP with ⟨a,b⟩ | ⟨a,ρ2,k2,h1,h2,h3⟩
  . exact .inl ⟨a,ρ,rfl,b⟩
  . exact .inr ⟨a,.inl ⟨ρ2,k2,h1,h2,h3⟩⟩
 obtain ⟨ρ',e',hN⟩:=hr;subst e';exact jE ρ' e (kf ρ' hN)
theorem jkK {B:FS} {ρ:ef} {k:Nat} {P:Nat->ef->Prop} (h:∀C:Res->Prop,(∀ρ2 k2,k2<k->P k2 ρ2->C (.next ρ2))->C (B ρ)):∃ρ2 k2,B ρ=.next ρ2/\k2<k/\P k2 ρ2:=h (fun r=>∃ρ2 k2,r=.next ρ2/\k2<k/\P k2 ρ2) fun ρ2 k2 hk hP=>⟨ρ2,k2,rfl,hk,hP⟩
section
variable {ρ:ef}
end
def Mv (tw tE:List (List Int)) (off on i:Nat):Prop:=0<j2 tE i off/\j2 tE i on<j2 tw i on
theorem jgZ {n m:Nat} {tw tE:List (List Int)} (hr:Shape n m tw) (hp:Shape n m tE) {off on:Nat} (ho:off<m) (hn:on<m) :
 ∃d,((d=.non/\∀i,i<n->¬Mv tw tE off on i)\/∃i:Nat,i<n/\d=.int i/\Mv tw tE off on i)/\QT [.lst (tw.map jh),.lst (tE.map jh),.int off,.int on]=some d:=by
 unfold QT;refine J6 (ρ:=[.sh ‹"e"›,.sh ‹"j"›,.sh (.int off),.sh (.int on),.un,.un]) _ rfl rfl fun C fin=>?_;unfold jea;refine jqq (fun j:Nat=>.tup [.int (j:Int),jh (tE.getD j [])]) n
  (fun j ρ=>(∃x y,ρ=[.sh ‹"e"›,.sh ‹"j"›,.sh (.int off),.sh (.int on),x,y])/\∀i,i<j->¬Mv tw tE off on i)
  (fun d=>∃i:Nat,i<n/\d=.int i/\Mv tw tE off on i) ?_ ⟨⟨_,_,rfl⟩,fun i hi=>absurd hi (by omega)⟩ ?_ ?_ ?_
 . show some (Zp (tE.map jh))=_;rw [ZK jh [],hp.1]
 . rintro j ρ hj ⟨⟨x,y,rfl⟩,hP⟩;refine ⟨[.sh ‹"e"›,.sh ‹"j"›,.sh (.int off),.sh (.int on),.sh (.int j),.sh (jh (tE.getD j []))],rfl,?_⟩;rw [jkI (jdL (jR (jm (jm rfl rfl (QF hp hj ho)) rfl jcy)) (jR (jm (jm rfl rfl (QF hp hj hn)) (jm (jm rfl rfl (Q3 hr hj)) rfl (QF hr hj hn)) Zc)))];by_cases c:0<j2 tE j off/\j2 tE j on<j2 tw j on
   . rw [if_pos (by simp [c.1,c.2])];exact .inr ⟨_,rfl,j,hj,rfl,c⟩
   . rw [if_neg (by simpa using c)];refine .inl ⟨_,rfl,⟨_,_,rfl⟩,fun i hi=>?_⟩;by_cases z:i=j
     . subst z;exact c
     . exact hP i (by omega)
 . rintro ρ' ⟨⟨x,y,rfl⟩,hP⟩;exact fin _ (.inl ⟨rfl,hP⟩)
 . exact fun d h=>fin _ (.inr h)
def kI (ks:List Nat):List Int:=ks.map fun k:Nat=>(k:Int)
theorem jhc (ks:List Nat):(kI ks).length=ks.length:=Yd _
theorem jeb:∀{ks:List Nat} {ds:List D} {j s:Nat} {d:D},ks.Nodup->ks[j]?=some s->ds[j]?=some d->qB (kI ks) ds (s:Int)=some d
 | [],_,_,_,_,_,h,_=>by simp at h
 | _::_,[],_,_,_,_,_,h=>by simp at h
 | k::ks,e::ds,0,s,d,_,h1,h2=>by simp at h1 h2;subst h1 h2;show (if (k:Int)=(k:Int) then some e else _)=_;rw [if_pos rfl]
 | k::ks,e::ds,j+1,s,d,nd,h1,h2=>by
   simp at h1 h2;have hn:¬(k:Int)=(s:Int):=fun z=>(Y9.mp nd).1 (by
     have:k=s:=by omega
     rw [this];exact Yz h1)
   show (if (k:Int)=(s:Int) then some e else qB (kI ks) ds (s:Int))=_;rw [if_neg hn];exact jeb (Y9.mp nd).2 h1 h2
theorem jhJ:∀{ks:List Nat} {ds:List D} {s:Nat},s∉ks->qB (kI ks) ds (s:Int)=none
 | [],_,_,_=>rfl
 | _::_,[],_,_=>rfl
 | k::ks,e::ds,s,h=>by
   have hn:¬(k:Int)=(s:Int):=fun z=>h (by
     have:k=s:=by omega
     rw [this];exact Ye)
   show (if (k:Int)=(s:Int) then some e else qB (kI ks) ds (s:Int))=_;rw [if_neg hn];exact jhJ fun z=>h (Yf _ z)
theorem jhd {ks:List Nat} {ds:List D} (nd:ks.Nodup) (hl:ks.length=ds.length) (s:Nat) (neg:Bool):jas neg (.int s) ‹"G"›=some (.bl (neg != decide (s∈ks))):=by
 show some (D.bl (neg != (qB (kI ks) ds (s:Int)).isSome))=_;by_cases h:s∈ks
 . obtain ⟨j,hj,e⟩:=yV h;rw [jeb nd (j:=j) (by rw [Yb hj,e]) (Yb (by omega))];simp [h]
 . rw [jhJ h];simp [h]
theorem mem_kI {ks:List Nat} {s:Nat}:(s:Int)∈kI ks ↔ s∈ks:=by unfold kI;rw [YX];exact ⟨fun ⟨k,hk,e⟩=>(show k=s by omega) ▸ hk,fun h=>⟨s,h,rfl⟩⟩
theorem jhI {ks:List Nat} {s:Nat} (h:s∉ks):JR (kI ks) (s:Int)=kI (ks++[s]):=by unfold JR;rw [if_neg fun z=>h (mem_kI.mp z)];unfold kI;rw [Y7];rfl
theorem jgC {ks:List Nat} {ds:List D} {s:Nat} {d:D} (h:s∉ks):jbG (kI ks) ds (s:Int) d=ds++[d]:=by unfold jbG;rw [if_neg fun z=>h (mem_kI.mp z)]
theorem zN:∀(m:Nat) (ks:List Nat),ks.Nodup->(∀s∈ks,s<m)->ks.length<=m
 | 0,ks,_,h=>by
   cases ks with
   | nil=>exact Ym _
   | cons k ks=>exact absurd (h k Ye) (by omega)
 | m+1,ks,nd,h=>by
   by_cases hm:m∈ks
   . have h1:=zN m (ks.erase m) (nd.erase m) fun s hs=>by have h2:=(List.Nodup.mem_erase_iff nd).mp hs;have h3:=h s h2.2;have:=h2.1;omega
     rw [List.length_erase_of_mem hm] at h1;omega
   . have:=zN m ks nd fun s hs=>by have h3:=h s hs;have:s≠m:=fun z=>hm (z ▸ hs);omega
     omega
structure Rch (tw tE:List (List Int)) (n m:Nat) (B:Nat->D->Prop) (ks:List Nat) (ds:List D):Prop where
 len:ks.length=ds.length
 nd:ks.Nodup
 lt:∀s∈ks,s<m
 val:∀(j s:Nat) (d:D),ks[j]?=some s->ds[j]?=some d->B s d\/∃i o j':Nat,j'<j/\ks[j']?=some o/\i<n/\d=.tup [.int i,.int o,.int s]/\Mv tw tE o s i
theorem Rch.snoc {tw tE:List (List Int)} {n m:Nat} {B:Nat->D->Prop} {ks:List Nat} {ds:List D} (h:Rch tw tE n m B ks ds) {s:Nat} {d:D} (hs:s∉ks) (hm:s<m) (hd:B s d\/∃i o:Nat,o∈ks/\i<n/\d=.tup [.int i,.int o,.int s]/\Mv tw tE o s i) :
 Rch tw tE n m B (ks++[s]) (ds++[d]):=by
 refine ⟨by simp [h.len],?_,fun t ht=>?_,fun j t e h1 h2=>?_⟩
 . rw [K6];refine ⟨h.nd,by simp,fun a ha b hb z=>?_⟩;rw [Yn.mp hb] at z;exact hs (z ▸ ha)
 . rcases YQ.mp ht with q | q
   . exact h.lt t q
   . rw [Yn.mp q];exact hm
 . rcases Nat.lt_trichotomy j ks.length with q | q | q
   . rw [YD q] at h1;rw [YD (by rw [<-h.len];exact q)] at h2;rcases h.val j t e h1 h2 with r | ⟨i,o,j',r1,r2,r3⟩
     . exact .inl r
     . exact .inr ⟨i,o,j',r1,by rw [YD (by omega)];exact r2,r3⟩
   . subst q;rw [YH (Ym _)] at h1;rw [YH (by rw [h.len];exact Ym _)] at h2;simp at h1;simp [h.len] at h2;subst h1 h2;rcases hd with r | ⟨i,o,r1,r2⟩
     . exact .inl r
     . obtain ⟨j',hj',ej⟩:=yV r1;exact .inr ⟨i,o,j',hj',by rw [YD hj',Yb hj',ej],r2⟩
   . rw [YI (by simp;omega)] at h1;cases h1
def Clo (tw tE:List (List Int)) (n m:Nat) (ks:List Nat) (o:Nat):Prop:=∀on,on<m->on∈ks\/∀i,i<n->¬Mv tw tE o on i
def nI (ks:List Nat):List D:=ks.map fun k:Nat=>D.int (k:Int)
theorem jrG (ks:List Nat):(kI ks).map D.int=nI ks:=by unfold kI nI;rw [YC];rfl
theorem jrJ {ks:List Nat} {j s:Nat} (h:ks[j]?=some s):qt (.lst (nI ks)) (.int j)=some (.int s):=by refine ZA (by omega) ?_;rw [Yv];unfold nI;rw [List.getElem?_map,h];rfl
theorem jhC {n m:Nat} {tw tE:List (List Int)} (hr:Shape n m tw) (hp:Shape n m tE) {B:Nat->D->Prop} {ks:List Nat} {ds:List D} (R:Rch tw tE n m B ks ds) (hm:m<1000) {off on:Nat} (ho:off∈ks) (hn:on<m) (a:Slot) (t:Slot) (x8:Slot) :
 ∃ρ2,(jC (jP 8 (eIf (qT ‹"aw"›) (eC .non) ‹"L"›))
   (Qq (qT (jbH (ja 8)))
   (jC (Q8 3 (jn 7) (QW (jd (jn 8) (jd (jn 6) (jd (jn 7) jo)))))
   (Zf 4 (jn 7))) ql)) [.sh (.lst (tw.map jh)),.sh (.lst (tE.map jh)),a,.od (kI ks) ds,.ow (nI ks),t,.sh (.int off),.sh (.int on),x8]=.next ρ2 /\
   ∃ks' ds' y,ρ2=[.sh ‹"e"›,.sh ‹"j"›,a,.od (kI ks') ds',.ow (nI ks'),t,.sh (.int off),.sh (.int on),y]/\Rch tw tE n m B ks' ds'/\(∃e,ks'=ks++e)/\(on∈ks'\/∀i,i<n->¬Mv tw tE off on i):=by
 have tL:ks.length<1000:=yJ (zN m ks R.nd R.lt) hm;have hc:qT ‹"aw"› ‹"aI"›=some (false != decide (on∈ks)):=jR (jm rfl rfl (jhd R.nd R.len on false));by_cases hin:on∈ks
 . have e1:eIf (qT ‹"aw"›) (eC .non) ‹"L"› ‹"aI"›=some .non:=by unfold eIf;rw [hc];simp [hin,eC]
   refine ⟨_,(qQ (jS e1)).trans (zE (jR rfl)),ks,ds,_,rfl,R,⟨[],by simp⟩,.inl hin⟩
 . obtain ⟨d,hd,ed⟩:=jgZ hr hp (R.lt off ho) hn;have e1:eIf (qT ‹"aw"›) (eC .non) ‹"L"› ‹"aI"›=some d:=by unfold eIf;rw [hc];simp only [hin,decide_false];exact ju rfl ed
   rcases hd with ⟨rfl,hno⟩ | ⟨i,hi,rfl,hmv⟩
   . exact ⟨_,(qQ (jS e1)).trans (zE (jR rfl)),ks,ds,_,rfl,R,⟨[],by simp⟩,.inr hno⟩
   . refine ⟨_,(qQ (jS e1)).trans ((ZD (jR rfl)).trans ((qQ (ρ':=[.sh ‹"e"›,.sh ‹"j"›,a,.od (kI (ks++[on])) (ds++[.tup [.int i,.int off,.int on]]),.ow (nI ks),t,.sh (.int off),.sh (.int on),.sh (.int i)]) ?_).trans ?_)),
       ks++[on],ds++[.tup [.int i,.int off,.int on]],.sh (.int i),rfl,R.snoc hin hn (.inr ⟨i,off,ho,hi,rfl,hmv⟩),⟨[on],rfl⟩,.inl (by simp)⟩
     . show (if zG (kI ks).length=true then Res.next _ else Res.fail)=_;rw [if_pos (qP (by rw [jhc];omega)),jhI hin,jgC hin];rfl
     . show (if zG (nI ks).length=true then Res.next _ else Res.fail)=_;rw [if_pos (qP (by unfold nI;rw [Yd];omega))];have:nI ks++[D.int (on:Int)]=nI (ks++[on]):=by unfold nI;rw [Y7];rfl
       rw [this];rfl
theorem jgK {n m:Nat} {tw tE:List (List Int)} (hr:Shape n m tw) (hp:Shape n m tE) (hm:m<1000) {B:Nat->D->Prop} {ks0:List Nat} {ds0:List D} (R0:Rch tw tE n m B ks0 ds0) (hn:ks0≠[]->0<n) :
 ∃d,(∃ks ds,d=.dic (kI ks) ds/\Rch tw tE n m B ks ds/\(∃e,ks=ks0++e)/\∀o∈ks,Clo tw tE n m ks o)/\jbY [.lst (tw.map jh),.lst (tE.map jh),.dic (kI ks0) ds0]=some d:=by
 have hl0:ks0.length<1000:=yJ (zN m ks0 R0.nd R0.lt) hm;unfold jbY;refine J6 (ρ:=[.sh ‹"e"›,.sh ‹"j"›,.sh ‹"an"›,.un,.un,.un,.un,.un,.un]) _ rfl rfl fun C fin=>?_;unfold jev;refine jE [.sh ‹"e"›,.sh ‹"j"›,.sh ‹"an"›,.od (kI ks0) ds0,.un,.un,.un,.un,.un] rfl ?_;refine jE [.sh ‹"e"›,.sh ‹"j"›,.sh ‹"an"›,.od (kI ks0) ds0,.ow (nI ks0),.un,.un,.un,.un] ?_ ?_
 . have e:jk jc7 (jd (ja 2) jo) [.sh ‹"e"›,.sh ‹"j"›,.sh ‹"an"›,.od (kI ks0) ds0,.un,.un,.un,.un,.un]=some (nI ks0):=ju rfl (by show (if zG (kI ks0).length=true then some ((kI ks0).map D.int) else none)=_;rw [if_pos (qP (by rw [jhc];omega)),jrG])
   unfold J2;rw [e];rfl
 refine jE [.sh ‹"e"›,.sh ‹"j"›,.sh ‹"an"›,.od (kI ks0) ds0,.ow (nI ks0),.sh (.int ((0:Nat):Int)),.un,.un,.un] rfl ?_;refine jhV (fun k ρ=>∃(ks:List Nat) (ds:List D) (t:Nat) (x6 x7 x8:Slot),ρ=‹"aS"›/\k=m-t/\t<=ks.length/\Rch tw tE n m B ks ds/\(∃e,ks=ks0++e)/\(ks≠[]->0<n) /\
  ∀(j o:Nat),j<t->ks[j]?=some o->Clo tw tE n m ks o) (fun ρ=>∃(ks:List Nat) (ds:List D) (x4 x5 x6 x7 x8:Slot),ρ=[.sh (.lst (tw.map jh)),.sh (.lst (tE.map jh)),.sh (.dic (kI ks0) ds0),.od (kI ks) ds,x4,x5,x6,x7,x8]/\Rch tw tE n m B ks ds/\(∃e,ks=ks0++e)/\∀o∈ks,Clo tw tE n m ks o)
  (k:=m) ⟨ks0,ds0,0,_,_,_,rfl,rfl,yf _,R0,⟨[],by simp⟩,hn,fun j o h=>absurd h (by omega)⟩ ?_ ?_
 . rintro k ρ ⟨ks,ds,t,x6,x7,x8,rfl,rfl,ht,R,⟨e,he⟩,hn',hcl⟩;have tL:ks.length<=m:=zN m ks R.nd R.lt;have hc:qT (jw dLt (ja 5) (jk QX (jd (ja 4) jo))) ‹"aS"›=some (decide ((t:Int)<((nI ks).length:Int))):=jR (jm rfl (ju rfl rfl) Zc);have hnl:(nI ks).length=ks.length:=Yd _;by_cases htl:t<ks.length
   . refine .inr ⟨by rw [hc,hnl];simp [htl],?_⟩;have n0:0<n:=hn' fun z=>by subst z;simp at htl
     have hoff:ks[t]?=some ks[t]:=Yb htl;have hmem:ks[t]∈ks:=KG htl;refine jkK fun C2 fin2=>?_;refine jE [.sh ‹"e"›,.sh ‹"j"›,.sh ‹"an"›,.od (kI ks) ds,.ow (nI ks),.sh (.int (t:Int)),.sh (.int (ks[t]:Nat)),x7,x8] (jS (jm rfl rfl (jrJ hoff))) ?_;refine je9 (fun j:Nat=>D.int (j:Int)) m (fun j ρ=>∃(ks2:List Nat) (ds2:List D) (y7 y8:Slot),ρ=[.sh ‹"e"›,.sh ‹"j"›,.sh ‹"an"›,.od (kI ks2) ds2,.ow (nI ks2),.sh (.int (t:Int)),.sh (.int (ks[t]:Nat)),y7,y8]/\Rch tw tE n m B ks2 ds2/\(∃e,ks2=ks++e) /\
       ∀on,on<j->on∈ks2\/∀i,i<n->¬Mv tw tE ks[t] on i) ?_ ⟨ks,ds,_,_,rfl,R,⟨[],by simp⟩,fun on h=>absurd h (by omega)⟩ ?_ ?_
     . rw [jeF (j:=(m:Int)) (ji (ju (ji (jm rfl rfl (Q3 hr n0)) rfl) ?_) rfl) (by omega) (by omega),Yv,jku];show some (D.int ((List.map D.int (tw.getD 0 [])).length:Int))=_;rw [Yd,(hr.row n0).2]
     . rintro j ρ hj ⟨ks2,ds2,y7,y8,rfl,R2,⟨e2,he2⟩,hon⟩;obtain ⟨ρ2,h1,ks3,ds3,y,rfl,R3,⟨e3,he3⟩,h4⟩:=jhC hr hp R2 hm (off:=ks[t]) (on:=j) (by rw [he2];exact Yt _ hmem) hj (.sh ‹"an"›) (.sh (.int (t:Int))) y8;refine ⟨_,_,rfl,h1,ks3,ds3,_,_,rfl,R3,⟨e2++e3,by rw [he3,he2,yR]⟩,fun on h=>?_⟩;by_cases z:on=j
       . subst z;exact h4
       . rcases hon on (by omega) with q | q
         . exact .inl (by rw [he3];exact Yt _ q)
         . exact .inr q
     . rintro ρ ⟨ks2,ds2,y7,y8,rfl,R2,⟨e2,he2⟩,hon⟩;refine fin2 _ (m-(t+1)) (by omega) ⟨ks2,ds2,t+1,_,_,_,rfl,rfl,by rw [he2,YG];omega,R2,⟨e++e2,by rw [he2,he,yR]⟩,fun _=>n0,fun j o hj ho=>?_⟩;have up:∀x,x∈ks->x∈ks2:=fun x hx=>by rw [he2];exact Yt _ hx
       have ho':ks[j]?=some o:=by rw [he2,YD (by omega)] at ho;exact ho
       by_cases z:j=t
       . subst z;rw [hoff] at ho';cases ho';exact hon
       . intro on h;rcases hcl j o (by omega) ho' on h with q | q
         . exact .inl (up _ q)
         . exact .inr q
   . refine .inl ⟨by rw [hc,hnl];simp [htl],ks,ds,_,_,_,_,_,rfl,R,⟨e,he⟩,fun o ho=>?_⟩;obtain ⟨j,hj,ej⟩:=yV ho;exact hcl j o (by omega) (by rw [Yb hj,ej])
 . rintro ρ ⟨ks,ds,x4,x5,x6,x7,x8,rfl,R,he,hcl⟩;exact fin _ ⟨ks,ds,rfl,R,he,hcl⟩
def zp (P:List (List Int)) (i:Nat):Int:=(P.getD i []).sum
theorem JA {n m:Nat} {P:List (List Int)} (h:Shape n m P) {i:Nat} (hi:i<n):zp P i=js (fun s=>j2 P i s) m:=by unfold zp;rw [jaK,(h.row hi).2];rfl
theorem Jy {n m:Nat} {P:List (List Int)} (h:Shape n m P) (s:Nat):j8 P s=js (fun i=>j2 P i s) n:=by unfold j8;rw [QQ (fun r:List Int=>r.getD s 0) [],h.1];rfl
def qW (P:List (List Int)) (n:Nat):Int:=js (zp P) n
theorem JJ {f:Nat->Nat->Int} {m:Nat}:∀n,js (fun i=>js (fun s=>f i s) m) n=js (fun s=>js (fun i=>f i s) n) m
 | 0=>by show (0:Int)=_;rw [jV];intro j _;rfl
 | n+1=>by show js _ n+js (fun s=>f n s) m=_;rw [JJ n,<- qV];rfl
def Bp (tD:List Int) (tw tE:List (List Int)) (n:Nat) (s:Nat) (d:D):Prop:=∃i:Nat,i<n/\d=.tup [.int i,.non,.int s]/\zp tE i<tD.getD i 0/\j2 tE i s<j2 tw i s
theorem jlm {n m:Nat} {tD:List Int} {tw tE:List (List Int)} (hr:Shape n m tw) {ks:List Nat} {ds:List D} (R:Rch tw tE n m (Bp tD tw tE n) ks ds) (hm:m<1000) {i s:Nat} (hi:i<n) (hs:s<m) {b:Bool} (hb:b=decide (zp tE i<tD.getD i 0)) (a c x5:Slot) :
 ∃ρ2,(Qq ‹"t"›
   (Q8 3 (jn 7) (QW (jd (jn 4) (jd (eC .non) (jd (jn 7) jo))))) ql) [a,.sh (.lst (tw.map jh)),c,.od (kI ks) ds,.sh (.int i),x5,.sh (.bl b),.sh (.int s),.sh (.int (j2 tE i s))]=.next ρ2 /\
   ∃ks' ds',ρ2=[a,.sh ‹"e"›,c,.od (kI ks') ds',.sh (.int i),x5,.sh (.bl b),.sh (.int s),.sh (.int (j2 tE i s))]/\Rch tw tE n m (Bp tD tw tE n) ks' ds'/\(∃e,ks'=ks++e)/\(zp tE i<tD.getD i 0->j2 tE i s<j2 tw i s->s∈ks'):=by
 have tL:ks.length<1000:=yJ (zN m ks R.nd R.lt) hm;rw [jkI (jdL (b:=b) (jR rfl) (jdL (jR (jm rfl (jm (jm rfl rfl (Q3 hr hi)) rfl (QF hr hi hs)) Zc)) (jR (jm rfl rfl (jhd R.nd R.len s true)))))];by_cases cc:zp tE i<tD.getD i 0/\j2 tE i s<j2 tw i s/\s∉ks
 . rw [if_pos (by rw [hb,YN cc.1,YN cc.2.1,YU cc.2.2];rfl)];refine ⟨_,?_,ks++[s],ds++[.tup [.int i,.non,.int s]],rfl,R.snoc cc.2.2 hs (.inl ⟨i,hi,rfl,cc.1,cc.2.1⟩),⟨[s],rfl⟩,fun _ _=>by simp⟩;show (if zG (kI ks).length=true then Res.next _ else Res.fail)=_;rw [if_pos (qP (by rw [jhc];omega)),jhI cc.2.2,jgC cc.2.2];rfl
 . rw [if_neg (by rw [hb];simpa using cc)];refine ⟨_,rfl,ks,ds,rfl,R,⟨[],by simp⟩,fun h1 h2=>?_⟩;by_cases z:s∈ks
   . exact z
   . exact absurd ⟨h1,h2,z⟩ cc
theorem jfB {n m:Nat} {tD:List Int} {tw tE:List (List Int)} (hd:tD.length=n) (hr:Shape n m tw) (hp:Shape n m tE) (hm:m<1000) :
 ∃d,(∃ks ds,d=.dic (kI ks) ds/\Rch tw tE n m (Bp tD tw tE n) ks ds/\∀i s,i<n->s<m->zp tE i<tD.getD i 0->j2 tE i s<j2 tw i s->s∈ks)/\ja1 [.lst (tD.map D.int),.lst (tw.map jh),.lst (tE.map jh)]=some d:=by
 unfold ja1;refine J6 (ρ:=[.sh ‹"g"›,.sh ‹"e"›,.sh ‹"j"›,.un,.un,.un,.un,.un,.un]) _ rfl rfl fun C fin=>?_;unfold jca;refine jE [.sh ‹"g"›,.sh ‹"e"›,.sh ‹"j"›,.od (kI []) [],.un,.un,.un,.un,.un] rfl ?_;refine je9 (fun j:Nat=>.tup [.int (j:Int),jh (tE.getD j [])]) n (fun j ρ=>∃(ks:List Nat) (ds:List D) (x4 x5 x6 x7 x8:Slot),ρ=[.sh ‹"g"›,.sh ‹"e"›,.sh ‹"j"›,.od (kI ks) ds,x4,x5,x6,x7,x8]/\Rch tw tE n m (Bp tD tw tE n) ks ds /\
  ∀i s,i<j->s<m->zp tE i<tD.getD i 0->j2 tE i s<j2 tw i s->s∈ks) ?_ ⟨[],[],_,_,_,_,_,rfl,⟨rfl,List.nodup_nil,fun s hs=>absurd hs Yw,fun j s d h=>by simp at h⟩,fun i s h=>absurd h (by omega)⟩ ?_ ?_
 . show some (Zp (tE.map jh))=_;rw [ZK jh [],hp.1]
 . rintro j ρ hj ⟨ks,ds,x4,x5,x6,x7,x8,rfl,R,hall⟩;have e6:jw dLt (jk Qb (jd (ja 5) jo)) (jw qt (ja 0) (ja 4)) [.sh ‹"g"›,.sh ‹"e"›,.sh ‹"j"›,.od (kI ks) ds,.sh (.int j),.sh (jh (tE.getD j [])),x6,x7,x8]=some (.bl (decide (zp tE j<tD.getD j 0))):=jm (ju rfl sum_ints) (jm rfl rfl (QU (by omega))) Zc
   obtain ⟨ρ2,h1,ks2,ds2,y7,y8,rfl,R2,⟨e2,he2⟩,hon⟩:=jlS (fi:=Qe (jd (jn 5) jo)) (m:=Ju 2 (jM (jA 7) (jM (jA 8) JD))) (B:=Qq ‹"t"›
    (Q8 3 (jn 7) (QW (jd (jn 4) (jd (eC .non) (jd (jn 7) jo))))) ql) (ρ:=[.sh (.lst (tD.map D.int)),.sh (.lst (tw.map jh)),.sh (.lst (tE.map jh)),.od (kI ks) ds,.sh (.int j),.sh (jh (tE.getD j [])),.sh (.bl (decide (zp tE j<tD.getD j 0))),x7,x8])
    (fun s:Nat=>.tup [.int (s:Int),.int (j2 tE j s)]) m (fun s ρ=>∃(ks2:List Nat) (ds2:List D) (y7 y8:Slot),ρ=[.sh ‹"g"›,.sh ‹"e"›,.sh ‹"j"›,.od (kI ks2) ds2,.sh (.int j),.sh (jh (tE.getD j [])),.sh (.bl (decide (zp tE j<tD.getD j 0))),y7,y8]/\Rch tw tE n m (Bp tD tw tE n) ks2 ds2/\(∃e,ks2=ks++e) /\
      ∀s',s'<s->zp tE j<tD.getD j 0->j2 tE j s'<j2 tw j s'->s'∈ks2)
    (by show some (Zp ((tE.getD j []).map D.int))=_;rw [ZK D.int 0,(hp.row hj).2];rfl) ⟨ks,ds,_,_,rfl,R,⟨[],by simp⟩,fun s' h=>absurd h (by omega)⟩ (by
      rintro s ρ hs ⟨ks2,ds2,y7,y8,rfl,R2,⟨e2,he2⟩,hon⟩;obtain ⟨ρ2,h1,ks3,ds3,rfl,R3,⟨e3,he3⟩,h4⟩:=jlm hr R2 hm hj hs rfl (.sh ‹"g"›) (.sh ‹"j"›) (.sh (jh (tE.getD j [])));refine ⟨_,_,rfl,h1,ks3,ds3,_,_,rfl,R3,⟨e2++e3,by rw [he3,he2,yR]⟩,fun s' h a b=>?_⟩;by_cases z:s'=s
      . subst z;exact h4 a b
      . rw [he3];exact Yt _ (hon s' (by omega) a b))
   refine ⟨_,_,rfl,(qQ (jS e6)).trans h1,ks2,ds2,_,_,_,_,_,rfl,R2,fun i s h1 h2 h3 h4=>?_⟩;by_cases z:i=j
   . subst z;exact hon s h2 h3 h4
   . rw [he2];exact Yt _ (hall i s (by omega) h2 h3 h4)
 . rintro ρ ⟨ks,ds,x4,x5,x6,x7,x8,rfl,R,hall⟩;exact fin _ ⟨ks,ds,rfl,R,hall⟩
def jsT:Option Nat->D
 | some o=>.int (o:Int)
 | none=>.non
def qk (q:Nat×Option Nat×Nat):D:=.tup [.int q.1,jsT q.2.1,.int q.2.2]
inductive Path (ks:List Nat) (ds:List D):Nat->List (Nat×Option Nat×Nat)->Prop
 | p {j s i:Nat}:ks[j]?=some s->ds[j]?=some (.tup [.int i,.non,.int s])->Path ks ds j [(i,none,s)]
 | c {j:Nat}:ds[j]?=some .non->Path ks ds j []
 | s {j j' s i o:Nat} {p:List (Nat×Option Nat×Nat)}:Path ks ds j' p->j'<j->ks[j']?=some o->ks[j]?=some s->ds[j]?=some (.tup [.int i,.int o,.int s])->Path ks ds j (p++[(i,some o,s)])
theorem jhY {a n:Nat} {m:FS} {ds:List D} {ρ:ef} (Pr:List D->Prop) (h1:ds.length=a) (h2:qK n ds=ρ) (h:∀C:Res->Prop,(∀d,Pr d->C (.retO d))->C (m ρ)):∃d,Pr d/\Jk a n m ds=some d:=by unfold Jk;rw [if_pos h1,h2];exact h (fun r=>∃d,Pr d/\jdt r=some d) fun d hd=>⟨d,hd,rfl⟩
theorem jfE {n m:Nat} {tw tE:List (List Int)} {B:Nat->D->Prop} {ks:List Nat} {ds:List D} (R:Rch tw tE n m B ks ds) (hm:m<1000) (hB:∀s d,B s d->d=.non\/∃i:Nat,d=.tup [.int i,.non,.int s]) {j0 s0:Nat} (h0:ks[j0]?=some s0) :
 ∃l,(∃p,Path ks ds j0 p/\l=p.map qk)/\jaP [.dic (kI ks) ds,.int s0]=some l:=by
 have tL:ks.length<1000:=yJ (zN m ks R.nd R.lt) hm;have at_:∀{j s:Nat},ks[j]?=some s->∃d,ds[j]?=some d/\qB (kI ks) ds (s:Int)=some d:=fun {j s} h=>by
  have hj:j<ds.length:=by rw [<-R.len];exact (Yj.mp h).1
  exact ⟨_,Yb hj,jeb R.nd h (Yb hj)⟩
 obtain ⟨d0,hd0,hl0⟩:=at_ h0;unfold jaP;refine jhY (ρ:=[.sh ‹"G"›,.sh (.int s0),.un,.un]) _ rfl rfl fun C fin=>?_;unfold jc5;refine jE [.sh ‹"G"›,.sh (.int s0),.ow [],.un] rfl ?_;refine jE [.sh ‹"G"›,.sh (.int s0),.ow [],.sh d0] (jS (jm rfl rfl hl0)) ?_;refine jhV (fun k ρ=>∃(suf:List ‹"z"›) (d:D),ρ=‹"aP"› /\
  ((∃j s,k=j+1/\ks[j]?=some s/\ds[j]?=some d/\suf.length+j<1000/\∀p,Path ks ds j p->Path ks ds j0 (p++suf))\/(k=0/\d=.non/\Path ks ds j0 suf)))
  (fun ρ=>∃(suf:List ‹"z"›) (d:D),ρ=‹"aP"›/\Path ks ds j0 suf) (k:=j0+1)
  ⟨[],d0,rfl,.inl ⟨j0,s0,rfl,h0,hd0,by simp;have:=(Yj.mp h0).1;omega,fun p hp=>by simpa using hp⟩⟩ ?_ ?_
 . rintro k ρ ⟨suf,d,rfl,h⟩;have app:∀(q:Nat×Option Nat×Nat) (x:D),suf.length<1000->∀y,jw jbu (ja 0) (jw qt (ja 3) (eC (.int 1))) [.sh ‹"G"›,.sh (.int s0),.ow ((q::suf).reverse.map qk),.sh (qk q)]=some y->
       jC (Zf 2 (jn 3)) (jP 3 (jw jbu (ja 0) (jw qt (ja 3) (eC (.int 1))))) [.sh ‹"G"›,.sh (.int s0),.ow (suf.reverse.map qk),.sh (qk q)]=.next [.sh ‹"G"›,.sh (.int s0),.ow ((q::suf).reverse.map qk),.sh y]:=fun q x hl y hy=>by
    refine (qQ (ρ':=[.sh ‹"G"›,.sh (.int s0),.ow ((q::suf).reverse.map qk),.sh (qk q)]) ?_).trans (jS hy);show (if zG (suf.reverse.map qk).length=true then Res.next _ else Res.fail)=_;rw [if_pos (qP (by simp;omega)),List.reverse_cons,Y7];rfl
   rcases h with ⟨j,s,rfl,hj,hd,hl,hp⟩ | ⟨rfl,rfl,hp⟩
   . have hcases:d=.non\/(∃i:Nat,d=.tup [.int i,.non,.int s])\/∃i o j':Nat,j'<j/\ks[j']?=some o/\d=.tup [.int i,.int o,.int s]:=by
       rcases R.val j s d hj hd with b | ⟨i,o,j',r1,r2,_,r3,_⟩
       . rcases hB s d b with z | z
         . exact .inl z
         . exact .inr (.inl z)
       . exact .inr (.inr ⟨i,o,j',r1,r2,r3⟩)
     rcases hcases with rfl | ⟨i,rfl⟩ | ⟨i,o,j',r1,r2,rfl⟩
     . exact .inl ⟨jR rfl,suf,_,rfl,by simpa using hp [] (.c hd)⟩
     . refine .inr ⟨jR rfl,_,0,app (i,none,s) .non (by omega) .non (jm rfl (jm rfl rfl ZE) rfl),by omega,_,_,rfl,.inr ⟨rfl,rfl,hp _ (.p hj hd)⟩⟩
     . obtain ⟨d',hd',hl'⟩:=at_ r2;refine .inr ⟨jR rfl,_,j' + 1,app (i,some o,s) .non (by omega) d' (jm rfl (jm rfl rfl ZE) ?_),by omega,_,_,rfl,.inl ⟨j',o,rfl,r2,hd',by simp;omega,fun p h=>?_⟩⟩
       . show some ((qB (kI ks) ds (o:Int)).getD .non)=_;rw [hl'];rfl
       . have:=hp _ (.s h r1 r2 hj hd);simpa using this
   . exact .inl ⟨jR rfl,suf,_,rfl,hp⟩
 . rintro ρ ⟨suf,d,rfl,hp⟩;have e:jk jky (jd (ja 2) jo) ‹"aP"›=some (suf.map qk):=ju rfl (by show some (suf.reverse.map qk).reverse=_;rw [<-kj,List.reverse_reverse])
   rw [ZG e];exact fin _ ⟨suf,hp,rfl⟩
def mD (P:List (List Int)):List (List D):=P.map fun r=>r.map D.int
def jg5 (P:List (List Int)) (i s:Nat) (v:Int):List (List Int):=P.set i ((P.getD i []).set s v)
theorem Shape.put {n m:Nat} {P:List (List Int)} (h:Shape n m P) {i:Nat} (hi:i<n) (s:Nat) (v:Int):Shape n m (jg5 P i s v):=by
 refine ⟨by unfold jg5;rw [List.length_set];exact h.1,fun r hr=>?_⟩;rcases List.mem_or_eq_of_mem_set hr with q | q
 . exact h.2 r q
 . rw [q,List.length_set];exact (h.row hi).2
theorem jeA {n m:Nat} {P:List (List Int)} (h:Shape n m P) {i s:Nat} (hi:i<n) (hs:s<m) (v:Int) (i' s':Nat):j2 (jg5 P i s v) i' s'=if i'=i/\s'=s then v else j2 P i' s':=by
 have hi':i<P.length:=by rw [h.1];exact hi
 have hs':s<(P.getD i []).length:=by rw [(h.row hi).2];exact hs
 unfold j2 jg5;by_cases z:i'=i
 . subst z;rw [Yc (l:=P.set _ _),yo hi',ki];by_cases y:s'=s
   . subst y;rw [Yc,yo hs',ki,if_pos ⟨rfl,rfl⟩]
   . rw [Yc,YY (Ne.symm y),<- Yc,if_neg fun q=>y q.2]
 . rw [Yc (l:=P.set _ _),YY (Ne.symm z),<- Yc,if_neg fun q=>z q.1]
def ind (p:Prop) [Decidable p]:Int:=if p then 1 else 0
theorem zY {p:Prop} [Decidable p] (h:p):ind p=1:=if_pos h
theorem zC {p:Prop} [Decidable p] (h:¬p):ind p=0:=if_neg h
def inc (p:List ‹"z"›) (i s:Nat):Int:=(p.map fun q=>ind (q.1=i/\q.2.2=s)).sum
def dec (p:List ‹"z"›) (i s:Nat):Int:=(p.map fun q=>ind (q.1=i/\q.2.1=some s)).sum
theorem ZJ (p:List ‹"z"›) (q:Nat×Option Nat×Nat) (i s:Nat):inc (p++[q]) i s=inc p i s+ind (q.1=i/\q.2.2=s):=by unfold inc;rw [Y7,List.sum_append];simp
theorem Zu (p:List ‹"z"›) (q:Nat×Option Nat×Nat) (i s:Nat):dec (p++[q]) i s=dec p i s+ind (q.1=i/\q.2.1=some s):=by unfold dec;rw [Y7,List.sum_append];simp
theorem jeP {n m:Nat} {Q:List (List Int)} (h:Shape n m Q) {i s:Nat} (hi:i<n) (hs:s<m) {v:Int} {g:Int->Int->Int} {fk fl fv:ef->Option D} {a b c x y z:Slot} (hk:fk [a,b,c,.oo (mD Q),x,y,z]=some (.int i)) (hl:fl [a,b,c,.oo (mD Q),x,y,z]=some (.int s)) (hv:fv [a,b,c,.oo (mD Q),x,y,z]=some (.int v)) :
 jc0 3 fk fl fv g [a,b,c,.oo (mD Q),x,y,z]=.next [a,b,c,.oo (mD (jg5 Q i s (g (j2 Q i s) v))),x,y,z]:=by
 have e1:(mD Q)[i]?=some ((Q.getD i []).map D.int):=by unfold mD;rw [List.getElem?_map,(h.row hi).1];rfl
 have hs':s<(Q.getD i []).length:=by rw [(h.row hi).2];exact hs
 have e2:((Q.getD i []).map D.int)[s]?=some (.int (j2 Q i s)):=by rw [List.getElem?_map];unfold j2;rw [Yc (l:=Q.getD i []),Yb hs'];rfl
 have e0:jgB 3 fk fl fv g [a,b,c,.oo (mD Q),x,y,z]=some [a,b,c,.oo ((mD Q).set i ‹"ah"›),x,y,z]:=by unfold jgB;rw [hk,hl,hv];show (if 0<=(i:Int)/\0<=(s:Int) then (mD Q)[(i:Int).toNat]?.bind fun ds=>(ds[(s:Int).toNat]?.bind asI).map fun y1=>[a,b,c,.oo ((mD Q).set (i:Int).toNat (ds.set (s:Int).toNat (.int (g y1 v)))),x,y,z] else none)=_;rw [if_pos ⟨by omega,by omega⟩,Yv,Yv,e1];show ((((Q.getD i []).map D.int)[s]?).bind asI).map _=_;rw [e2];rfl
 unfold jc0;rw [e0];show Res.next [a,b,c,.oo ((mD Q).set i ‹"ah"›),x,y,z]=_;have e3:(mD Q).set i ‹"ah"›=mD (jg5 Q i s (g (j2 Q i s) v)):=by unfold mD jg5;rw [List.map_set,List.map_set]
 rw [e3]
theorem jfD {ρ:ef} {m:D->ef->Option ef} {fe:ef->Option (List D)}:∀(P:List (List Int)),(∀r,r∈P->∃ρ1,m (jh r) ρ=some ρ1/\fe ρ1=some (r.map D.int))->jbI m ‹"m"› fe ρ (P.map jh)=some (mD P)
 | [],_=>rfl
 | r::P,h=>by obtain ⟨ρ1,h1,h2⟩:=h r Ye;rw [List.map_cons];simp only [jbI,h1,Yu,Kl,h2,jfD P fun x hx=>h x (Yf _ hx),Yy];rfl
theorem jgi {n m:Nat} {tE:List (List Int)} (hp:Shape n m tE) (hn:n<1000) {p:List ‹"z"›} (hw:∀q∈p,q.1<n/\q.2.2<m/\∀o,q.2.1=some o->o<m) (v:Int) :
 ∃d,(∃Q,d=.lst (Q.map jh)/\Shape n m Q/\∀i s,j2 Q i s=j2 tE i s+v*(inc p i s-dec p i s))/\jaH [.lst (tE.map jh),.lst (p.map qk),.int v]=some d:=by
 unfold jaH;refine J6 (ρ:=[.sh ‹"j"›,.sh ‹"9"›,.sh (.int v),.un,.un,.un,.un]) _ rfl rfl fun C fin=>?_;unfold jc1;refine jE [.sh ‹"j"›,.sh ‹"9"›,.sh (.int v),.oo (mD tE),.un,.un,.un] ?_ ?_
 . have e:jlc (qh (ja 0)) (jA 0) ‹"m"› (jk jdF (jd (ja 0) jo)) 1 [] [.sh ‹"j"›,.sh ‹"9"›,.sh (.int v),.un,.un,.un,.un]=some (mD tE):=by unfold jlc;rw [qo rfl,Yu,if_pos (qP (by rw [Yd,hp.1];omega))];exact jfD tE fun r hr=>⟨_,rfl,rfl⟩
   unfold jcU;rw [e];rfl
 refine jox qk p (fun pre ρ=>∃(Q:List (List Int)) (x y z:Slot),ρ=[.sh ‹"j"›,.sh ‹"9"›,.sh (.int v),.oo (mD Q),x,y,z]/\Shape n m Q/\∀i s,j2 Q i s=j2 tE i s+v*(inc pre i s-dec pre i s)) (qo rfl) ⟨tE,_,_,_,rfl,hp,fun i s=>by show _=_+v*(0-0);omega⟩ ?_ ?_
 . rintro pre q rest ρ hl ⟨Q,x,y,z,rfl,hQ,hat⟩;obtain ⟨q1,q2,q3⟩:=hw q (by rw [hl];simp);obtain ⟨i,off,s⟩:=q;dsimp only at q1 q2 q3;cases off with
   | none=>
     refine ⟨[.sh ‹"j"›,.sh ‹"9"›,.sh (.int v),.oo (mD Q),.sh (.int i),.sh .non,.sh (.int s)],_,rfl,(qQ (zE (jR rfl))).trans (jeP hQ q1 q2 rfl rfl rfl),_,_,_,_,rfl,hQ.put q1 _ _,fun i' s'=>?_⟩;rw [jeA hQ q1 q2,ZJ,Zu,hat i' s',hat i s];by_cases c:i'=i/\s'=s
     . obtain ⟨rfl,rfl⟩:=c;rw [if_pos ⟨rfl,rfl⟩];simp only [ind,and_self,Kl,reduceCtorEq,and_false,yL];rw [show inc pre i' s' + 1-(dec pre i' s' + 0)=inc pre i' s' - dec pre i' s' + 1 by omega,Int.mul_add];omega
     . rw [if_neg c];have c1:¬(i=i'/\s=s'):=fun z=>c ⟨z.1.symm,z.2.symm⟩;simp only [ind,c1,reduceCtorEq,and_false,yL];rw [show inc pre i' s' + 0-(dec pre i' s' + 0)=inc pre i' s' - dec pre i' s' by omega]
   | some o=>
     have ho:=q3 o rfl;refine ⟨[.sh ‹"j"›,.sh ‹"9"›,.sh (.int v),.oo (mD Q),.sh (.int i),.sh (.int o),.sh (.int s)],_,rfl,(qQ ((ZD (jR rfl)).trans (jeP hQ q1 ho rfl rfl rfl))).trans (jeP (hQ.put q1 _ _) q1 q2 rfl rfl rfl),_,_,_,_,rfl,(hQ.put q1 _ _).put q1 _ _,fun i' s'=>?_⟩;rw [jeA (hQ.put q1 _ _) q1 q2,jeA hQ q1 ho,jeA hQ q1 ho,ZJ,Zu,hat i' s',hat i o,hat i s];generalize hA:inc pre i' s'=A;generalize hB:dec pre i' s'=B;by_cases c:i'=i/\s'=s
     . obtain ⟨rfl,rfl⟩:=c;rw [if_pos ⟨rfl,rfl⟩];by_cases c2:s'=o
       . subst c2;rw [if_pos ⟨rfl,rfl⟩,hA,hB];simp only [ind,and_self,Kl];rw [show A+1-(B+1)=A-B by omega];omega
       . have c3:¬(i'=i'/\s'=o):=fun z=>c2 z.2;have c4:¬(i'=i'/\some o=some s'):=fun z=>c2 (Option.some.inj z.2).symm;rw [if_neg c3,hA,hB];rw [zY ⟨rfl,rfl⟩,zC c4];rw [show A+1-(B+0)=A-B+1 by omega,Int.mul_add];omega
     . rw [if_neg c];have c1:¬(i=i'/\s=s'):=fun z=>c ⟨z.1.symm,z.2.symm⟩;by_cases c2:i'=i/\s'=o
       . obtain ⟨rfl,rfl⟩:=c2;rw [if_pos ⟨rfl,rfl⟩,hA,hB];rw [zC c1,zY ⟨rfl,rfl⟩];rw [show A+0-(B+1)=A-B-1 by omega,KM v (A-B) 1];omega
       . have c4:¬(i=i'/\some o=some s'):=fun z=>c2 ⟨z.1.symm,(Option.some.inj z.2).symm⟩;rw [if_neg c2];simp only [ind,c1,c4,yL];rw [show A+0-(B+0)=A-B by omega]
 . rintro ρ ⟨Q,x,y,z,rfl,hQ,hat⟩;have e:jm9 3 (qM (jn 3)) [.sh ‹"j"›,.sh ‹"9"›,.sh (.int v),.oo (mD Q),x,y,z]=.ret (.lst (Q.map jh)):=by show Res.ret (.lst ((mD Q).map D.lst))=_;unfold mD;rw [YC];rfl
   rw [e];exact fin _ ⟨Q,rfl,hQ,hat⟩
theorem jnq {L:List Int} (h:L≠[]):∃v,v∈L/\(∀a∈L,v<=a)/\jfi [.lst (L.map D.int)]=some (.int v):=by
 cases e:jfF L with
 | none=>exact absurd (jgk e) h
 | some v=>obtain ⟨h1,h2⟩:=jes e;refine ⟨v,h1,h2,?_⟩;show ((J8 (L.map D.int)).bind fun ns=>(jfF ns).map D.int)=_;rw [JL,Yu,e];rfl
theorem jce {L:List Int} {x:Int} {fe:ef->Option D} {a b c d e g h k:Slot} (hl:L.length<4000) (hf:fe [a,b,c,d,e,.ow (L.map D.int),g,h,k]=some (.int x)):Zf 5 fe [a,b,c,d,e,.ow (L.map D.int),g,h,k]=.next [a,b,c,d,e,.ow ((L++[x]).map D.int),g,h,k]:=by unfold Zf;rw [hf];show (if zG (L.map D.int).length=true then Res.next _ else Res.fail)=_;rw [if_pos (qP (by rw [Yd];omega)),Y7];rfl
theorem jhq {n m:Nat} {tD:List Int} {tw tE:List (List Int)} (hd:tD.length=n) (hr:Shape n m tw) (hp:Shape n m tE) {i0:Nat} {o0:Option Nat} {s0:Nat} {rest:List ‹"z"›}
 (hw:∀q∈(i0,o0,s0)::rest,q.1<n/\q.2.2<m/\∀o,q.2.1=some o->o<m) (tL:rest.length<1000) :
 ∃d,(∃v,d=.int v/\v<=tD.getD i0 0-zp tE i0/\(∀q∈(i0,o0,s0)::rest,v<=j2 tw q.1 q.2.2-j2 tE q.1 q.2.2/\∀o,q.2.1=some o->v<=j2 tE q.1 o) /\
   (0<tD.getD i0 0-zp tE i0->(∀q∈(i0,o0,s0)::rest,0<j2 tw q.1 q.2.2-j2 tE q.1 q.2.2/\∀o,q.2.1=some o->0<j2 tE q.1 o)->0<v)) /\
   Jx [.lst (tD.map D.int),.lst (tw.map jh),.lst (tE.map jh),.lst (((i0,o0,s0)::rest).map qk)]=some d:=by
 have hi0:i0<n:=(hw _ Ye).1;unfold Jx;refine J6 (ρ:=[.sh ‹"g"›,.sh ‹"e"›,.sh ‹"j"›,.sh (.lst (((i0,o0,s0)::rest).map qk)),.un,.un,.un,.un,.un]) _ rfl rfl fun C fin=>?_;unfold QV;generalize hp0:(i0,o0,s0)::rest=p at *
 have e0:qt ‹"9"› (.int 0)=some (qk (i0,o0,s0)):=by rw [<-hp0];exact jko
 refine jE [.sh ‹"g"›,.sh ‹"e"›,.sh ‹"j"›,.sh ‹"9"›,.sh (.int i0),.un,.un,.un,.un] (jS (jm (jm rfl rfl e0) rfl jam)) ?_;have e1:jw JT (jw qt (ja 0) (ja 4)) (jk Qb (jd (jw qt (ja 2) (ja 4)) jo)) [.sh ‹"g"›,.sh ‹"e"›,.sh ‹"j"›,.sh ‹"9"›,.sh (.int i0),.un,.un,.un,.un]=some (.int (tD.getD i0 0-zp tE i0)):=jm (jm rfl rfl (QU (by omega))) (ju (ji (jm rfl rfl (Q3 hp hi0)) rfl) sum_ints) rfl
 refine jE [.sh ‹"g"›,.sh ‹"e"›,.sh ‹"j"›,.sh ‹"9"›,.sh (.int i0),.ow ([tD.getD i0 0-zp tE i0].map D.int),.un,.un,.un] ?_ ?_
 . unfold J2 JU;rw [ji e1 rfl];rfl
 refine jox qk p (fun pre ρ=>∃(L:List Int) (x y z:Slot),ρ=[.sh ‹"g"›,.sh ‹"e"›,.sh ‹"j"›,.sh ‹"9"›,.sh (.int i0),.ow (L.map D.int),x,y,z]/\L.length<=1+2*pre.length/\tD.getD i0 0-zp tE i0∈L /\
  (∀q∈pre,j2 tw q.1 q.2.2-j2 tE q.1 q.2.2∈L/\∀o,q.2.1=some o->j2 tE q.1 o∈L) /\
  (0<tD.getD i0 0-zp tE i0->(∀q∈p,0<j2 tw q.1 q.2.2-j2 tE q.1 q.2.2/\∀o,q.2.1=some o->0<j2 tE q.1 o)->∀x∈L,0<x)) (qo rfl)
  ⟨[tD.getD i0 0-zp tE i0],_,_,_,rfl,by simp,by simp,fun q hq=>absurd hq Yw,fun h _ x hx=>by rw [Yn.mp hx];exact h⟩ ?_ ?_
 . rintro pre q rest2 ρ hl ⟨L,x,y,z,rfl,hLl,hL0,hL1,hL2⟩;have hqm:q∈p:=by rw [hl];simp
   obtain ⟨q1,q2,q3⟩:=hw q hqm;obtain ⟨i,off,s⟩:=q;dsimp only at q1 q2 q3;have hpl:pre.length<1001:=by
    have:p.length=pre.length+(rest2.length+1):=by rw [hl];simp
    have:p.length=rest.length+1:=by rw [<-hp0];simp
    omega
   cases off with
   | none=>
     refine ⟨[.sh ‹"g"›,.sh ‹"e"›,.sh ‹"j"›,.sh ‹"9"›,.sh (.int i0),.ow (L.map D.int),.sh (.int i),.sh .non,.sh (.int s)],_,rfl,
       (qQ (jce (x:=j2 tw i s-j2 tE i s) (by omega) (jm (jm (jm rfl rfl (Q3 hr q1)) rfl (QF hr q1 q2)) (jm (jm rfl rfl (Q3 hp q1)) rfl (QF hp q1 q2)) rfl))).trans (zE (jR rfl)),_,_,_,_,rfl,?_,Yt _ hL0,fun q hq=>?_,fun h1 h2 x hx=>?_⟩
     . simp;omega
     . rcases YQ.mp hq with hq | hq
       . exact ⟨Yt _ (hL1 q hq).1,fun o ho=>Yt _ ((hL1 q hq).2 o ho)⟩
       . rw [Yn.mp hq];exact ⟨by simp,fun o ho=>by cases ho⟩
     . rcases YQ.mp hx with hx | hx
       . exact hL2 h1 h2 x hx
       . rw [Yn.mp hx];exact (h2 _ hqm).1
   | some o=>
     have ho:=q3 o rfl;refine ⟨[.sh ‹"g"›,.sh ‹"e"›,.sh ‹"j"›,.sh ‹"9"›,.sh (.int i0),.ow (L.map D.int),.sh (.int i),.sh (.int o),.sh (.int s)],_,rfl,
       (qQ (jce (x:=j2 tw i s-j2 tE i s) (by omega) (jm (jm (jm rfl rfl (Q3 hr q1)) rfl (QF hr q1 q2)) (jm (jm rfl rfl (Q3 hp q1)) rfl (QF hp q1 q2)) rfl))).trans ((ZD (jR rfl)).trans (jce (x:=j2 tE i o) (by simp;omega) (jm (jm rfl rfl (Q3 hp q1)) rfl (QF hp q1 ho)))),_,_,_,_,rfl,?_,Yt _ (Yt _ hL0),fun q hq=>?_,fun h1 h2 x hx=>?_⟩
     . simp;omega
     . rcases YQ.mp hq with hq | hq
       . exact ⟨Yt _ (Yt _ (hL1 q hq).1),fun o ho=>Yt _ (Yt _ ((hL1 q hq).2 o ho))⟩
       . rw [Yn.mp hq];exact ⟨by simp,fun o' ho'=>by cases ho';simp⟩
     . rcases YQ.mp hx with hx | hx
       . rcases YQ.mp hx with hx | hx
         . exact hL2 h1 h2 x hx
         . rw [Yn.mp hx];exact (h2 _ hqm).1
       . rw [Yn.mp hx];exact (h2 _ hqm).2 o rfl
 . rintro ρ ⟨L,x,y,z,rfl,hLl,hL0,hL1,hL2⟩;obtain ⟨v,hv1,hv2,ev⟩:=jnq (L:=L) fun z=>by rw [z] at hL0;exact absurd hL0 Yw
   rw [Qn (ju (ji rfl rfl) ev)];exact fin _ ⟨v,rfl,hv2 _ hL0,fun q hq=>⟨hv2 _ (hL1 q hq).1,fun o ho=>hv2 _ ((hL1 q hq).2 o ho)⟩,fun h1 h2=>hL2 h1 h2 v hv1⟩
theorem jcL {n a:Nat} (c:Int):js (fun j=>if a=j then c else 0) n=if a<n then c else 0:=by
 induction n with
 | zero=>simp [js]
 | succ n ih=>
   show js _ n+(if a=n then c else 0)=_;rw [ih];by_cases h:a<n
   . rw [if_pos h,if_neg (by omega),if_pos (by omega)];omega
   . by_cases h2:a=n
     . rw [if_neg h,if_pos h2,if_pos (by omega)];omega
     . rw [if_neg h,if_neg h2,if_neg (by omega)];omega
theorem jaD {n a:Nat} (h:a<n) (P:Prop) [Decidable P]:js (fun i=>ind (a=i/\P)) n=ind P:=by
 rw [jf (g:=fun i=>if a=i then ind P else 0),jcL,if_pos h];intro i _;by_cases z:a=i
 . rw [if_pos z];by_cases q:P
   . rw [zY q,zY ⟨z,q⟩]
   . rw [zC q,zC fun w=>q w.2]
 . rw [if_neg z,zC fun w=>z w.1]
theorem jc4 {m b:Nat} (h:b<m) (P:Prop) [Decidable P]:js (fun s=>ind (P/\b=s)) m=ind P:=by
 rw [jf (g:=fun s=>if b=s then ind P else 0),jcL,if_pos h];intro s _;by_cases z:b=s
 . rw [if_pos z];by_cases q:P
   . rw [zY q,zY ⟨q,z⟩]
   . rw [zC q,zC fun w=>q w.1]
 . rw [if_neg z,zC fun w=>z w.2]
theorem jgy {p:List ‹"z"›} {i s:Nat} (h:∀q∈p,¬(q.1=i/\q.2.2=s)):inc p i s=0:=by
 induction p with
 | nil=>rfl
 | cons q p ih=>
   have e:inc (q::p) i s=ind (q.1=i/\q.2.2=s)+inc p i s:=by unfold inc;rw [List.map_cons,List.sum_cons]
   rw [e,zC (h q Ye),ih fun x hx=>h x (Yf _ hx)];rfl
theorem Zt {p:List ‹"z"›} {i s:Nat} (h:∀q∈p,¬(q.1=i/\q.2.1=some s)):dec p i s=0:=by
 induction p with
 | nil=>rfl
 | cons q p ih=>
   have e:dec (q::p) i s=ind (q.1=i/\q.2.1=some s)+dec p i s:=by unfold dec;rw [List.map_cons,List.sum_cons]
   rw [e,zC (h q Ye),ih fun x hx=>h x (Yf _ hx)];rfl
theorem jqv (P:Prop) [Decidable P]:0<=ind P/\ind P<=1:=by unfold ind;split <;> omega
theorem Qw {ks:List Nat} (nd:ks.Nodup) {a b s:Nat} (h1:ks[a]?=some s) (h2:ks[b]?=some s):a=b:=by
 obtain ⟨ha,ea⟩:=Yj.mp h1;obtain ⟨hb,eb⟩:=Yj.mp h2;have key:=Kf.mp nd;rcases Nat.lt_trichotomy a b with q | q | q
 . exact absurd (ea.trans eb.symm) (key a b ha hb q)
 . exact q
 . exact absurd (eb.trans ea.symm) (key b a hb ha q)
structure PathOk (tw tE:List (List Int)) (n m:Nat) (ks:List Nat) (j s:Nat) (p:List (Nat×Option Nat×Nat)) (row:Nat->Int) (col:Nat->Int):Prop where
 ok:∀q∈p,q.1<n/\q.2.2<m/\(∀o,q.2.1=some o->o<m)/\j2 tE q.1 q.2.2<j2 tw q.1 q.2.2/\∀o,q.2.1=some o->0<j2 tE q.1 o
 on:∀q∈p,∃a,a<=j/\ks[a]?=some q.2.2
 off:∀q∈p,∀o,q.2.1=some o->∃a,a<j/\ks[a]?=some o
 len:p.length<=j+1
 inc1:∀i t,0<=inc p i t/\inc p i t<=1
 dec1:∀i t,0<=dec p i t/\dec p i t<=1
 cols:∀t,t<m->js (fun i=>inc p i t-dec p i t) n=ind (s=t)-col t
 rows:∀i,i<n->js (fun t=>inc p i t-dec p i t) m=row i
theorem PathOk.step {tw tE:List (List Int)} {n m:Nat} {ks:List Nat} (nd:ks.Nodup) {j j' s i o:Nat} {p:List ‹"z"›} {row col:Nat->Int} (h:PathOk tw tE n m ks j' o p row col) (hj:j'<j) (ho:ks[j']?=some o) (hs:ks[j]?=some s) (hom:o<m) (hsm:s<m) (hi:i<n) (hmv:Mv tw tE o s i) :
 PathOk tw tE n m ks j s (p++[(i,some o,s)]) row col:=by
 refine ⟨fun q hq=>?_,fun q hq=>?_,fun q hq x hx=>?_,?_,fun i' t=>?_,fun i' t=>?_,fun t ht=>?_,fun i' hi'=>?_⟩
 . rcases YQ.mp hq with hq | hq
   . exact h.ok q hq
   . rw [Yn.mp hq];exact ⟨hi,hsm,fun x hx=>by cases hx;exact hom,hmv.2,fun x hx=>by cases hx;exact hmv.1⟩
 . rcases YQ.mp hq with hq | hq
   . obtain ⟨a,h1,h2⟩:=h.on q hq;exact ⟨a,by omega,h2⟩
   . rw [Yn.mp hq];exact ⟨j,Ym _,hs⟩
 . rcases YQ.mp hq with hq | hq
   . obtain ⟨a,h1,h2⟩:=h.off q hq x hx;exact ⟨a,by omega,h2⟩
   . rw [Yn.mp hq] at hx;cases hx;exact ⟨j',hj,ho⟩
 . have:=h.len;simp;omega
 . rw [ZJ];have h1:=h.inc1 i' t;by_cases c:i=i'/\s=t
   . have z:inc p i' t=0:=jgy fun q hq w=>by obtain ⟨a,a1,a2⟩:=h.on q hq;rw [w.2,<- c.2] at a2;have:=Qw nd a2 hs;omega
     rw [z,zY (show (i,some o,s).1=i'/\(i,some o,s).2.2=t from c)];omega
   . rw [zC (show ¬((i,some o,s).1=i'/\(i,some o,s).2.2=t) from c)];omega
 . rw [Zu];have h1:=h.dec1 i' t;by_cases c:i=i'/\some o=some t
   . have z:dec p i' t=0:=Zt fun q hq w=>by obtain ⟨a,a1,a2⟩:=h.off q hq t w.2;rw [<-Option.some.inj c.2] at a2;have:=Qw nd a2 ho;omega
     rw [z,zY (show (i,some o,s).1=i'/\(i,some o,s).2.1=some t from c)];omega
   . rw [zC (show ¬((i,some o,s).1=i'/\(i,some o,s).2.1=some t) from c)];omega
 . rw [jf (g:=fun i'=>(inc p i' t-dec p i' t)+(ind (i=i'/\s=t)-ind (i=i'/\o=t))),qV,qH (f:=fun i'=>ind (i=i'/\s=t)) (g:=fun i'=>ind (i=i'/\o=t)),jaD hi,jaD hi,h.cols t ht]
   . omega
   . intro i' _;rw [ZJ,Zu];have e1:ind ((i,some o,s).1=i'/\(i,some o,s).2.2=t)=ind (i=i'/\s=t):=rfl;have e2:ind ((i,some o,s).1=i'/\(i,some o,s).2.1=some t)=ind (i=i'/\o=t):=by
       by_cases c:i=i'/\o=t
       . rw [zY c,zY (show (i,some o,s).1=i'/\(i,some o,s).2.1=some t from ⟨c.1,congrArg some c.2⟩)]
       . rw [zC c,zC fun w=>c ⟨w.1,Option.some.inj w.2⟩]
     rw [e1,e2];omega
 . rw [jf (g:=fun t=>(inc p i' t-dec p i' t)+(ind (i=i'/\s=t)-ind (i=i'/\o=t))),qV,qH (f:=fun t=>ind (i=i'/\s=t)) (g:=fun t=>ind (i=i'/\o=t)),jc4 hsm,jc4 hom,h.rows i' hi']
   . omega
   . intro t _;rw [ZJ,Zu];have e1:ind ((i,some o,s).1=i'/\(i,some o,s).2.2=t)=ind (i=i'/\s=t):=rfl;have e2:ind ((i,some o,s).1=i'/\(i,some o,s).2.1=some t)=ind (i=i'/\o=t):=by
       by_cases c:i=i'/\o=t
       . rw [zY c,zY (show (i,some o,s).1=i'/\(i,some o,s).2.1=some t from ⟨c.1,congrArg some c.2⟩)]
       . rw [zC c,zC fun w=>c ⟨w.1,Option.some.inj w.2⟩]
     rw [e1,e2];omega
theorem jm0 {n m:Nat} {tD:List Int} {tw tE:List (List Int)} {ks:List Nat} {ds:List D} (R:Rch tw tE n m (Bp tD tw tE n) ks ds) {j:Nat} {p:List ‹"z"›} (h:Path ks ds j p) :
 ∀s,ks[j]?=some s->∃i0 s0 rest,p=(i0,none,s0)::rest/\i0<n/\zp tE i0<tD.getD i0 0/\PathOk tw tE n m ks j s p (fun i=>ind (i0=i)) (fun _=>0):=by
 induction h with
 | @p j s i h1 h2=>
   intro s' hs';rw [h1] at hs';cases hs';have hsm:=R.lt s (Yz h1);rcases R.val j s _ h1 h2 with ⟨i',hi,e,b1,b2⟩ | ⟨i',o,j',_,_,_,e,_⟩
   . have:i=i':=by injection e with e;injection e with e;injection e with e;omega
     subst this;refine ⟨i,s,[],rfl,hi,b1,fun q hq=>?_,fun q hq=>?_,fun q hq o ho=>?_,by simp,fun i' t=>?_,fun i' t=>?_,fun t ht=>?_,fun i' hi'=>?_⟩
     . rw [Yn.mp hq];exact ⟨hi,hsm,fun o ho=>(by cases ho),b2,fun o ho=>(by cases ho)⟩
     . rw [Yn.mp hq];exact ⟨j,Ym _,h1⟩
     . rw [Yn.mp hq] at ho;cases ho
     . have e:inc [(i,none,s)] i' t=ind (i=i'/\s=t):=by unfold inc;simp
       rw [e];exact jqv _
     . have e:dec [(i,none,s)] i' t=0:=Zt fun q hq w=>by rw [Yn.mp hq] at w;cases w.2
       rw [e];omega
     . rw [jf (g:=fun i'=>ind (i=i'/\s=t)),jaD hi]
       . omega
       . intro i' _;have e:inc [(i,none,s)] i' t=ind (i=i'/\s=t):=by unfold inc;simp
         have e':dec [(i,none,s)] i' t=0:=Zt fun q hq w=>by rw [Yn.mp hq] at w;cases w.2
         rw [e,e'];omega
     . rw [jf (g:=fun t=>ind (i=i'/\s=t)),jc4 hsm];intro t _;have e:inc [(i,none,s)] i' t=ind (i=i'/\s=t):=by unfold inc;simp
       have e':dec [(i,none,s)] i' t=0:=Zt fun q hq w=>by rw [Yn.mp hq] at w;cases w.2
       rw [e,e'];omega
   . injection e with e;injection e with _ e;injection e with e;cases e
 | @c j h1=>intro s hs;rcases R.val j s _ hs h1 with ⟨i',hi,e,_⟩ | ⟨i',o,j',_,_,_,e,_⟩ <;> cases e
 | @s j j' s i o p h0 hj ho h1 h2 ih=>
   intro s' hs';rw [h1] at hs';cases hs';obtain ⟨i0,s0,rest,rfl,hi0,hb,ok⟩:=ih o ho;rcases R.val j s _ h1 h2 with ⟨i',hi,e,_⟩ | ⟨i',o',j'',_,_,hi',e,hmv⟩
   . injection e with e;injection e with _ e;injection e with e;cases e
   . have e1:i=i'/\o=o':=by injection e with e;injection e with a e;injection e with b e;injection a with a;injection b with b;exact ⟨by omega,by omega⟩
     obtain ⟨rfl,rfl⟩:=e1;exact ⟨i0,s0,rest++[(i,some o,s)],rfl,hi0,hb,ok.step R.nd hj ho h1 (R.lt o (Yz ho)) (R.lt s (Yz h1)) hi' hmv⟩
structure Feas (n m:Nat) (tD:List Int) (tw:List (List Int)) (tH:List Int) (P:List (List Int)):Prop where
 sh:Shape n m P
 cell:∀i s,i<n->s<m->0<=j2 P i s/\j2 P i s<=j2 tw i s
 row:∀i,i<n->zp P i<=tD.getD i 0
 col:∀s,s<m->j8 P s<=tH.getD s 0
theorem jqV {v a b:Int} (ha:0<=a/\a<=1) (hb:0<=b/\b<=1):(v*(a-b)=0)\/(v*(a-b)=v/\a=1)\/(v*(a-b) = -v/\b=1):=by
 have h1:a=0\/a=1:=by omega
 have h2:b=0\/b=1:=by omega
 rcases h1 with rfl | rfl <;> rcases h2 with rfl | rfl
 . left;simp
 . right;right;simp
 . right;left;simp
 . left;simp
theorem jnM {p:List ‹"z"›} {i s:Nat} (h:inc p i s=1):∃q,q∈p/\q.1=i/\q.2.2=s:=Classical.byContradiction fun c=>by rw [jgy fun q hq w=>c ⟨q,hq,w⟩] at h;omega
theorem jmf {p:List ‹"z"›} {i s:Nat} (h:dec p i s=1):∃q,q∈p/\q.1=i/\q.2.1=some s:=Classical.byContradiction fun c=>by rw [Zt fun q hq w=>c ⟨q,hq,w⟩] at h;omega
theorem Feas.turn {n m:Nat} {tD:List Int} {tw:List (List Int)} {tH:List Int} {P Q:List (List Int)} (h:Feas n m tD tw tH P) (hQ:Shape n m Q) {ks:List Nat} {j s:Nat} {p:List ‹"z"›} {i0:Nat} (ok:PathOk tw P n m ks j s p (fun i=>ind (i0=i)) (fun _=>0)) {v:Int} (hi0:i0<n) (hs:s<m)
 (hat:∀i t,j2 Q i t=j2 P i t+v*(inc p i t-dec p i t)) (v0:0<v) (v1:v<=tD.getD i0 0-zp P i0) (v2:∀q∈p,v<=j2 tw q.1 q.2.2-j2 P q.1 q.2.2/\∀o,q.2.1=some o->v<=j2 P q.1 o) (v3:v<=tH.getD s 0-j8 P s) :
 Feas n m tD tw tH Q/\(∀t,t<m->j8 P t<=j8 Q t)/\qW Q n=qW P n+v:=by
 have hrow:∀i,i<n->zp Q i=zp P i+v*ind (i0=i):=fun i hi=>by rw [JA hQ hi,JA h.sh hi,<- ok.rows i hi,<- qi,<- qV];exact jf fun t _=>hat i t
 have hcol:∀t,t<m->j8 Q t=j8 P t+v*ind (s=t):=fun t ht=>by have e:=ok.cols t ht;rw [KQ] at e;rw [Jy hQ,Jy h.sh,<- e,<- qi,<- qV];exact jf fun i _=>hat i t
 refine ⟨⟨hQ,fun i t hi ht=>?_,fun i hi=>?_,fun t ht=>?_⟩,fun t ht=>?_,?_⟩
 . have h1:=h.cell i t hi ht;rw [hat i t];rcases jqV (v:=v) (ok.inc1 i t) (ok.dec1 i t) with e | ⟨e,e1⟩ | ⟨e,e1⟩
   . rw [e];omega
   . rw [e];obtain ⟨q,hq,rfl,rfl⟩:=jnM e1;have:=(v2 q hq).1;omega
   . rw [e];obtain ⟨q,hq,rfl,ho⟩:=jmf e1;have:=(v2 q hq).2 t ho;omega
 . rw [hrow i hi];by_cases z:i0=i
   . rw [zY z,<- z];omega
   . rw [zC z];have:=h.row i hi;omega
 . rw [hcol t ht];by_cases z:s=t
   . rw [zY z,<- z];omega
   . rw [zC z];have:=h.col t ht;omega
 . rw [hcol t ht];by_cases z:s=t
   . rw [zY z];omega
   . rw [zC z];omega
 . unfold qW;rw [jf (g:=fun i=>zp P i+v*ind (i0=i)) fun i hi=>hrow i hi,qV,qi];have e:js (fun i=>ind (i0=i)) n=1:=by
    rw [jf (g:=fun i=>ind (i0=i/\True)),jaD hi0,zY trivial];intro i _;by_cases z:i0=i
    . rw [zY z,zY ⟨z,trivial⟩]
    . rw [zC z,zC fun w=>z w.1]
   rw [e];omega
structure Fill (n m:Nat) (tD:List Int) (tw:List (List Int)) (tH:List Int) (P0 P:List (List Int)) (tG:List Bool):Prop where
 feas:Feas n m tD tw tH P
 mono:∀s,s<m->j8 P0 s<=j8 P s
 len:tG.length=m
 short:∀i s,i<n->s<m->zp P i<tD.getD i 0->j2 P i s<j2 tw i s->tG.getD s false=true
 clo:∀s,s<m->tG.getD s false=true->∀t,t<m->∀i,i<n->Mv tw P s t i->tG.getD t false=true
 full:∀s,s<m->tG.getD s false=true->j8 P s=tH.getD s 0
theorem jkA {n m:Nat} {P:List (List Int)} (h:Shape n m P):(P.map List.sum).sum=qW P n:=by rw [QQ List.sum [],h.1];rfl
theorem jfd {n m:Nat} {P:List (List Int)} (h:Shape n m P) {j:Nat} (hj:j<m):∀r∈P,j<r.length:=fun r hr=>by rw [h.2 r hr];exact hj
theorem jnH {n m:Nat} {P:List (List Int)} (h:Shape n m P) (hn:n<1000) {a b c e f g x y:Slot}:Qp (qh (ja 3)) (jA 0) ‹"m"› (jk Qb (jd (ja 0) jo)) 1 [] [a,b,c,.sh ‹"E"›,e,f,g,x,y]=some ((P.map List.sum).map D.int):=by refine qI (qo rfl) (by rw [Yd,h.1];omega) ?_;rw [Ji jh (fun r:List Int=>D.int r.sum) P fun r hr=>⟨_,rfl,rfl,ju rfl sum_ints⟩,YC];rfl
theorem jnD {n m:Nat} {P:List (List Int)} {tH:List Int} (h:Shape n m P) (hn:n<1000) (hm:m<1000) (ht:tH.length=m) {ks:List Nat} {ds:List D} (hk:∀s∈ks,s<m) (hl:ks.length<1000) {a b f g x y:Slot} :
 Qp (jd6 (jn 4)) (jA 0) (qT (jw dLt (jk QE (jd (jn 1) (jd (jn 0) jo))) (jw qt (ja 2) (ja 0)))) (jn 0) 1 [3,2] [a,b,.sh ‹"I"›,.sh ‹"E"›,.sh ‹"G"›,f,g,x,y] =
  some (nI (ks.filter fun s=>decide (j8 P s<tH.getD s 0))):=by
 have e:jd6 (jn 4) [a,b,.sh ‹"I"›,.sh ‹"E"›,.sh ‹"G"›,f,g,x,y]=some (nI ks):=by show some ((kI ks).map D.int)=_;rw [jrG]
 refine qI e (by unfold nI;rw [Yd];omega) ?_;unfold nI;refine jmD (fun k:Nat=>D.int (k:Int)) (fun k:Nat=>D.int (k:Int)) (fun s=>decide (j8 P s<tH.getD s 0)) ks fun s hs=>?_;have hsm:=hk s hs;exact ⟨_,rfl,jR (jm (ju rfl (jah (jfd h hsm) (by rw [h.1];exact hn))) (jm rfl rfl (QU (by omega))) Zc),rfl⟩
theorem jkp {m:Nat} {tH:List Int} (ht:tH.length=m) (hm:m<1000) {ks:List Nat} {ds:List D} (nd:ks.Nodup) (hl:ks.length=ds.length) {a b c f g x y:Slot} :
 Qp (je4 (jd (jk QX (jd (ja 2) jo)) jo)) (jA 0) ‹"m"› (jw (jas false) (ja 0) (ja 1)) 1 [4] [a,b,.sh ‹"I"›,c,.sh ‹"G"›,f,g,x,y]=some (((List.range m).map fun s=>decide (s∈ks)).map D.bl):=by
 refine qI (ds:=(List.range m).map fun j:Nat=>D.int (j:Int)) ?_ (by simp;omega) ?_
 . rw [jeF (j:=(m:Int)) (ji (ju rfl ?_) rfl) (by omega) (by omega),Yv,jku];show some (D.int ((tH.map D.int).length:Int))=_;rw [Yd,ht]
 . rw [Ji (fun j:Nat=>D.int (j:Int)) (fun s=>D.bl (decide (s∈ks))) (List.range m) fun s _=>⟨_,rfl,rfl,jm rfl rfl ?_⟩,YC]
   . rfl
   . rw [jhd nd hl];simp
theorem jht {s:Nat} {r:List Nat}:qt (.lst (nI (s::r))) (.int 0)=some (.int s):=jko
theorem jby {n m:Nat} {tD:List Int} {tw:List (List Int)} {tH:List Int} {P0:List (List Int)} (hd:tD.length=n) (hr:Shape n m tw) (ht:tH.length=m) (F0:Feas n m tD tw tH P0) (hn:n<1000) (hm:m<1000) :
 ∃d,‹"at"›/\Zv [.lst (tD.map D.int),.lst (tw.map jh),.lst (tH.map D.int),.lst (P0.map jh)]=some d:=by
 unfold Zv;refine J6 (ρ:=[.sh ‹"g"›,.sh ‹"e"›,.sh ‹"I"›,.sh (.lst (P0.map jh)),.un,.un,.un,.un,.un]) _ rfl rfl fun C fin=>?_;unfold jcb
 suffices key:∃r,JZ (qT (eC (.bl true))) _ _=r/\∃d,r=.ret d/\∃P tG,d=.tup [.int (qW P n),.lst (P.map jh),.lst (tG.map D.bl)]/\Fill n m tD tw tH P0 P tG by obtain ⟨r,e,d,rfl,h⟩:=key;rw [e];exact fin d h
 refine jcd (fun k ρ=>∃(P:List (List Int)) (x4 x5 x6 x7 x8:Slot),ρ=‹"aM"›/\Feas n m tD tw tH P/\(∀s,s<m->j8 P0 s<=j8 P s)/\k=(js ‹"o"› n-qW P n).toNat) _ ⟨P0,_,_,_,_,_,rfl,F0,fun s _=>YR _,rfl⟩ ?_;rintro k ρ ⟨P,x4,x5,x6,x7,x8,rfl,F,mono,rfl⟩;refine .inr ⟨rfl,?_⟩;obtain ⟨d1,⟨ks1,ds1,rfl,R1,all1⟩,e1⟩:=jfB hd hr F.sh hm;have hn0:ks1≠[]->0<n:=fun h=>by
  cases ks1 with
  | nil=>exact absurd rfl h
  | cons s ks1=>
    have hl1:=R1.len;cases ds1 with
    | nil=>simp at hl1
    | cons d ds1=>
      rcases R1.val 0 s d rfl rfl with ⟨i,hi,_⟩ | ⟨i,o,j',hj,_⟩
      . omega
      . omega
 obtain ⟨d2,⟨ks,ds,rfl,R,⟨ex,hex⟩,hclo⟩,e2⟩:=jgK hr F.sh hm R1 hn0;have hkl:ks.length<1000:=yJ (zN m ks R.nd R.lt) hm
 suffices main:∀C:Res->Prop,(∀ρ2 k2,k2<(js ‹"o"› n-qW P n).toNat->(∃(P:List (List Int)) (x4 x5 x6 x7 x8:Slot),ρ2=‹"aM"›/\Feas n m tD tw tH P/\(∀s,s<m->j8 P0 s<=j8 P s)/\k2=(js ‹"o"› n-qW P n).toNat)->C (.next ρ2))->
  (∀d,‹"at"›->C (.ret d))->C _ from
  main (fun r=>(∃ρ2 k2,r=.next ρ2/\k2<(js ‹"o"› n-qW P n).toNat/\(∃(P:List (List Int)) (x4 x5 x6 x7 x8:Slot),ρ2=‹"aM"›/\Feas n m tD tw tH P/\(∀s,s<m->j8 P0 s<=j8 P s)/\k2=(js ‹"o"› n-qW P n).toNat))\/∃d,r=.ret d/\∃d',Res.ret d=.ret d'/\∃P tG,d'=.tup [.int (qW P n),.lst (P.map jh),.lst (tG.map D.bl)]/\Fill n m tD tw tH P0 P tG)
   (fun ρ2 k2 hk hP=>.inl ⟨ρ2,k2,rfl,hk,hP⟩) fun d h=>.inr ⟨d,rfl,d,rfl,h⟩
 intro C fnx frt;refine jE [.sh ‹"g"›,.sh ‹"e"›,.sh ‹"I"›,.sh ‹"E"›,.sh ‹"G"›,x5,x6,x7,x8] (jS (ju (ji rfl (ji rfl (ji (ju rfl e1) rfl))) e2)) ?_;generalize hfr:(ks.filter fun s=>decide (j8 P s<tH.getD s 0))=fr;refine jE ‹"aR"› (ja0 (by rw [<-hfr];exact jnD F.sh hn hm ht R.lt hkl)) ?_;have ec:qT (jw dEq (ja 5) (jK (JU jo))) ‹"aR"›=some (nI fr).isEmpty:=jR (jm rfl rfl jem);cases fr with
 | nil=>
   have hfull:∀s∈ks,¬j8 P s<tH.getD s 0:=fun s hs hlt=>by have:s∈ks.filter fun s=>decide (j8 P s<tH.getD s 0):=K1.mpr ⟨hs,YN hlt⟩;rw [hfr] at this;exact absurd this Yw
   refine jdU (d:=.tup [.int (qW P n),.lst (P.map jh),.lst (((List.range m).map fun s=>decide (s∈ks)).map D.bl)]) ((ZD ec).trans ((qQ (ρ':=[.sh ‹"g"›,.sh ‹"e"›,.sh ‹"I"›,.sh ‹"E"›,.sh ‹"G"›,.sh (.lst (nI [])),.sh (.int (qW P n)),x7,x8]) (jS (ju (ji (jX (jnH F.sh hn)) rfl) (sum_ints.trans (by rw [jkA F.sh]))))).trans (Qn ?_))) ?_
   . unfold QW;rw [ji rfl (ji rfl (ji (jX (jkp ht hm R.nd R.len)) rfl))];rfl
   . have mk:∀s,s<m->((List.range m).map fun s=>decide (s∈ks)).getD s false=decide (s∈ks):=fun s hs=>by rw [Yc,List.getElem?_map,yG hs];rfl
     refine frt _ ⟨P,(List.range m).map fun s=>decide (s∈ks),rfl,F,mono,by simp,fun i s hi hs h1 h2=>?_,fun s hs hk t htm i hi hmv=>?_,fun s hs hk=>?_⟩
     . rw [mk s hs,YN];rw [hex];exact Yt _ (all1 i s hi hs h1 h2)
     . rw [mk s hs] at hk;rw [mk t htm,YN];rcases hclo s (yQ hk) t htm with q | q
       . exact q
       . exact absurd hmv (q i hi)
     . rw [mk s hs] at hk;have h1:=hfull s (yQ hk);have h2:=F.col s hs;omega
 | cons s fr=>
   have hsm:s∈ks/\j8 P s<tH.getD s 0:=by
    have:s∈ks.filter fun s=>decide (j8 P s<tH.getD s 0):=by rw [hfr];exact Ye
    obtain ⟨a,b⟩:=K1.mp this;exact ⟨a,yQ b⟩
   obtain ⟨hsk,hslt⟩:=hsm;have hs:=R.lt s hsk;obtain ⟨j,hj,ej⟩:=yV hsk;have hjs:ks[j]?=some s:=by rw [Yb hj,ej]
   obtain ⟨l,⟨p,hp,rfl⟩,e3⟩:=jfE R hm (fun s d ⟨i,_,e,_⟩=>.inr ⟨i,e⟩) hjs;obtain ⟨i0,s0,rest,rfl,hi0,hb,ok⟩:=jm0 R hp s hjs;have tL:=ok.len;obtain ⟨d4,⟨v,rfl,v1,v2,v3⟩,e4⟩:=jhq hd hr F.sh (fun q hq=>⟨(ok.ok q hq).1,(ok.ok q hq).2.1,(ok.ok q hq).2.2.1⟩) (by simp at tL;omega);have v0:0<v:=v3 (by omega) fun q hq=>⟨by have:=(ok.ok q hq).2.2.2.1;omega,(ok.ok q hq).2.2.2.2⟩;refine jE [.sh ‹"g"›,.sh ‹"e"›,.sh ‹"I"›,.sh ‹"E"›,.sh ‹"G"›,.sh (.lst (nI (s::fr))),x6,x7,x8] (zE ec) ?_;refine jE [.sh ‹"g"›,.sh ‹"e"›,.sh ‹"I"›,.sh ‹"E"›,.sh ‹"G"›,.sh (.lst (nI (s::fr))),x6,.sh (.lst (((i0,none,s0)::rest).map qk)),x8] (ja0 (ju (ji rfl (ji (jm rfl rfl jht) rfl)) e3)) ?_;refine jE [.sh ‹"g"›,.sh ‹"e"›,.sh ‹"I"›,.sh ‹"E"›,.sh ‹"G"›,.sh (.lst (nI (s::fr))),x6,.sh (.lst (((i0,none,s0)::rest).map qk)),.sh (.int (tH.getD s 0-j8 P s))]
    (jS (jm (jm rfl (jm rfl rfl jht) (QU (by omega))) (ju (ji rfl (ji (jm rfl rfl jht) rfl)) (jah (jfd F.sh hs) (by rw [F.sh.1];exact hn))) rfl)) ?_
   have hw:∃w,0<w/\w<=v/\w<=tH.getD s 0-j8 P s/\jcB [.int (tH.getD s 0-j8 P s),.int v]=some (.int w):=by
    by_cases c:v<tH.getD s 0-j8 P s
    . exact ⟨v,v0,YR _,by omega,by show some (D.int (if v<tH.getD s 0-j8 P s then v else _))=_;rw [if_pos c]⟩
    . exact ⟨tH.getD s 0-j8 P s,by omega,by omega,YR _,by show some (D.int (if v<tH.getD s 0-j8 P s then v else _))=_;rw [if_neg c]⟩
   obtain ⟨w,w0,w1,w2,ew⟩:=hw;obtain ⟨d5,⟨Q,rfl,hQ,hat⟩,e5⟩:=jgi F.sh hn (fun q hq=>⟨(ok.ok q hq).1,(ok.ok q hq).2.1,(ok.ok q hq).2.2.1⟩) w;obtain ⟨FQ,mq,tq⟩:=F.turn hQ ok hi0 hs hat w0 (by omega) (fun q hq=>⟨by have:=(v2 q hq).1;omega,fun o ho=>by have:=(v2 q hq).2 o ho;omega⟩) w2;refine Q6 (jS (ju (ji rfl (ji rfl (ji (ju (ji rfl (ji (ju rfl e4) rfl)) ew) rfl))) e5)) ?_;have hle:qW Q n<=js ‹"o"› n:=qA fun i hi=>FQ.row i hi;exact fnx _ _ (by omega) ⟨Q,_,_,_,_,_,rfl,FQ,fun t ht=>KR (mono t ht) (mq t ht),rfl⟩
def jbp (mk:Nat->Bool) (P:List (List Int)) (m i:Nat):Int:=js (fun s=>if mk s=true then 0 else j2 P i s) m
theorem jdX (mk:Nat->Bool) {n m:Nat} {P:List (List Int)} (h:Shape n m P):qW P n=js (fun s=>if mk s=true then j8 P s else 0) m+js (fun i=>jbp mk P m i) n:=by
 have e:js (fun s=>if mk s=true then j8 P s else 0) m=js (fun i=>js (fun s=>if mk s=true then j2 P i s else 0) m) n:=by
  rw [JJ];refine jf fun s _=>?_;by_cases c:mk s=true
  . rw [if_pos c,Jy h];exact jf fun i _=>by rw [if_pos c]
  . rw [if_neg c,jV];intro i _;rw [if_neg c]
 rw [e,<- qV];unfold qW;refine jf fun i hi=>?_;rw [JA h hi];unfold jbp;rw [<-qV];refine jf fun s _=>?_;by_cases c:mk s=true
 . rw [if_pos c,if_pos c];omega
 . rw [if_neg c,if_neg c];omega
def ji6 (mk:Nat->Bool) (tD:List Int) (tw:List (List Int)) (tH:List Int) (n m:Nat):Int:=js (fun s=>if mk s=true then tH.getD s 0 else 0) m+js (fun i=>tD.getD i 0-jI (tD.getD i 0-jbp mk tw m i)) n
theorem jb7 (mk:Nat->Bool) {n m:Nat} {tD:List Int} {tw:List (List Int)} {tH:List Int} {P:List (List Int)} (F:Feas n m tD tw tH P) {i:Nat} (hi:i<n):jbp mk P m i<=zp P i:=by
 rw [JA F.sh hi];refine qA fun s hs=>?_;have:=(F.cell i s hi hs).1;by_cases c:mk s=true
 . rw [if_pos c];omega
 . rw [if_neg c];omega
theorem jaN (mk:Nat->Bool) {n m:Nat} {tD:List Int} {tw:List (List Int)} {tH:List Int} {P:List (List Int)} (F:Feas n m tD tw tH P) {i:Nat} (hi:i<n):jbp mk P m i<=jbp mk tw m i:=by
 refine qA fun s hs=>?_;have:=(F.cell i s hi hs).2;by_cases c:mk s=true
 . rw [if_pos c,if_pos c];omega
 . rw [if_neg c,if_neg c];omega
theorem joX (mk:Nat->Bool) {n m:Nat} {tD:List Int} {tw:List (List Int)} {tH:List Int} {P:List (List Int)} (F:Feas n m tD tw tH P):qW P n<=ji6 mk tD tw tH n m:=by
 rw [jdX mk F.sh];unfold ji6;have h1:js (fun s=>if mk s=true then j8 P s else 0) m<=js (fun s=>if mk s=true then tH.getD s 0 else 0) m:=qA fun s hs=>by
  have:=F.col s hs;by_cases c:mk s=true
  . rw [if_pos c,if_pos c];exact this
  . rw [if_neg c,if_neg c];omega
 have h2:js (fun i=>jbp mk P m i) n<=js (fun i=>tD.getD i 0-jI (tD.getD i 0-jbp mk tw m i)) n:=qA fun i hi=>by have a:=jb7 mk F hi;have b:=jaN mk F hi;have c:=F.row i hi;unfold jI;split <;> omega
 omega
theorem jj2 {n m:Nat} {tD:List Int} {tw:List (List Int)} {tH:List Int} {P0 P:List (List Int)} {tG:List Bool} (F:Fill n m tD tw tH P0 P tG):qW P n=ji6 ‹"J"› tD tw tH n m:=by
 rw [jdX ‹"J"› F.feas.sh];unfold ji6;have h1:js (fun s=>if tG.getD s false=true then j8 P s else 0) m=js (fun s=>if tG.getD s false=true then tH.getD s 0 else 0) m:=jf fun s hs=>by
  by_cases c:tG.getD s false=true
  . rw [if_pos c,if_pos c];exact F.full s hs c
  . rw [if_neg c,if_neg c]
 have h2:js (fun i=>jbp ‹"J"› P m i) n=js (fun i=>tD.getD i 0-jI (tD.getD i 0-jbp ‹"J"› tw m i)) n:=jf fun i hi=>by
  have a:=jb7 ‹"J"› F.feas hi;have b:=jaN ‹"J"› F.feas hi;have c:=F.feas.row i hi;by_cases q:zp P i<tD.getD i 0\/∃s,s<m/\tG.getD s false=true/\0<j2 P i s
  . -- all stretches without a mark are full
    have e:jbp ‹"J"› P m i=jbp ‹"J"› tw m i:=jf fun t ht=>by
      by_cases c:tG.getD t false=true
      . rw [if_pos c,if_pos c]
      . rw [if_neg c,if_neg c];have l:=(F.feas.cell i t hi ht).2;by_cases z:j2 P i t<j2 tw i t
        . exfalso;rcases q with q | ⟨s,hs,hms,hp⟩
          . exact c (F.short i t hi ht q z)
          . exact c (F.clo s hs hms t ht i hi ⟨hp,z⟩)
        . omega
    rw [e];unfold jI;split <;> omega
  . -- all of the need is in them
    have e:jbp ‹"J"› P m i=zp P i:=by
      rw [JA F.feas.sh hi];refine jf fun s hs=>?_;by_cases c:tG.getD s false=true
      . rw [if_pos c];have l:=(F.feas.cell i s hi hs).1;by_cases z:0<j2 P i s
        . exact absurd (Or.inr ⟨s,hs,c,z⟩) q
        . omega
      . rw [if_neg c]
    have q1:¬zp P i<tD.getD i 0:=fun z=>q (.inl z);rw [e];unfold jI;split <;> omega
 rw [h1,h2]
theorem ji1 {s:Ship} (hs:Sm s) (p:Int×Int):je2 [jj s,j9 p]=some (.int (Jl s p)):=by
 have h1:=hs.1;have h2:=hs.2;have el:=Zj p;unfold je2 jgI Jl;unfold j9 at el ⊢;unfold jj;simp (disch:=omega) only [ze,Yx,yI,kN,Nat.reduceAdd,jei,jC,Qq,Z2,qT,jw,ja,qK,List.map_cons,Kw,K9,KL,km,kF,YL,eC,Yu,jam,Y5,jhh,ZE,qM,jgD,jk,jd,jn,jo,Yy,ql,Kl];by_cases c1:s.b<=p.1
 . by_cases c2:p.2<=s.e
   . simp only [c1,c2,decide_true,and_self,Kl,el];simp (disch:=omega) only [Yu,jbq]
   . simp only [c1,c2,decide_true,decide_false,and_false,yL]
 . simp only [c1,decide_false,false_and,yL]
def jad (fl:List Ship) (s:Ship):D:=jh ((jx fl).map (Jl s))
theorem jdv {fl:List Ship} (hs:∀s∈fl,Sm s) (hl:fl.length<20):jat [.lst (fl.map jj)]=some (fl.map (jad fl)):=by
 have est:=JX fl hl;have hsl:=jbw hl
 suffices main:∀C:Res->Prop,C (.retO (fl.map (jad fl)))->C (QP [.sh ‹"aF"›,.un]) by exact main (fun r=>jdt r=some (fl.map (jad fl))) rfl
 intro C fin;unfold QP;refine jE [.sh ‹"aF"›,.sh (.lst ((jx fl).map j9))] (by simp (disch:=omega) only [jP,jK,jk,jd,jn,YL,jo,Yy,Yu,K0,KZ];simp only [est];simp (disch:=omega) only [Yy]) ?_;have last:∀r,r=Res.retO (fl.map (jad fl))->C r:=fun r h=>by rw [h];exact fin
 refine last _ ?_;unfold zO;rw [qI (qo rfl) (by rw [Yd];omega) (Ji jj (jad fl) fl fun s h=>?_)];refine ⟨[.sh (jj s),.sh (.lst ((jx fl).map j9))],rfl,rfl,?_⟩;unfold jK;rw [qI (qo rfl) (by rw [Yd];omega) (Ji j9 (fun p=>.int (Jl s p)) (jx fl) fun p hp=>?_)]
 . unfold jad jh;rw [YC];rfl
 . refine ⟨[.sh (j9 p),.sh (jj s)],rfl,rfl,?_⟩;have e:=ji1 (hs s h) p;simp (disch:=omega) only [jk,jd,jn,Y5,YL,jo,Yy,Yu];exact e
theorem jhs {fl:List Ship} (hl:fl.length<20):QM [.lst (fl.map jj)]=some ((fl.map (·.n)).map D.int):=by have e:QM [.lst (fl.map jj)]=jdt (QC ‹"7"›):=rfl;rw [e];unfold QC zO;rw [jbj 2 (·.n) (fun s=>jeS) _ 0 rfl (by omega)];rfl
theorem jd8 {fl:List Ship} (hl:fl.length<20):JB [.lst (fl.map jj)]=some (((jx fl).map fun p=>p.2-p.1).map D.int):=by
 have est:=JX fl hl;have hsl:=jbw hl;have e:JB [.lst (fl.map jj)]=jdt (Jz ‹"7"›):=rfl;rw [e];unfold Jz zO;rw [qI (qo (l:=(jx fl).map j9) (by simp (disch:=omega) only [jK,jk,jd,jn,YL,jo,Yy,Yu];simp only [est];simp (disch:=omega) only [Yy])) (by rw [Yd];omega) (Ji j9 (fun p=>.int (p.2-p.1)) (jx fl) fun p hp=>?_)]
 . rw [YC];rfl
 . refine ⟨[.sh (j9 p)],rfl,rfl,?_⟩;have el:=Zj p;simp (disch:=omega) only [jk,jd,jn,YL,jo,Yy,Yu];exact el
theorem Zr {fl:List Ship} (hfl:∀s∈fl,s.Ok) {j:Nat} (h:j<(jx fl).length):0<zW fl j/\zW fl j<2000000000000000:=by
 obtain ⟨h1,h2,h3⟩:=Zn (QL h);have bd:∀k∈zA fl,-500000000000000<=k/\k<=1000000000000000:=fun k hk=>by
  rcases YQ.mp (mem_bnds.mp hk) with z | z
  . obtain ⟨s,hs,rfl⟩:=YX.mp z;have:=(hfl s hs).lo;have:=(hfl s hs).hi;omega
  . obtain ⟨s,hs,rfl⟩:=YX.mp z;have:=(hfl s hs).lo;have:=(hfl s hs).hi;have:=(hfl s hs).lt;have:=(hfl s hs).long;omega
 have:=bd _ h2;have:=bd _ h3;unfold zW;omega
def J1 (fl:List Ship):List (List Int):=fl.map fun s=>(jx fl).map (Jl s)
def jbJ (fl:List Ship):List Int:=fl.map (·.n)
def ZN (n m:Nat):List (List Int):=(List.range n).map fun _=>List.replicate m 0
theorem jfo (fl:List Ship):Shape fl.length (jx fl).length (J1 fl):=⟨Yd _,fun r hr=>by unfold J1 at hr;obtain ⟨s,_,rfl⟩:=YX.mp hr;rw [Yd]⟩
def shp (fl:List Ship) (i:Nat):Ship:=fl.getD i ⟨0,0,0,0⟩
theorem jbl {fl:List Ship} {i:Nat} (h:i<fl.length):fl[i]?=some (shp fl i):=by unfold shp;rw [Yc,Yb h];rfl
theorem zT {fl:List Ship} {i:Nat} (h:i<fl.length):shp fl i∈fl:=Yz (jbl h)
theorem je8 {fl:List Ship} {i j:Nat} (hi:i<fl.length) (hj:j<(jx fl).length):j2 (J1 fl) i j=Jl (shp fl i) (QG fl j):=by
 unfold j2 J1;have e:(fl.map fun s=>(jx fl).map (Jl s)).getD i []=(jx fl).map (Jl (shp fl i)):=by rw [Yc,List.getElem?_map,jbl hi];rfl
 rw [e,Yc,List.getElem?_map,jg2 hj];rfl
theorem jb2 {fl:List Ship} {i:Nat} (hi:i<fl.length):(jbJ fl).getD i 0=(shp fl i).n:=by unfold jbJ;rw [Yc,List.getElem?_map,jbl hi];rfl
theorem jnI (fl:List Ship):fl.map (jad fl)=(J1 fl).map jh:=by unfold J1;rw [YC];rfl
theorem jck (n m:Nat):Shape n m (ZN n m):=⟨by unfold ZN;simp,fun r hr=>by unfold ZN at hr;obtain ⟨s,_,rfl⟩:=YX.mp hr;simp⟩
theorem jeK (n m i s:Nat):j2 (ZN n m) i s=0:=by
 unfold j2 ZN;by_cases h:i<n
 . rw [Yc (l:=List.map _ _),List.getElem?_map,yG h,Yy,ki,Yc,List.getElem?_replicate];split <;> rfl
 . rw [Yc (l:=List.map _ _),YI (by simp;omega)];rfl
theorem jjh {n m:Nat} {tD:List Int} {tw:List (List Int)} {tH:List Int} (h1:∀i s,i<n->s<m->0<=j2 tw i s) (h2:∀i,i<n->0<=tD.getD i 0) (h3:∀s,s<m->0<=tH.getD s 0):Feas n m tD tw tH (ZN n m):=by
 refine ⟨jck n m,fun i s hi hs=>?_,fun i hi=>?_,fun s hs=>?_⟩
 . rw [jeK];exact ⟨YR _,h1 i s hi hs⟩
 . rw [JA (jck n m) hi,jV fun s _=>jeK n m i s];exact h2 i hi
 . rw [Jy (jck n m),jV fun i _=>jeK n m i s];exact h3 s hs
theorem jgl (x:D):∀m,(List.replicate m [x]).flatten=List.replicate m x
 | 0=>rfl
 | m+1=>by rw [yu,KA,jgl x m,yu];rfl
theorem jdi {n m:Nat} {tw:List (List Int)} (hr:Shape n m tw) (hn:n<1000) (hm:m<1000):J3 [.lst (tw.map jh)]=some ((ZN n m).map jh):=by
 unfold J3;refine jb3 (ρ:=[.sh ‹"e"›]) rfl rfl fun C fin=>?_;unfold Zo;refine Q6 (ZG (l:=(ZN n m).map jh) ?_) fin;refine qI (qo rfl) (by rw [Yd,hr.1];omega) ?_;have e:(ZN n m).map jh=tw.map fun _=>jh (List.replicate m 0):=by
  unfold ZN;rw [YC];apply Ko;intro i;rw [List.getElem?_map,List.getElem?_map];by_cases h:i<n
  . rw [yG h,Yb (by rw [hr.1];exact h)];rfl
  . rw [YI (by simp;omega),YI (by rw [hr.1];omega)];rfl
 rw [e];refine Ji jh (fun _=>jh (List.replicate m 0)) tw fun r hr'=>⟨[.sh (jh r)],rfl,rfl,jX (jm rfl (ju rfl (show QX [jh r]=some (.int (m:Int)) from ?_)) ?_)⟩
 . show some (D.int ((r.map D.int).length:Int))=_;rw [Yd,hr.2 r hr']
 . show (if 0<=(m:Int)/\([D.int 0]:List D).length*(m:Int).toNat<=sizeLine/\(m:Int)<2 ^ 63 then some (List.replicate (m:Int).toNat [D.int 0]).flatten else none)=_;rw [if_pos ⟨by omega,by rw [PySem.sizeLine_eq];simp;omega,by omega⟩,Yv];congr 1;rw [List.map_replicate];exact jgl _ _
def qC (mk:Nat->Bool) (m:Nat):List Nat:=(List.range m).filter fun j=>mk j
theorem jcS (mk:Nat->Bool) (m:Nat):qC mk (m+1)=qC mk m++if mk m=true then [m] else []:=by unfold qC;rw [List.range_succ,List.filter_append];cases h:mk m <;> simp [h]
theorem jbX (mk:Nat->Bool) (f:Nat->Int):∀m,js (fun j=>f ((qC mk m).getD j 0)) (qC mk m).length=js (fun j=>if mk j=true then f j else 0) m
 | 0=>rfl
 | m+1=>by
   show _=js _ m+(if mk m=true then f m else 0);rw [<-jbX mk f m,jcS];have key:js (fun j=>f ((qC mk m++if mk m=true then [m] else []).getD j 0)) (qC mk m).length=js (fun j=>f ((qC mk m).getD j 0)) (qC mk m).length:=jf fun j hj=>by rw [Yc,YD hj,<- Yc]
   cases h:mk m with
   | false=>rw [h] at key;rw [if_neg Yh,if_neg Yh,yW,KS]
   | true=>rw [h,if_pos rfl] at key;rw [if_pos rfl,if_pos rfl,YG];show js _ (qC mk m).length+f _=_;rw [key,Yc,YH (Ym _),K9];rfl
def Jt (mk:Nat->Bool) (j:Nat):Nat:=(qC mk j).length
theorem ZW (mk:Nat->Bool) {m j:Nat} (hj:j<m) (h:mk j=true):Jt mk j<(qC mk m).length/\(qC mk m).getD (Jt mk j) 0=j:=by
 have key:∀m,j<m->∃t,qC mk m=qC mk j++j::t:=by
  intro m;induction m with
  | zero=>intro h;omega
  | succ m ih=>
    intro hjm;rw [jcS];by_cases z:j=m
    . subst z;exact ⟨[],by rw [if_pos h]⟩
    . obtain ⟨t,ht⟩:=ih (by omega);exact ⟨t++if mk m=true then [m] else [],by rw [ht];simp⟩
 obtain ⟨t,ht⟩:=key m hj;unfold Jt;rw [ht];refine ⟨by simp,?_⟩;rw [Yc,YH (Ym _),K9];rfl
theorem jmr {mk:Nat->Bool} {m i:Nat} (h:i<(qC mk m).length):(qC mk m).getD i 0<m/\mk ((qC mk m).getD i 0)=true:=by
 have e:(qC mk m)[i]?=some ((qC mk m).getD i 0):=by rw [Yc,Yb h];rfl
 have:=Yz e;unfold qC at this;obtain ⟨a,b⟩:=K1.mp this;exact ⟨kQ.mp a,b⟩
def keep (mk:Nat->Bool) (x:List Int):List Int:=(qC mk x.length).map fun j=>x.getD j 0
theorem jhZ {mk:Nat->Bool} {x:List Int} {i:Nat} (h:i<(qC mk x.length).length):(keep mk x).getD i 0=x.getD ((qC mk x.length).getD i 0) 0:=by unfold keep;rw [Yc,List.getElem?_map,Yc (l:=qC mk x.length),Yb h];rfl
def qY (room:Nat->Nat->Int) (m:Nat) (mk:Nat->Bool) (i:Nat):Int:=js (fun s=>if mk s=true then 0 else room i s) m
def qE (n m:Nat) (need:Nat->Int) (room:Nat->Nat->Int) (mk:Nat->Bool):Int:=js (fun i=>jI (need i-qY room m mk i)) n
def zI (m:Nat) (len:Nat->Int) (mk:Nat->Bool):Int:=js (fun s=>if mk s=true then len s else 0) m
def zX (n:Nat) (P:Nat->Nat->Int) (s:Nat):Int:=js (fun i=>P i s) n
def qS (n m:Nat) (len:Nat->Int) (P:Nat->Nat->Int) (k:Int):Int:=js (fun s=>jI (zX n P s-k*len s)) m
structure EvenP (n m:Nat) (need:Nat->Int) (room:Nat->Nat->Int) (len:Nat->Int) (P:Nat->Nat->Int):Prop where
 row:∀i,i<n->js (P i) m=need i
 cell:∀i s,i<n->s<m->0<=P i s/\P i s<=room i s
 even:∀k,∃mk,qS n m len P k=qE n m need room mk-k*zI m len mk
theorem Jg (x:Int):0<=jI x/\x<=jI x:=by unfold jI;split <;> omega
theorem ZU {f g:Nat->Int} {n:Nat}:(∀j,j<n->g j<=f j)->js f n<=js g n->∀j,j<n->f j=g j:=by
 induction n with
 | zero=>intro _ _ j hj;omega
 | succ n ih=>
   intro h hs j hj;have h1:=qA (f:=g) (g:=f) (n:=n) fun j hj=>h j (by omega);have h2:=h n (by omega);have hs':js f n+f n<=js g n+g n:=hs;by_cases z:j=n
   . subst z;omega
   . exact ih (fun j hj=>h j (by omega)) (by omega) j (by omega)
theorem jj8 {x y:Int} (h:0<=y):jI (jI x-y)=jI (x-y):=by
 unfold jI;by_cases a:x>0
 . rw [if_pos a]
 . rw [if_neg a,if_neg (by omega),if_neg (by omega)]
theorem jkx {x r o:Int} (h0:0<=o) (h1:o<=r):jI (x-o)=jI (x-r)+jI (x-jI (x-r)-o):=by
 by_cases a:x-r>0
 . have e:jI (x-r)=x-r:=by unfold jI;rw [if_pos a]
   rw [e];unfold jI;split <;> split <;> omega
 . have e:jI (x-r)=0:=by unfold jI;rw [if_neg a]
   rw [e,KQ,KP]
theorem jjS {n m:Nat} {need:Nat->Int} {room:Nat->Nat->Int} {len:Nat->Int} {P:Nat->Nat->Int} {l:Int} (h0:∀i,i<n->0<=need i) (h1:∀i,i<n->need i<=js (room i) m) (hl:∀s,s<m->0<len s) (row:∀i,i<n->js (P i) m=need i) (cell:∀i s,i<n->s<m->0<=P i s/\P i s<=room i s)
 (lo:∀s,s<m->l*len s<=zX n P s) (hi:∀s,s<m->zX n P s<=(l+1)*len s):EvenP n m need room len P:=by
 refine ⟨row,cell,fun k=>?_⟩;by_cases c:k<=l
 . refine ⟨fun _=>true,?_⟩;have e1:qE n m need room (fun _=>true)=js need n:=jf fun i hi'=>by have:qY room m (fun _=>true) i=0:=jV fun s _=>if_pos rfl;rw [this,KQ];have:=h0 i hi';unfold jI;split <;> omega
   have e2:zI m len (fun _=>true)=js len m:=jf fun s _=>if_pos rfl;have e3:qS n m len P k=js (fun s=>zX n P s-k*len s) m:=jf fun s hs=>by have a:=lo s hs;have b:k*len s<=l*len s:=YV c (Y6 (hl s hs));unfold jI;split <;> omega
   rw [e1,e2,e3,qH,qi];have e4:js (fun s=>zX n P s) m=js need n:=by unfold zX;rw [<-JJ];exact jf row
   rw [e4]
 . refine ⟨fun _=>false,?_⟩;have e1:qE n m need room (fun _=>false)=0:=jV fun i hi'=>by have:qY room m (fun _=>false) i=js (room i) m:=jf fun s _=>if_neg Yh;rw [this];have:=h1 i hi';unfold jI;split <;> omega
   have e2:zI m len (fun _=>false)=0:=jV fun s _=>if_neg Yh;have e3:qS n m len P k=0:=jV fun s hs=>by have a:=hi s hs;have b:(l+1)*len s<=k*len s:=YV (by omega) (Y6 (hl s hs));unfold jI;split <;> omega
   rw [e1,e2,e3];omega
def nt (mk:Nat->Bool):Nat->Bool:=fun s=>!mk s
def pl (mk:Nat->Bool) (m t:Nat):Nat:=(qC mk m).getD t 0
theorem ji4 (mk:Nat->Bool) (m:Nat):(qC mk m).Nodup:=by unfold qC;exact List.Pairwise.filter _ List.nodup_range
theorem Jr {mk:Nat->Bool} {m t:Nat} (h:t<(qC mk m).length):pl mk m t<m/\mk (pl mk m t)=true:=jmr h
theorem jb1 {mk:Nat->Bool} {m t:Nat} (h:t<(qC mk m).length):Jt mk (pl mk m t)=t:=by
 obtain ⟨a,b⟩:=Jr h;obtain ⟨c,d⟩:=ZW mk a b;have e1:(qC mk m)[Jt mk (pl mk m t)]?=some (pl mk m t):=by
  have e:(qC mk m)[Jt mk (pl mk m t)]?=some ((qC mk m).getD (Jt mk (pl mk m t)) 0):=by rw [Yc,Yb c];rfl
  rw [e,d]
 have e2:(qC mk m)[t]?=some (pl mk m t):=by unfold pl;rw [Yc,Yb h];rfl
 exact Qw (ji4 mk m) e1 e2
theorem zo (M:Nat->Bool) (g:Nat->Int) (m:Nat):js g m=js (fun t=>g (pl M m t)) (qC M m).length+js (fun t=>g (pl (nt M) m t)) (qC (nt M) m).length:=by unfold pl;rw [jbX,jbX,<- qV];refine jf fun s _=>?_;unfold nt;cases M s <;> simp
def Q4 (M:Nat->Bool) (A B:Nat->Nat->Int):Nat->Nat->Int:=fun i s=>if M s=true then A i (Jt M s) else B i (Jt (nt M) s)
theorem jgm {M:Nat->Bool} {m t:Nat} (h:t<(qC (nt M) m).length):M (pl (nt M) m t)=false:=by
 have h2:(!M (pl (nt M) m t))=true:=(Jr h).2;cases hM:M (pl (nt M) m t) with
 | false=>rfl
 | true=>rw [hM] at h2;cases h2
theorem jiy {M:Nat->Bool} {m:Nat} {A B:Nat->Nat->Int} {i t:Nat} (h:t<(qC M m).length):Q4 M A B i (pl M m t)=A i t:=by unfold Q4;rw [if_pos (show M (pl M m t)=true from (Jr h).2),jb1 h]
theorem jhQ {M:Nat->Bool} {m:Nat} {A B:Nat->Nat->Int} {i t:Nat} (h:t<(qC (nt M) m).length):Q4 M A B i (pl (nt M) m t)=B i t:=by unfold Q4;rw [if_neg (by rw [jgm h];exact Yh),jb1 h]
theorem jjk {n m:Nat} {need:Nat->Int} {room:Nat->Nat->Int} {len:Nat->Int} {M:Nat->Bool} {l:Int} {A B:Nat->Nat->Int} (hr:∀i s,i<n->s<m->0<=room i s) (hl:∀s,s<m->0<len s)
 (best:∀mk,qE n m need room mk-l*zI m len mk<=qE n m need room M-l*zI m len M)
 (hA:EvenP n (qC M m).length (fun i=>jI (need i-qY room m M i)) (fun i t=>room i (pl M m t)) (fun t=>len (pl M m t)) A)
 (hB:EvenP n (qC (nt M) m).length (fun i=>need i-jI (need i-qY room m M i)) ‹"ad"› (fun t=>len (pl (nt M) m t)) B) :
 EvenP n m need room len (Q4 M A B):=by
 have plH:∀t,t<(qC M m).length->pl M m t<m:=fun t ht=>(Jr ht).1;have plL:∀t,t<(qC (nt M) m).length->pl (nt M) m t<m:=fun t ht=>(Jr ht).1;have hout:∀i,qY room m M i=js (fun t=>room i (pl (nt M) m t)) (qC (nt M) m).length:=fun i=>by unfold qY;rw [zo M,jV (f:=fun t=>if M (pl M m t)=true then 0 else room i (pl M m t)) fun t ht=>if_pos (Jr ht).2,KP];exact jf fun t ht=>if_neg (by rw [jgm ht];exact Yh)
 have hMh:zI m len M=js (fun t=>len (pl M m t)) (qC M m).length:=by unfold zI;rw [zo M,jV (f:=fun t=>if M (pl (nt M) m t)=true then len (pl (nt M) m t) else 0) fun t ht=>if_neg (by rw [jgm ht];exact Yh),KS];exact jf fun t ht=>if_pos (Jr ht).2
 -- tG within M
 let up:(Nat->Bool)->Nat->Bool:=fun mk s=>M s && mk (Jt M s)
 have upH:∀mk t,t<(qC M m).length->up mk (pl M m t)=mk t:=fun mk t ht=>by show (M _ && mk (Jt M _))=_;rw [(Jr ht).2,jb1 ht];rfl
 have upL:∀mk t,t<(qC (nt M) m).length->up mk (pl (nt M) m t)=false:=fun mk t ht=>by show (M _ && _)=_;rw [jgm ht];rfl
 have upHrs:∀mk,zI m len (up mk)=zI (qC M m).length (fun t=>len (pl M m t)) mk:=fun mk=>by unfold zI;rw [zo M,jV (f:=fun t=>if up mk (pl (nt M) m t)=true then len (pl (nt M) m t) else 0) fun t ht=>if_neg (by rw [upL mk t ht];exact Yh),KS];exact jf fun t ht=>by rw [upH mk t ht]
 have upWant:∀mk,qE n m need room (up mk)=qE n (qC M m).length (fun i=>jI (need i-qY room m M i)) (fun i t=>room i (pl M m t)) mk:=fun mk=>jf fun i hi=>by
  have e:qY room m (up mk) i=qY (fun i t=>room i (pl M m t)) (qC M m).length mk i+qY room m M i:=by rw [hout i];unfold qY;rw [zo M,jf (f:=fun t=>if up mk (pl M m t)=true then 0 else room i (pl M m t)) (g:=fun t=>if mk t=true then 0 else room i (pl M m t)) fun t ht=>by rw [upH mk t ht]];congr 1;exact jf fun t ht=>if_neg (by rw [upL mk t ht];exact Yh)
  have nn:0<=qY (fun i t=>room i (pl M m t)) (qC M m).length mk i:=JG fun t ht=>by
   split
   . exact YR _
   . exact hr i _ hi (plH t ht)
  show jI (need i-qY room m (up mk) i)=jI (jI (need i-qY room m M i)-qY (fun i t=>room i (pl M m t)) (qC M m).length mk i);rw [e,jj8 nn];congr 1;omega
 -- all of M, and tG outside
 let dn:(Nat->Bool)->Nat->Bool:=fun mk s=>M s || mk (Jt (nt M) s)
 have dnH:∀mk t,t<(qC M m).length->dn mk (pl M m t)=true:=fun mk t ht=>by show (M _ || _)=_;rw [show M (pl M m t)=true from (Jr ht).2];rfl
 have dnL:∀mk t,t<(qC (nt M) m).length->dn mk (pl (nt M) m t)=mk t:=fun mk t ht=>by show (M _ || mk (Jt _ _))=_;rw [jgm ht,jb1 ht];rfl
 have dnHrs:∀mk,zI m len (dn mk)=zI m len M+zI (qC (nt M) m).length (fun t=>len (pl (nt M) m t)) mk:=fun mk=>by rw [hMh];unfold zI;rw [zo M,jf (f:=fun t=>if dn mk (pl M m t)=true then len (pl M m t) else 0) (g:=fun t=>len (pl M m t)) fun t ht=>if_pos (dnH mk t ht)];congr 1;exact jf fun t ht=>by rw [dnL mk t ht]
 have dnWant:∀mk,qE n m need room (dn mk)=qE n m need room M+qE n (qC (nt M) m).length (fun i=>need i-jI (need i-qY room m M i)) ‹"ad"› mk:=fun mk=>by
  unfold qE;rw [<-qV];refine jf fun i hi=>?_;have e:qY room m (dn mk) i=qY ‹"ad"› (qC (nt M) m).length mk i:=by unfold qY;rw [zo M,jV (f:=fun t=>if dn mk (pl M m t)=true then 0 else room i (pl M m t)) fun t ht=>if_pos (dnH mk t ht),KP];exact jf fun t ht=>by rw [dnL mk t ht]
  have le:qY ‹"ad"› (qC (nt M) m).length mk i<=qY room m M i:=by rw [hout i];refine qA fun t ht=>?_;have:=hr i _ hi (plL t ht);show (if mk t=true then 0 else room i (pl (nt M) m t))<=_;split <;> omega
  have nn:0<=qY ‹"ad"› (qC (nt M) m).length mk i:=JG fun t ht=>by
   split
   . exact YR _
   . exact hr i _ hi (plL t ht)
  rw [e];exact jkx nn le
 have eAb:∀k,qS n m len (Q4 M A B) k=qS n (qC M m).length (fun t=>len (pl M m t)) A k+qS n (qC (nt M) m).length (fun t=>len (pl (nt M) m t)) B k:=fun k=>by
  unfold qS;rw [zo M];congr 1
  . refine jf fun t ht=>?_;have e:zX n (Q4 M A B) (pl M m t)=zX n A t:=jf fun i _=>jiy ht;rw [e]
  . refine jf fun t ht=>?_;have e:zX n (Q4 M A B) (pl (nt M) m t)=zX n B t:=jf fun i _=>jhQ ht;rw [e]
 have lowc:∀t,t<(qC (nt M) m).length->zX n B t<=l*len (pl (nt M) m t):=by
  obtain ⟨mk,e⟩:=hB.even l;have b:=best (dn mk);rw [dnWant,dnHrs,Int.mul_add] at b;have z:qS n (qC (nt M) m).length (fun t=>len (pl (nt M) m t)) B l<=0:=by omega
  intro t ht;have q:=ZU (f:=fun t=>jI (zX n B t-l*len (pl (nt M) m t))) (g:=fun _=>0) (fun t _=>(Jg _).1) (by rw [jV (f:=fun _=>0) fun _ _=>rfl];exact z) t ht;have:=(Jg (zX n B t-l*len (pl (nt M) m t))).2;omega
 have colA:js (fun t=>zX n A t) (qC M m).length=qE n m need room M:=by unfold zX qE;rw [<-JJ];exact jf fun i hi=>hA.row i hi
 have highc:∀t,t<(qC M m).length->l*len (pl M m t)<=zX n A t:=by obtain ⟨mk,e⟩:=hA.even l;have b:=best (up mk);rw [upWant,upHrs,<- e,hMh,<- colA,<- qi,<- qH] at b;intro t ht;have q:=ZU (f:=fun t=>jI (zX n A t-l*len (pl M m t))) (g:=fun t=>zX n A t-l*len (pl M m t)) (fun t _=>(Jg _).2) b t ht;have:=(Jg (zX n A t-l*len (pl M m t))).1;omega
 refine ⟨fun i hi=>?_,fun i s hi hs=>?_,fun k=>?_⟩
 . rw [zo M,jf (f:=fun t=>Q4 M A B i (pl M m t)) (g:=A i) fun t ht=>jiy ht,jf (f:=fun t=>Q4 M A B i (pl (nt M) m t)) (g:=B i) fun t ht=>jhQ ht,hA.row i hi,hB.row i hi];omega
 . unfold Q4;by_cases c:M s=true
   . rw [if_pos c];obtain ⟨r1,r2⟩:=ZW M hs c;have:=hA.cell i (Jt M s) hi r1;have e:pl M m (Jt M s)=s:=r2;rw [e] at this;exact this
   . rw [if_neg c];have c':nt M s=true:=by unfold nt;simpa using c
     obtain ⟨r1,r2⟩:=ZW (nt M) hs c';have:=hB.cell i (Jt (nt M) s) hi r1;have e:pl (nt M) m (Jt (nt M) s)=s:=r2;rw [e] at this;exact this
 . by_cases c:l<=k
   . obtain ⟨mk,e⟩:=hA.even k;refine ⟨up mk,?_⟩;rw [eAb,upWant,upHrs,e];have z:qS n (qC (nt M) m).length (fun t=>len (pl (nt M) m t)) B k=0:=jV fun t ht=>by have a:=lowc t ht;have b:l*len (pl (nt M) m t)<=k*len (pl (nt M) m t):=YV c (Y6 (hl _ (plL t ht)));show jI (zX n B t-k*len (pl (nt M) m t))=0;unfold jI;split <;> omega
     rw [z];omega
   . obtain ⟨mk,e⟩:=hB.even k;refine ⟨dn mk,?_⟩;rw [eAb,dnWant,dnHrs,e];have z:qS n (qC M m).length (fun t=>len (pl M m t)) A k=qE n m need room M-k*zI m len M:=by rw [hMh,<- colA,<- qi,<- qH];refine jf fun t ht=>?_;have a:=highc t ht;have b:k*len (pl M m t)<=l*len (pl M m t):=YV (by omega) (Y6 (hl _ (plH t ht)));show jI (zX n A t-k*len (pl M m t))=zX n A t-k*len (pl M m t);unfold jI;split <;> omega
     rw [z,Int.mul_add];omega
def qp (M:List Bool):D:=.lst (M.map D.bl)
theorem jgX {need:Int} {rs:List Int} {M:List Bool} (h:rs.length=M.length) (hl:rs.length<1000):jaq [.int need,jh rs,qp M]=some ‹"q"›:=by
 suffices main:∀C:Res->Prop,C (.ret ‹"q"›)->C (QD [.sh (.int need),.sh (.lst (rs.map D.int)),.sh (.lst (M.map D.bl)),.un]) by exact main (fun r=>jei r=some ‹"q"›) rfl
 intro C fin;have hz:Zi (jd (ja 1) (jd (ja 2) jo)) [.sh (.int need),.sh (.lst (rs.map D.int)),.sh (.lst (M.map D.bl)),.un]=some ((rs.zip M).map fun q=>.tup [.int q.1,.bl q.2]):=by unfold Zi;simp (disch:=omega) only [jd,ja,Y5,YL,jo,Yy,Yu];rw [jaL]
 have lc:=qI (m:=Ju 2 (jM (jA 0) (jM (jA 1) JD))) (ft:=jdj (qT (ja 1))) (fe:=jn 0) (n:=2) (ix:=[]) hz (by simp;omega)
  (jef (fun q:Int×Bool=>.tup [.int q.1,.bl q.2]) (fun q=>.int q.1) (fun q=>!q.2) _ fun q _=>⟨[.sh (.int q.1),.sh (.bl q.2)],rfl,rfl,rfl⟩)
 have ss:=jh4 (fun b=>!b) rs M h;have s1:Qb [.lst ((((rs.zip M).filter fun q=>!q.2).map fun q=>D.int q.1))]=some (.int (js (fun j=>if M.getD j false=true then 0 else rs.getD j 0) rs.length)):=by have:=jeY (((rs.zip M).filter fun q=>!q.2).map (·.1));rw [YC] at this;refine this.trans ?_;congr 2;refine ss.trans (jf fun j hj=>?_);cases M.getD j false <;> rfl
 unfold QD;refine jE [.sh (.int need),.sh (.lst (rs.map D.int)),.sh (.lst (M.map D.bl)),.sh (.int (js (fun j=>if M.getD j false=true then 0 else rs.getD j 0) rs.length))] (by simp (disch:=omega) only [jP,jk,jd,jK,jo,Yy,K0,KZ];simp only [lc];simp (disch:=omega) only [Yy,Yu];simp only [s1]) ?_
 have last:∀r,r=Res.ret ‹"q"›->C r:=fun r h=>by rw [h];exact fin
 refine last _ ?_;simp (disch:=omega) only [qM,jk,jd,jw,ja,YL,Y5,Yu,zm,eC,jo,Yy,jgu];rw [joY]
theorem jjt (x:List Int) (M:List Bool) (h:x.length=M.length):x.zip M=(List.range x.length).map fun j=>(x.getD j 0,M.getD j false):=by
 apply Ko;intro i;rw [List.getElem?_map];by_cases hi:i<x.length
 . rw [yG hi,Yy,YO.mpr ⟨_,_⟩]
   . show x[i]?=some (x.getD i 0);rw [Yc,Yb hi];rfl
   . have hi':i<M.length:=by omega
     show M[i]?=some (M.getD i false);rw [Yc,Yb hi'];rfl
 . rw [YI (by simp;omega),YI (by simp;omega)];rfl
def zB (M:List Bool) (b:Bool):Nat->Bool:=fun j=>M.getD j false == b
theorem jdK {x:List Int} {M:List Bool} (h:x.length=M.length) (hl:x.length<1000) (b:Bool):QO [jh x,qp M,.bl b]=some ((keep (zB M b) x).map D.int):=by
 unfold QO;refine jb3 (ρ:=[.sh (jh x),.sh (qp M),.sh (.bl b)]) rfl rfl fun C fin=>?_;unfold jgH;refine Q6 (ZG (l:=(keep (zB M b) x).map D.int) ?_) fin;have hz:Zi (jd (ja 0) (jd (ja 1) jo)) [.sh (jh x),.sh (qp M),.sh (.bl b)]=some ((x.zip M).map fun q=>.tup [.int q.1,.bl q.2]):=by show some (jaf (x.map D.int) (M.map D.bl))=_;rw [jaL]
 refine (qI hz (by simp;omega) (jef (fun q:Int×Bool=>.tup [.int q.1,.bl q.2]) (fun q=>.int q.1) (fun q=>q.2 == b) _ fun q _=>⟨[.sh (.int q.1),.sh (.bl q.2),.sh (.bl b)],rfl,jR ((jm rfl rfl js3).trans ?_),rfl⟩)).trans ?_
 . cases q.2 <;> cases b <;> rfl
 . rw [jjt x M h,List.filter_map,YC];unfold keep qC zB;rw [YC];rfl
theorem jch (M:List Bool) (b:Bool):∀j,j<=M.length->(M.take j).countP (· == b)=Jt (zB M b) j
 | 0,_=>by simp [Jt,qC]
 | j+1,h=>by
   have hj:j<M.length:=by omega
   have e:M.take (j+1)=M.take j++[M.getD j false]:=by rw [List.take_succ,Yc,Yb hj];rfl
   rw [e,List.countP_append,jch M b j (by omega)];unfold Jt;rw [jcS];unfold zB;cases hb:(M.getD j false == b) with
   | true=>rw [if_pos rfl,YG,List.countP_cons_of_pos (by simpa using hb)];rfl
   | false=>rw [if_neg Yh,yW,List.countP_cons_of_neg (by simpa using hb)];rfl
def jv (M:List Bool) (A B:List Int) (j:Nat):Int:=if M.getD j false=true then A.getD (Jt (zB M true) j) 0 else B.getD (Jt (zB M false) j) 0
def jaC (M:List Bool) (A B:List Int):List Int:=(List.range M.length).map (jv M A B)
theorem ZM:∀M:List Bool,jdk (M.map D.bl)=some M
 | []=>rfl
 | b::M=>by show (jdk (M.map D.bl)).map (b::·)=_;rw [ZM M];rfl
theorem jge {A B:List Int} {M:List Bool} (hl:M.length<1000) (hA:A.length=(qC (zB M true) M.length).length) (hB:B.length=(qC (zB M false) M.length).length):jay [jh A,jh B,qp M]=some ((jaC M A B).map D.int):=by
 unfold jay;refine jb3 (ρ:=[.sh (jh A),.sh (jh B),.sh (qp M),.un,.un,.un,.un]) rfl rfl fun C fin=>?_;unfold jcK;refine jE [.sh (jh A),.sh (jh B),.sh (qp M),.ow [],.un,.un,.un] rfl ?_;refine je9 (fun j:Nat=>.tup [.int (j:Int),.bl (M.getD j false)]) M.length (fun j ρ=>∃x y z,ρ=[.sh (jh A),.sh (jh B),.sh (qp M),.ow (((List.range j).map (jv M A B)).map D.int),x,y,z]) ?_ ⟨_,_,_,rfl⟩ ?_ ?_
 . show some (Zp (M.map D.bl))=_;rw [ZK D.bl false]
 . rintro j ρ hj ⟨x,y,z,rfl⟩;have ec:eBM jcg (jK (eSl (ja 2) pNo (pSo (ja 4)))) (jd (jn 5) jo) ‹"r"›=some (.int ((Jt (zB M (M.getD j false)) j:Nat):Int)):=by
    have es:jK (eSl (ja 2) pNo (pSo (ja 4))) ‹"r"›=some (.lst ((M.take j).map D.bl)):=by refine jX ?_;show some (L2.Qc (M.map D.bl) none (some (j:Int)))=_;rw [jcI j (by rw [Yd];omega),List.map_take]
    unfold eBM;rw [es,ji rfl rfl];show (jdk ((M.take j).map D.bl)).map _=_;rw [ZM];show some (D.int (((M.take j).countP (· == M.getD j false):Nat):Int))=_;rw [jch M _ j (by omega)]
   have ev:eIf (qT (ja 5)) (jw qt (ja 0) (ja 6)) (jw qt (ja 1) (ja 6)) [.sh (jh A),.sh (jh B),.sh (qp M),.ow (((List.range j).map (jv M A B)).map D.int),.sh (.int j),.sh (.bl (M.getD j false)),.sh (.int ((Jt (zB M (M.getD j false)) j:Nat):Int))]=some (.int (jv M A B j)):=by
    unfold eIf jv;rw [jR (b:=M.getD j false) rfl];cases hb:M.getD j false with
    | true=>obtain ⟨r1,_⟩:=ZW (zB M true) hj (by unfold zB;rw [hb];rfl);rw [if_pos rfl];exact jm rfl rfl (QU (by omega))
    | false=>obtain ⟨r1,_⟩:=ZW (zB M false) hj (by unfold zB;rw [hb];rfl);rw [if_neg Yh];exact jm rfl rfl (QU (by omega))
   refine ⟨‹"r"›,[.sh (jh A),.sh (jh B),.sh (qp M),.ow (((List.range (j+1)).map (jv M A B)).map D.int),.sh (.int j),.sh (.bl (M.getD j false)),.sh (.int ((Jt (zB M (M.getD j false)) j:Nat):Int))],rfl,?_,_,_,_,rfl⟩;rw [List.range_succ,Y7,Y7];exact (qQ (jS ec)).trans (jh3 rfl ev (by simp;omega))
 . rintro ρ ⟨x,y,z,rfl⟩;exact fin
structure Prob (n m:Nat) (tD:List Int) (tw:List (List Int)) (tF:List Int):Prop where
 nl:tD.length=n
 sh:Shape n m tw
 hl:tF.length=m
 n0:∀i,i<n->0<=tD.getD i 0
 n1:∀i,i<n->tD.getD i 0<=js (j2 tw i) m
 r0:∀i s,i<n->s<m->0<=j2 tw i s
 h0:∀s,s<m->0<tF.getD s 0
 h1:js ‹"x"› m<=1000000000000000000
abbrev jhG (n m:Nat) (tD:List Int) (tw:List (List Int)) (tF:List Int) (P:List (List Int)):Prop:=EvenP n m ‹"o"› (j2 tw) ‹"x"› (j2 P)
theorem jj9 {f:Nat->Int} {n j:Nat} (h:∀j,j<n->0<=f j) (hj:j<n):f j<=js f n:=by
 induction n with
 | zero=>omega
 | succ n ih=>
   have h1:=JG (f:=f) (n:=n) fun j hj=>h j (by omega);have h2:=h n (by omega);show f j<=js f n+f n;by_cases z:j=n
   . subst z;omega
   . have:=ih (fun j hj=>h j (by omega)) (by omega);omega
theorem jcH {tF:List Int} {l:Int} {s:Nat} (h:s<tF.length):(tF.map (l * ·)).getD s 0=l*tF.getD s 0:=by rw [Yc,List.getElem?_map,Yb h,Yc,Yb h];rfl
theorem joh {n m:Nat} {tD:List Int} {tw:List (List Int)} {tF:List Int} (hh:tF.length=m) (l:Int) (mk:Nat->Bool):ji6 mk tD tw (tF.map (l * ·)) n m=l*zI m ‹"x"› mk+(js ‹"o"› n-qE n m ‹"o"› (j2 tw) mk):=by
 unfold ji6 zI qE;rw [<-qi,<- qH];congr 1;refine jf fun s hs=>?_;by_cases c:mk s=true
 . rw [if_pos c,if_pos c];exact jcH (by omega)
 . rw [if_neg c,if_neg c,ka]
theorem jmR {n m:Nat} {tD:List Int} {tw:List (List Int)} {tF:List Int} {l:Int} {P0 P:List (List Int)} {tG:List Bool} (hh:tF.length=m) (F:Fill n m tD tw (tF.map (l * ·)) P0 P tG) (mk:Nat->Bool) :
 qE n m ‹"o"› (j2 tw) mk-l*zI m ‹"x"› mk<=qE n m ‹"o"› (j2 tw) ‹"J"›-l*zI m ‹"x"› ‹"J"›:=by
 have h1:=jj2 F;have h2:=joX mk F.feas;rw [joh hh] at h1 h2;omega
theorem jlP {n m:Nat} {need:Nat->Int} {room:Nat->Nat->Int} {mk mk':Nat->Bool} (h:∀s,s<m->mk s=mk' s):qE n m need room mk=qE n m need room mk':=jf fun i _=>by
 have:qY room m mk i=qY room m mk' i:=jf fun s hs=>by rw [h s hs]
 rw [this]
theorem jmM {m:Nat} {len:Nat->Int} {mk mk':Nat->Bool} (h:∀s,s<m->mk s=mk' s):zI m len mk=zI m len mk':=jf fun s hs=>by rw [h s hs]
theorem JS (M:List Bool) (s:Nat):zB M true s=M.getD s false:=by unfold zB;cases M.getD s false <;> rfl
theorem jbv (M:List Bool) (s:Nat):zB M false s=nt (zB M true) s:=by unfold nt;rw [JS];unfold zB;cases M.getD s false <;> rfl
theorem jgM (M:List Bool):zB M false=nt (zB M true):=funext (jbv M)
def Zz (mk:Nat->Bool) (m:Nat) (R:List (List Int)):List (List Int):=R.map fun r=>keep mk r
theorem jfl {mk:Nat->Bool} {x:List Int}:(keep mk x).length=(qC mk x.length).length:=Yd _
theorem jlB {n m:Nat} {R:List (List Int)} (h:Shape n m R) (mk:Nat->Bool):Shape n (qC mk m).length (Zz mk m R):=⟨by unfold Zz;rw [Yd];exact h.1,fun r hr=>by unfold Zz at hr;obtain ⟨q,hq,rfl⟩:=YX.mp hr;rw [jfl,h.2 q hq]⟩
theorem jaW {n m:Nat} {R:List (List Int)} (h:Shape n m R) (mk:Nat->Bool) {i t:Nat} (hi:i<n) (ht:t<(qC mk m).length):j2 (Zz mk m R) i t=j2 R i (pl mk m t):=by
 have e:(Zz mk m R).getD i []=keep mk (R.getD i []):=by unfold Zz;rw [Yc,List.getElem?_map,(h.row hi).1];rfl
 unfold j2 pl;rw [e,jhZ (by rw [(h.row hi).2];exact ht),(h.row hi).2]
theorem jaZ {m:Nat} {x:List Int} (h:x.length=m) (mk:Nat->Bool) {t:Nat} (ht:t<(qC mk m).length):(keep mk x).getD t 0=x.getD (pl mk m t) 0:=by unfold pl;rw [jhZ (by rw [h];exact ht),h]
theorem jcz {n m:Nat} {need need':Nat->Int} {room room':Nat->Nat->Int} {len len':Nat->Int} {P:Nat->Nat->Int} (h:EvenP n m need room len P) (h1:∀i,i<n->need i=need' i) (h2:∀i s,i<n->s<m->room i s=room' i s) (h3:∀s,s<m->len s=len' s):EvenP n m need' room' len' P:=by
 refine ⟨fun i hi=>(h.row i hi).trans (h1 i hi),fun i s hi hs=>by rw [<-h2 i s hi hs];exact h.cell i s hi hs,fun k=>?_⟩;obtain ⟨mk,e⟩:=h.even k;refine ⟨mk,?_⟩;have e1:qS n m len P k=qS n m len' P k:=jf fun s hs=>by rw [h3 s hs]
 have e2:qE n m need room mk=qE n m need' room' mk:=jf fun i hi=>by
  have:qY room m mk i=qY room' m mk i:=jf fun s hs=>by rw [h2 i s hi hs]
  rw [this,h1 i hi]
 have e3:zI m len mk=zI m len' mk:=jf fun s hs=>by rw [h3 s hs]
 rw [<-e1,<- e2,<- e3];exact e
theorem jf2 {n m:Nat} {need:Nat->Int} {room:Nat->Nat->Int} {len:Nat->Int} {P P':Nat->Nat->Int} (h:EvenP n m need room len P) (hP:∀i s,i<n->s<m->P i s=P' i s):EvenP n m need room len P':=by refine ⟨fun i hi=>by rw [<-h.row i hi];exact jf fun s hs=>(hP i s hi hs).symm,fun i s hi hs=>by rw [<-hP i s hi hs];exact h.cell i s hi hs,fun k=>?_⟩;obtain ⟨mk,e⟩:=h.even k;refine ⟨mk,?_⟩;rw [<-e];refine jf fun s hs=>?_;have:zX n P' s=zX n P s:=jf fun i hi=>(hP i s hi hs).symm;rw [this]
theorem jmm (mk:Nat->Bool) (m:Nat):(qC mk m).length+(qC (nt mk) m).length=m:=by
 have h:=zo mk (fun _=>1) m;have one:∀n:Nat,js (fun _=>1) n=(n:Int):=fun n=>by
  induction n with
  | zero=>rfl
  | succ n ih=>show js _ n+1=_;rw [ih];omega
 rw [one,one,one] at h;omega
def Za (tD:List Int) (tw:List (List Int)) (M:List Bool):List Int:=(tD.zip tw).map fun q=>jI (q.1-js (fun j=>if M.getD j false=true then 0 else q.2.getD j 0) q.2.length)
def jex (tD ins:List Int):List Int:=(tD.zip ins).map fun q=>q.1-q.2
theorem jpp {n m:Nat} {tD:List Int} {tw:List (List Int)} {M:List Bool} (h:tD.length=n) (hr:Shape n m tw) {i:Nat} (hi:i<n):(Za tD tw M).getD i 0=jI (tD.getD i 0-qY (j2 tw) m (zB M true) i):=by
 have e:(tD.zip tw)[i]?=some (tD.getD i 0,tw.getD i []):=by rw [YO];refine ⟨?_,(hr.row hi).1⟩;show tD[i]?=some (tD.getD i 0);rw [Yc,Yb (by omega)];rfl
 unfold Za;rw [Yc,List.getElem?_map,e];show jI (tD.getD i 0-js _ (tw.getD i []).length)=_;rw [(hr.row hi).2];congr 2;refine jf fun s _=>?_;rw [JS];rfl
theorem jqk {n:Nat} {tD ins:List Int} (h:tD.length=n) (h':ins.length=n) {i:Nat} (hi:i<n):(jex tD ins).getD i 0=tD.getD i 0-ins.getD i 0:=by
 have e:(tD.zip ins)[i]?=some (tD.getD i 0,ins.getD i 0):=by
  rw [YO];refine ⟨?_,?_⟩
  . show tD[i]?=some (tD.getD i 0);rw [Yc,Yb (by omega)];rfl
  . show ins[i]?=some (ins.getD i 0);rw [Yc,Yb (by omega)];rfl
 unfold jex;rw [Yc,List.getElem?_map,e];rfl
theorem jcG {m:Nat} (mk:Nat->Bool) (f:Nat->Int):js (fun t=>f (pl mk m t)) (qC mk m).length=js (fun s=>if mk s=true then f s else 0) m:=jbX mk f m
theorem jfn {n m:Nat} {tD:List Int} {tw:List (List Int)} {tF:List Int} (Pb:Prob n m tD tw tF) (mk:Nat->Bool) {ns:List Int} (hl:ns.length=n) (h0:∀i,i<n->0<=ns.getD i 0) (h1:∀i,i<n->ns.getD i 0<=js (fun t=>j2 tw i (pl mk m t)) (qC mk m).length) :
 Prob n (qC mk m).length ns (Zz mk m tw) (keep mk tF):=by
 refine ⟨hl,jlB Pb.sh mk,by rw [jfl,Pb.hl],h0,fun i hi=>?_,fun i t hi ht=>?_,fun t ht=>?_,?_⟩
 . rw [jf fun t ht=>jaW Pb.sh mk hi ht];exact h1 i hi
 . rw [jaW Pb.sh mk hi ht];exact Pb.r0 i _ hi (Jr ht).1
 . rw [jaZ Pb.hl mk ht];exact Pb.h0 _ (Jr ht).1
 . rw [jf fun t ht=>jaZ Pb.hl mk ht,jcG mk fun s=>tF.getD s 0];refine KR (qA fun s hs=>?_) Pb.h1;have:=Pb.h0 s hs;split <;> omega
theorem jgp {k n m:Nat} {tD:List Int} {tw:List (List Int)} {tF:List Int} (Pb:Prob n m tD tw tF) (hn:n<1000) (hm:m<1000) {M:List Bool} (hM:M.length=m) {l:Int}
 (best:∀mk,qE n m ‹"o"› (j2 tw) mk-l*zI m ‹"x"› mk<=qE n m ‹"o"› (j2 tw) (zB M true)-l*zI m ‹"x"› (zB M true))
 (IH:∀m' needs' rooms' hours',Prob n m' needs' rooms' hours'->m'<1000->0<m'->m'<=k->∃d,(∃P,d=.lst (P.map jh)/\Shape n m' P/\jhG n m' needs' rooms' hours' P)/\zi k [.lst (needs'.map D.int),.lst (rooms'.map jh),.lst (hours'.map D.int)]=some d)
 (hH:0<(qC (zB M true) m).length) (hL:0<(qC (zB M false) m).length) (hk:m<=k+1) :
 ∃d,(∃P,d=P.map jh/\Shape n m P/\jhG n m tD tw tF P)/\Jk 4 8 (qw (zi k)) [.lst (tD.map D.int),.lst (tw.map jh),.lst (tF.map D.int),qp M]=some d:=by
 have hadd:=jmm (zB M true) m;rw [<-jgM] at hadd;have hil:(Za tD tw M).length=n:=by unfold Za;rw [Yd,Kn,Pb.nl,Pb.sh.1,kO]
 have hol:(jex tD (Za tD tw M)).length=n:=by unfold jex;rw [Yd,Kn,Pb.nl,hil,kO]
 have iat:=fun i (hi:i<n)=>jpp (M:=M) Pb.nl Pb.sh hi;have oat:=fun i (hi:i<n)=>jqk (ins:=Za tD tw M) Pb.nl hil hi;have hsplit:∀i,i<n->js (j2 tw i) m=js (fun t=>j2 tw i (pl (zB M true) m t)) (qC (zB M true) m).length+qY (j2 tw) m (zB M true) i:=fun i hi=>by rw [jcG (zB M true) (j2 tw i)];unfold qY;rw [<-qV];refine jf fun s _=>?_;split <;> omega
 have hout:∀i,qY (j2 tw) m (zB M true) i=js (fun t=>j2 tw i (pl (zB M false) m t)) (qC (zB M false) m).length:=fun i=>by rw [jcG (zB M false) (j2 tw i)];refine jf fun s _=>?_;rw [jbv];unfold nt;cases zB M true s <;> simp
 have onn:∀i,i<n->0<=qY (j2 tw) m (zB M true) i:=fun i hi=>JG fun s hs=>by have:=Pb.r0 i s hi hs;split <;> omega
 have p1:Prob n (qC (zB M true) m).length (Za tD tw M) (Zz (zB M true) m tw) (keep (zB M true) tF):=jfn Pb _ hil (fun i hi=>by rw [iat i hi];exact (Jg _).1) (fun i hi=>by rw [iat i hi];have h1:=Pb.n1 i hi;rw [hsplit i hi] at h1;have h2:0<=js (fun t=>j2 tw i (pl (zB M true) m t)) (qC (zB M true) m).length:=JG fun t ht=>Pb.r0 i _ hi (Jr ht).1;unfold jI;split <;> omega)
 have p2:Prob n (qC (zB M false) m).length (jex tD (Za tD tw M)) (Zz (zB M false) m tw) (keep (zB M false) tF):=jfn Pb _ hol (fun i hi=>by
  rw [oat i hi,iat i hi];have h1:=Pb.n0 i hi;have h2:=onn i hi;unfold jI;split <;> omega) (fun i hi=>by
  rw [oat i hi,iat i hi,<- hout i];have h2:=onn i hi;unfold jI;split <;> omega)
 obtain ⟨d1,⟨P1,rfl,s1,ev1⟩,e1⟩:=IH _ _ _ _ p1 (by omega) hH (by omega);obtain ⟨d2,⟨P2,rfl,s2,ev2⟩,e2⟩:=IH _ _ _ _ p2 (by omega) hL (by omega);have kr:∀b (ρ:ef) (i:Nat),ja i ρ=some ‹"e"›->zU 1 [3] ρ=[.un,.sh (qp M)]->∀fe,(∀r:List Int,r∈tw->fe [.sh (jh r),.sh (qp M)]=some (jh (keep (zB M b) r)))->Qp (qh (ja i)) (jA 0) ‹"m"› fe 1 [3] ρ=some ((Zz (zB M b) m tw).map jh):=fun b ρ i h1 h2 fe h3=>by refine qI (qo h1) (by rw [Yd,Pb.sh.1];omega) ?_;rw [h2];unfold Zz;rw [YC];exact Ji jh (jh∘fun r=>keep (zB M b) r) tw fun r hr=>⟨[.sh (jh r),.sh (qp M)],rfl,rfl,h3 r hr⟩
 have kf:∀b (r:List Int),r∈tw->QO [jh r,qp M,.bl b]=some ((keep (zB M b) r).map D.int):=fun b r hr=>jdK (by rw [Pb.sh.2 r hr,hM]) (by rw [Pb.sh.2 r hr];exact hm) b;have kh:∀b,QO [.lst (tF.map D.int),qp M,.bl b]=some ((keep (zB M b) tF).map D.int):=fun b=>jdK (x:=tF) (by rw [Pb.hl,hM]) (by rw [Pb.hl];exact hm) b;refine jhY (ρ:=[.sh ‹"g"›,.sh ‹"e"›,.sh ‹"O"›,.sh (qp M),.un,.un,.un,.un]) _ rfl rfl fun C fin=>?_;unfold qw;refine jE [.sh ‹"g"›,.sh ‹"e"›,.sh ‹"O"›,.sh (qp M),.sh (.lst ((Za tD tw M).map D.int)),.un,.un,.un] (ja0 ?_) ?_
 . refine (qI (ds:=(tD.zip tw).map fun q=>.tup [.int q.1,jh q.2]) (by show some (jaf (tD.map D.int) (tw.map jh))=_;rw [jaL]) (by rw [Yd,Kn,Pb.nl];omega) (Ji (fun q:Int×List Int=>.tup [.int q.1,jh q.2]) (fun q=>.int (jI (q.1-js (fun j=>if M.getD j false=true then 0 else q.2.getD j 0) q.2.length))) _ fun q hq=>⟨[.sh (.int q.1),.sh (jh q.2),.sh (qp M)],rfl,rfl,ju rfl (jgX ?_ ?_)⟩)).trans ?_
   . rw [Pb.sh.2 _ (Km hq).2,hM]
   . rw [Pb.sh.2 _ (Km hq).2];exact hm
   . unfold Za;rw [YC];rfl
 refine jE [.sh ‹"g"›,.sh ‹"e"›,.sh ‹"O"›,.sh (qp M),.sh (.lst ((Za tD tw M).map D.int)),.sh (.lst ((jex tD (Za tD tw M)).map D.int)),.un,.un] (ja0 ?_) ?_
 . refine (qI (ds:=(tD.zip (Za tD tw M)).map fun q=>.tup [.int q.1,.int q.2]) (by show some (jaf (tD.map D.int) ((Za tD tw M).map D.int))=_;rw [jaL]) (by rw [Yd,Kn,Pb.nl];omega) (Ji (fun q:Int×Int=>.tup [.int q.1,.int q.2]) (fun q=>.int (q.1-q.2)) _ fun q hq=>⟨[.sh (.int q.1),.sh (.int q.2)],rfl,rfl,jm rfl rfl zm⟩)).trans ?_;unfold jex;rw [YC];rfl
 refine jE [.sh ‹"g"›,.sh ‹"e"›,.sh ‹"O"›,.sh (qp M),.sh (.lst ((Za tD tw M).map D.int)),.sh (.lst ((jex tD (Za tD tw M)).map D.int)),.sh (.lst (P1.map jh)),.un] (jS (ju (ji rfl (ji (jX (kr true _ 1 rfl rfl _ fun r hr=>jX (ju rfl (kf true r hr)))) (ji (jX (ju rfl (kh true))) rfl))) e1)) ?_;refine jE [.sh ‹"g"›,.sh ‹"e"›,.sh ‹"O"›,.sh (qp M),.sh (.lst ((Za tD tw M).map D.int)),.sh (.lst ((jex tD (Za tD tw M)).map D.int)),.sh (.lst (P1.map jh)),.sh (.lst (P2.map jh))] (jS (ju (ji rfl (ji (jX (kr false _ 1 rfl rfl _ fun r hr=>jX (ju rfl (kf false r hr)))) (ji (jX (ju rfl (kh false))) rfl))) e2)) ?_;refine Q6 (ZG (l:=((P1.zip P2).map fun q=>jaC M q.1 q.2).map jh) ?_) (fin _ ⟨(P1.zip P2).map fun q=>jaC M q.1 q.2,rfl,?_,?_⟩)
 . refine (qI (ds:=(P1.zip P2).map fun q=>.tup [jh q.1,jh q.2]) (by show some (jaf (P1.map jh) (P2.map jh))=_;rw [jaL]) (by rw [Yd,Kn,s1.1];omega) (Ji (fun q:List Int×List Int=>.tup [jh q.1,jh q.2]) (fun q=>jh (jaC M q.1 q.2)) _ fun q hq=>⟨[.sh (jh q.1),.sh (jh q.2),.sh (qp M)],rfl,rfl,jX (ju rfl (jge (by omega) ?_ ?_))⟩)).trans ?_
   . rw [s1.2 _ (Km hq).1,hM]
   . rw [s2.2 _ (Km hq).2,hM]
   . rw [YC];rfl
 . refine ⟨by rw [Yd,Kn,s1.1,s2.1,kO],fun r hr=>?_⟩;obtain ⟨q,_,rfl⟩:=YX.mp hr;unfold jaC;simp [hM]
 . have ev1':EvenP n (qC (zB M true) m).length (fun i=>jI (tD.getD i 0-qY (j2 tw) m (zB M true) i)) (fun i t=>j2 tw i (pl (zB M true) m t)) (fun t=>tF.getD (pl (zB M true) m t) 0) (j2 P1):=jcz ev1 (fun i hi=>iat i hi) (fun i t hi ht=>jaW Pb.sh _ hi ht) (fun t ht=>jaZ Pb.hl _ ht);have ev2':EvenP n (qC (nt (zB M true)) m).length (fun i=>tD.getD i 0-jI (tD.getD i 0-qY (j2 tw) m (zB M true) i)) (fun i t=>j2 tw i (pl (nt (zB M true)) m t)) (fun t=>tF.getD (pl (nt (zB M true)) m t) 0) (j2 P2):=by rw [<-jgM];exact jcz ev2 (fun i hi=>by rw [oat i hi,iat i hi]) (fun i t hi ht=>jaW Pb.sh _ hi ht) (fun t ht=>jaZ Pb.hl _ ht)
   refine jf2 (jjk (len:=fun s=>tF.getD s 0) Pb.r0 Pb.h0 best ev1' ev2') fun i s hi hs=>?_;have e:((P1.zip P2).map fun q=>jaC M q.1 q.2).getD i []=jaC M (P1.getD i []) (P2.getD i []):=by have e0:(P1.zip P2)[i]?=some (P1.getD i [],P2.getD i []):=YO.mpr ⟨(s1.row hi).1,(s2.row hi).1⟩;rw [Yc,List.getElem?_map,e0];rfl
   have e2:j2 ((P1.zip P2).map fun q=>jaC M q.1 q.2) i s=jv M (P1.getD i []) (P2.getD i []) s:=by unfold j2;rw [e];unfold jaC;rw [Yc (l:=List.map _ _),List.getElem?_map,yG (by rw [hM];exact hs)];rfl
   rw [e2];unfold jv Q4;rw [JS,<- jgM];rfl
theorem jl0 {n m:Nat} {P:List (List Int)} (h:Shape n m P):qW P n=js (fun s=>j8 P s) m:=by unfold qW;rw [jf (f:=zp P) fun i hi=>JA h hi,JJ];exact jf fun s _=>(Jy h s).symm
theorem jgd {mk:Nat->Bool} {m:Nat} (h:¬0<(qC mk m).length):∀s,s<m->mk s=false:=fun s hs=>by
 cases c:mk s with
 | false=>rfl
 | true=>exact absurd (yJ (yf _) (ZW mk hs c).1) h
theorem jbK {n m:Nat} {tD:List Int} {tw:List (List Int)} {tF:List Int} (Pb:Prob n m tD tw tF) {l:Int} {P0 P:List (List Int)} {M:List Bool} (F:Fill n m tD tw (tF.map (l * ·)) P0 P M)
 (h1:qW P n≠js ‹"o"› n) (h2:qW P n≠l*js ‹"x"› m):0<(qC (zB M true) m).length/\0<(qC (zB M false) m).length:=by
 have e:=jj2 F;rw [joh Pb.hl] at e;constructor
 . refine Classical.byContradiction fun c=>h1 ?_;have z:∀s,s<m->M.getD s false=false:=fun s hs=>by rw [<-JS];exact jgd c s hs
   have e1:zI m ‹"x"› (fun s=>M.getD s false)=0:=jV fun s hs=>if_neg (by show ¬M.getD s false=true;rw [z s hs];exact Yh);have e2:qE n m ‹"o"› (j2 tw) (fun s=>M.getD s false)=0:=jV fun i hi=>by have e3:qY (j2 tw) m (fun s=>M.getD s false) i=js (j2 tw i) m:=jf fun s hs=>if_neg (by show ¬M.getD s false=true;rw [z s hs];exact Yh);have:=Pb.n1 i hi;show jI (tD.getD i 0-_)=0;rw [e3];unfold jI;split <;> omega
   rw [e,e1,e2];omega
 . refine Classical.byContradiction fun c=>h2 ?_;have z:∀s,s<m->M.getD s false=true:=fun s hs=>by have:=jgd c s hs;rw [jbv] at this;unfold nt at this;rw [JS] at this;simpa using this
   have e1:zI m ‹"x"› (fun s=>M.getD s false)=js ‹"x"› m:=jf fun s hs=>if_pos (z s hs);have e2:qE n m ‹"o"› (j2 tw) (fun s=>M.getD s false)=js ‹"o"› n:=jf fun i hi=>by have e3:qY (j2 tw) m (fun s=>M.getD s false) i=0:=jV fun s hs=>if_pos (z s hs);have:=Pb.n0 i hi;show jI (tD.getD i 0-_)=_;rw [e3];unfold jI;split <;> omega
   rw [e,e1,e2];omega
theorem jil {tF:List Int} (hl:tF.length<1000) {l l':Int} (hb:∀h∈tF,-18446744073709551616<h/\h<18446744073709551616) {fl:ef->Option D} (hf:∀h:Int,fl [.sh (.int h),.sh (.int l)]=some (.int l')) {a b x y:Slot} :
 Qp (qh (ja 2)) (jA 0) ‹"m"› (jw zZ fl (ja 0)) 1 [3] [a,b,.sh ‹"O"›,.sh (.int l),x,y]=some ((tF.map (l' * ·)).map D.int):=by
 refine qI (qo rfl) (by rw [Yd];omega) ?_;rw [YC];exact Ji D.int (D.int∘fun h=>l' * h) tF fun h hh=>⟨[.sh (.int h),.sh (.int l)],rfl,rfl,jm (hf h) rfl (ZI (hb h hh).1 (hb h hh).2)⟩
theorem jd3 (n:Nat) (hn:n<1000):∀(k m:Nat) (tD:List Int) (tw:List (List Int)) (tF:List Int),Prob n m tD tw tF->m<1000->0<m->m<=k->∃d,(∃P,d=.lst (P.map jh)/\Shape n m P/\jhG n m tD tw tF P)/\zi k [.lst (tD.map D.int),.lst (tw.map jh),.lst (tF.map D.int)]=some d
 | 0,m,_,_,_,_,_,h0,h1=>by omega
 | k+1,m,tD,tw,tF,Pb,hm,h0,h1=>by
   have hsn:tD.sum=js ‹"o"› n:=by rw [jaK,Pb.nl]
   have hsh:tF.sum=js ‹"x"› m:=by rw [jaK,Pb.hl]
   have sn0:0<=js ‹"o"› n:=JG fun i hi=>Pb.n0 i hi;have sh1:=Pb.h1;have sh0:0<js ‹"x"› m:=Int.lt_of_lt_of_le (Pb.h0 0 h0) (jj9 (fun s hs=>Y6 (Pb.h0 s hs)) h0);have hb:∀h∈tF,-18446744073709551616<h/\h<18446744073709551616:=fun h hh=>by
     obtain ⟨s,hs,es⟩:=yV hh;have e:tF.getD s 0=h:=by rw [Yc,Yb hs,es];rfl
     have a:=Pb.h0 s (by rw [<-Pb.hl];exact hs);have b:=jj9 (f:=fun s=>tF.getD s 0) (n:=m) (j:=s) (fun s hs=>Y6 (Pb.h0 s hs)) (by rw [<-Pb.hl];exact hs);rw [e] at a;have b':h<=js ‹"x"› m:=by rw [<-e];exact b
     omega
   obtain ⟨lv,hlv⟩:∃lv,tD.sum/tF.sum=lv:=⟨_,rfl⟩;have l0:0<=lv:=by rw [<-hlv,hsn];exact Int.ediv_nonneg sn0 (by rw [hsh];omega)
   have l1:lv*js ‹"x"› m<=js ‹"o"› n:=by rw [<-hsn,<- hsh,<- hlv];exact Int.ediv_mul_le _ (by omega)
   have l2:js ‹"o"› n<(lv+1)*js ‹"x"› m:=by rw [<-hsn,<- hsh,<- hlv];exact Int.lt_ediv_add_one_mul_self _ (by omega)
   have tl:∀l:Int,(tF.map (l * ·)).length=m:=fun l=>by rw [Yd];exact Pb.hl
   have F0:Feas n m tD tw (tF.map (lv * ·)) (ZN n m):=jjh Pb.r0 Pb.n0 fun s hs=>by rw [jcH (by rw [Pb.hl];exact hs)];exact Kh l0 (Y6 (Pb.h0 s hs))
   obtain ⟨d0,⟨P0,M0,rfl,Fl⟩,e0⟩:=jby Pb.nl Pb.sh (tl lv) F0 hn hm;have F1:Feas n m tD tw (tF.map ((lv+1) * ·)) P0:=⟨Fl.feas.sh,Fl.feas.cell,Fl.feas.row,fun s hs=>by have a:=Fl.feas.col s hs;rw [jcH (by rw [Pb.hl];exact hs)] at a ⊢;have:=Pb.h0 s hs;rw [Int.add_mul,Int.one_mul];omega⟩
   obtain ⟨d1,⟨P1,M1,rfl,Fu⟩,e1⟩:=jby Pb.nl Pb.sh (tl (lv+1)) F1 hn hm;have ez:=jdi Pb.sh hn hm;have le1:qW P1 n<=js ‹"o"› n:=qA fun i hi=>Fu.feas.row i hi;have bestB:∀{l:Int} {Q0 Q:List (List Int)} {M:List Bool},Fill n m tD tw (tF.map (l * ·)) Q0 Q M->∀mk,qE n m ‹"o"› (j2 tw) mk-l*zI m ‹"x"› mk<=qE n m ‹"o"› (j2 tw) (zB M true)-l*zI m ‹"x"› (zB M true):=fun {l Q0 Q M} F mk=>by rw [jlP (mk:=zB M true) (mk':=fun s=>M.getD s false) fun s _=>JS M s,jmM (mk:=zB M true) (mk':=fun s=>M.getD s false) fun s _=>JS M s];exact jmR Pb.hl F mk
   have IH:=fun m' needs' rooms' hours' p (c:m'<1000) (a:0<m') (b:m'<=k)=>jd3 n hn k m' needs' rooms' hours' p c a b;show ∃d,_/\ze 3 6 (jaG (Jk 4 8 (qw (zi k)))) _=some d;refine J6 (ρ:=[.sh ‹"g"›,.sh ‹"e"›,.sh ‹"O"›,.un,.un,.un]) _ rfl rfl fun C fin=>?_;unfold jaG;refine jE [.sh ‹"g"›,.sh ‹"e"›,.sh ‹"O"›,.sh (.int lv),.un,.un] (jS (jm (ju rfl sum_ints) (ju rfl sum_ints) (by rw [zr (by omega) (by omega),hlv]))) ?_;refine jE ‹"aK"› (jS (ju (ji rfl (ji rfl (ji (jX (jil (by rw [Pb.hl];omega) hb fun _=>rfl)) (ji (jX (ju rfl ez)) rfl)))) e0)) ?_;have ec:qT (jw dLt (jw qt (ja 4) (eC (.int 0))) (jw zZ (ja 3) (jk Qb (jd (ja 2) jo)))) ‹"aK"›=some (decide (qW P0 n<lv*tF.sum)):=jR (jm (jm rfl rfl jam) (jm rfl (ju rfl sum_ints) (ZI (by omega) (by omega))) Zc);by_cases c1:qW P0 n<lv*tF.sum
   . obtain ⟨mh,ml⟩:=jbK Pb Fl (by rw [hsh] at c1;omega) (by rw [hsh] at c1;omega);obtain ⟨d,⟨P,rfl,sP,ev⟩,ed⟩:=jgp Pb hn hm Fl.len (bestB Fl) IH mh ml h1;refine jdU ((ZD (by rw [ec,YN c1])).trans (Qn (jX (ju (ji rfl (ji rfl (ji rfl (ji (jm rfl rfl jeS) rfl)))) ed)))) (fin _ ⟨P,rfl,sP,ev⟩)
   . refine jE ‹"aK"› (zE (by rw [ec,YU c1])) ?_;refine jE ‹"aL"› (jS (ju (ji rfl (ji rfl (ji (jX (jil (by rw [Pb.hl];omega) hb fun _=>jm rfl rfl jZ)) (ji (jm rfl rfl ZE) rfl)))) e1)) ?_;have ec2:qT (jw dLt (jw qt (ja 5) (eC (.int 0))) (jk Qb (jd (ja 0) jo))) ‹"aL"›=some (decide (qW P1 n<tD.sum)):=jR (jm (jm rfl rfl jam) (ju rfl sum_ints) Zc);by_cases c2:qW P1 n<tD.sum
     . obtain ⟨mh,ml⟩:=jbK Pb Fu (by rw [hsn] at c2;omega) (by omega);obtain ⟨d,⟨P,rfl,sP,ev⟩,ed⟩:=jgp Pb hn hm Fu.len (bestB Fu) IH mh ml h1;refine jdU ((ZD (by rw [ec2,YN c2])).trans (Qn (jX (ju (ji rfl (ji rfl (ji rfl (ji (jm rfl rfl jeS) rfl)))) ed)))) (fin _ ⟨P,rfl,sP,ev⟩)
     . refine jE _ (zE (by rw [ec2,YU c2])) ?_;refine Q6 (Qn (jm rfl rfl ZE)) (fin _ ⟨P1,rfl,Fu.feas.sh,?_⟩);have rows:=ZU (f:=fun i=>tD.getD i 0) (g:=zp P1) (n:=n) (fun i hi=>Fu.feas.row i hi) (by rw [hsn] at c2;show _<=qW P1 n;omega);have cols:∀s,s<m->lv*tF.getD s 0=j8 P0 s:=ZU (f:=fun s=>lv*tF.getD s 0) (g:=fun s=>j8 P0 s) (n:=m) (fun s hs=>by have a:=Fl.feas.col s hs;rw [jcH (by rw [Pb.hl];exact hs)] at a;exact a) (by rw [<-jl0 Fl.feas.sh,qi];rw [hsh] at c1;omega)
       refine jjS (l:=lv) Pb.n0 Pb.n1 Pb.h0 (fun i hi=>by rw [<-JA Fu.feas.sh hi];exact (rows i hi).symm) Fu.feas.cell (fun s hs=>?_) (fun s hs=>?_)
       . rw [cols s hs];have:=Fu.mono s hs;rw [Jy Fu.feas.sh] at this;exact this
       . have a:=Fu.feas.col s hs;rw [jcH (by rw [Pb.hl];exact hs),Jy Fu.feas.sh] at a;exact a
theorem joK {ρ:ef} {x y:Int} {fb fc:ef->Option D} (h1:fb ρ=some (.int x)) (h2:fc ρ=some (.int y)) (h3:0<=x) (h4:x<=y):jb8 dLe dLe (eC (.int 0)) fb fc ρ=some (.bl true):=by unfold jb8 eC;simp only [h1,h2,Yu,jhh,YN h3,YN h4]
theorem jfN {s:Ship} (hs:s.Ok):Qy [jj s]=some (.bl true):=by
 have h1:=hs.lt;have h2:=hs.n0;have h3:=hs.m0;have h4:=hs.n1;have h5:=hs.m1;unfold Qy;refine jaz (ρ:=[.sh (jj s),.un]) rfl rfl fun C fin=>?_;unfold jbt;refine jE [.sh (jj s),.un] (zE (jnY (jfC (b:=true) (jR rfl)) (jR (jm (ju rfl rfl) rfl (jmg rfl))))) ?_;have lc:Qp (jbF (jn 0)) (jA 0) ‹"m"› (jk jan (jd (jn 0) jo)) 1 [] [.sh (jj s),.un]=some ([true,true,true,true].map D.bl):=by refine qI (jkT rfl) (by show 4<16777216;decide) ?_;exact Ji D.int (fun _=>D.bl true) [s.b,s.e,s.n,s.m] fun i _=>⟨[.sh (.int i)],rfl,rfl,rfl⟩
 refine jE [.sh (jj s),.un] (zE (jfC (b:=true) (jR (ju (ji (jX lc) rfl) (jiD _))))) ?_;refine jE [.sh (jj s),.sh (.int (s.e-s.b))] (jS (jm (jm rfl rfl ZE) (jm rfl rfl jam) rfl)) ?_;refine Q6 (Qn (jhB ((jm rfl rfl jcy).trans (by rw [YN (by omega)])) (jhB ((jm (jm rfl rfl jgD) rfl jo1).trans (by rw [YN (by omega)])) (d:=.bl true) ?_))) fin;exact joK (jm rfl rfl jeS) (jm (jm rfl rfl jgD) rfl (jbq (by omega) (by omega))) (by omega) (by omega)
theorem jen {fl:List Ship} (hfl:∀s∈fl,s.Ok) (hl:fl.length<1000):QY [.lst (fl.map jj)]=some (.bl true):=by
 unfold QY;refine jaz (ρ:=‹"7"›) rfl rfl fun C fin=>?_;unfold jag;have lc:Qp (qh (ja 0)) (jA 0) ‹"m"› (jk Qy (jd (jn 0) jo)) 1 [] ‹"7"›=some ((fl.map fun _=>true).map D.bl):=by refine qI (qo rfl) (by rw [Yd];omega) ?_;rw [YC];exact Ji jj (D.bl∘fun _=>true) fl fun s hs=>⟨[.sh (jj s)],rfl,rfl,ju rfl (jfN (hfl s hs))⟩
 refine Q6 (Qn (jhB rfl (ju (ji (jX lc) rfl) (jiD _)))) ?_;have:(fl.map fun _=>true).all id=true:=by simp
 rw [this];exact fin
theorem jcX {fl:List Ship} (hfl:∀s∈fl,s.Ok) (hl:fl.length<1000):zH [.lst (fl.map jj)]=some .non:=by unfold zH ze;rw [if_pos (show ([.lst (fl.map jj)]:List D).length=1 from rfl)];unfold Jq;show jei (Qq _ _ ql ‹"7"›)=_;rw [zE (jfC (b:=true) (jR (ju rfl (jen hfl hl))))];rfl
def J5 (fl:List Ship):List Int:=(jx fl).map fun p=>p.2-p.1
theorem J7 {fl:List Ship} {j:Nat} (hj:j<(jx fl).length):(J5 fl).getD j 0=zW fl j:=by unfold J5;rw [Yc,List.getElem?_map,jg2 hj];rfl
theorem jjO {fl:List Ship} {s:Ship} (hs:s∈fl) (hk:s.Ok):0<(jx fl).length:=by
 have h1:s.b∈zA fl:=mem_bnds.mpr (Yt _ (YX.mpr ⟨s,hs,rfl⟩));have h2:s.e∈zA fl:=mem_bnds.mpr (YF _ (YX.mpr ⟨s,hs,rfl⟩));have h3:=hk.lt;have hz:=jbV (zA fl);have hl:2<=(zA fl).length:=by
  generalize zA fl=l at h1 h2
  match l,h1,h2 with
  | [x],h1,h2=>have a:=Yn.mp h1;have b:=Yn.mp h2;omega
  | _::_::_,_,_=>simp
 unfold jx;omega
theorem jd7 (c:Int):∀n:Nat,js (fun _=>c) n=n*c
 | 0=>by simp [js]
 | n+1=>by show js (fun _=>c) n+c=_;rw [jd7 c n,show ((n+1:Nat):Int)=(n:Int)+1 from by omega,Int.add_mul,Int.one_mul]
theorem jnc {fl:List Ship} (hfl:∀s∈fl,s.Ok) (tL:fl.length<=8):Prob fl.length (jx fl).length (jbJ fl) (J1 fl) (J5 fl):=by
 have hsl:(jx fl).length<40:=jbw (by omega);refine ⟨Yd _,jfo fl,Yd _,fun i hi=>by rw [jb2 hi];exact (hfl _ (zT hi)).n0,fun i hi=>?_,fun i s hi hs=>by rw [je8 hi hs];exact jlY (hfl _ (zT hi)) (Zn (QL hs)).1,fun s hs=>by rw [J7 hs];exact (Zr hfl hs).1,?_⟩
 . have e:js (j2 (J1 fl) i) (jx fl).length=((jx fl).map (Jl (shp fl i))).sum:=by rw [<-JA (jfo fl) hi];unfold zp J1;rw [Yc,List.getElem?_map,jbl hi];rfl
   rw [e,jb2 hi,jjr (zT hi) (hfl _ (zT hi))];exact (hfl _ (zT hi)).n1
 . refine KR (qA (g:=fun _=>2000000000000000) fun s hs=>?_) ?_
   . rw [J7 hs];exact Y6 (Zr hfl hs).2
   . rw [jd7];omega
theorem ji0 {fl:List Ship} (hfl:∀s∈fl,s.Ok) (tL:fl.length<=8) :
 ∃d,(∃P,d=.lst (P.map jh)/\Shape fl.length (jx fl).length P/\jhG fl.length (jx fl).length (jbJ fl) (J1 fl) (J5 fl) P)/\jbh [.lst (fl.map jj)]=some d:=by
 have hsl:(jx fl).length<=16:=by have:=jaO fl;have:=jbV (zA fl);unfold jx;omega
 have em:=jcX hfl (by omega);have e1:=jdv (fl:=fl) (fun s hs=>jrH (hfl s hs)) (by omega);have e2:=jd8 (fl:=fl) (by omega);have e3:=jhs (fl:=fl) (by omega);rw [jnI] at e1;unfold jbh;refine J6 (ρ:=‹"7"›) _ rfl rfl fun C fin=>?_;unfold jg8;refine jE ‹"7"› (by unfold jft;rw [ju rfl em]) ?_;have ec:qT (jw dEq (ja 0) (jK (JU jo))) ‹"7"›=some (fl.map jj).isEmpty:=jR (jm rfl rfl jem);cases fl with
 | nil=>refine jdU (d:=.lst []) ((ZD ec).trans (Qn rfl)) (fin _ ⟨[],rfl,⟨rfl,fun r hr=>absurd hr Yw⟩,⟨fun i hi=>absurd hi (kD _),fun i s hi=>absurd hi (kD _),fun k=>⟨fun _=>false,?_⟩⟩⟩);show (0:Int)=0-k*0;omega
 | cons s fl=>have h0:=jjO (fl:=s::fl) Ye (hfl s Ye);obtain ⟨d,hd,ed⟩:=jd3 (s::fl).length (by simp at tL ⊢;omega) 17 _ _ _ _ (jnc hfl tL) (by omega) h0 (by omega);refine jE [.sh (.lst ((s::fl).map jj))] (zE ec) ?_;exact Q6 (Qn (ju (ji (jX (ju rfl e3)) (ji (jX (ju rfl e1)) (ji (jX (ju rfl e2)) rfl))) ed)) (fin _ hd)
def jap (fl:List Ship) (P:List (List Int)) (k:Int):Int:=js (fun j=>jI (j8 P j-k*zW fl j)) (jx fl).length
theorem jmO {fl:List Ship} {P:List (List Int)} (h:Shape fl.length (jx fl).length P) (k:Int):jap fl P k=qS fl.length (jx fl).length (fun s=>(J5 fl).getD s 0) (j2 P) k:=by unfold jap qS;refine jf fun s hs=>?_;rw [Jy h,<- J7 hs];rfl
structure Cum (c:Int->Int) (T:Int):Prop where
 lo:∀a b,a<=b->c a<=c b
 hi:∀a b,a<=b->c b-c a<=b-a
 tot:∀a b,c b-c a<=T
def zK (c:Int->Int) (s:Ship):Int:=jI (s.n-s.m*((s.e-s.b)-(c s.e-c s.b)))
def zu (fl:List Ship) (c:Int->Int):Int:=(fl.map (zK c)).sum
theorem jdE (g:Int->Int) (b e:Int):∀(x:Int) (l:List Int),(x::l).Pairwise (· < ·)->b<=x->x<=e->e∈x::l->(((x::l).zip l).map fun p=>if b<=p.1/\p.2<=e then g p.2-g p.1 else 0).sum=g e-g x
 | x,[],_,_,_,he=>by have:=Yn.mp he;subst this;show (0:Int)=_;omega
 | x,y::l,h,hb,hxe,he=>by
   have h':=YB.mp h;have hxy:=h'.1 y Ye;rw [Y1,List.map_cons,List.sum_cons];by_cases c:y<=e
   . have he':e∈y::l:=by
       rcases Yk.mp he with z | z
       . omega
       . exact z
     rw [jdE g b e y l h'.2 (by omega) c he',if_pos ⟨hb,c⟩];show g y-g x+_=_;omega
   . have hx:e=x:=by
       rcases Yk.mp he with z | z
       . exact z
       . have:=Qo h'.2 e z;omega
     rw [if_neg (show ¬(b<=x/\y<=e) from fun z=>c z.2)];have z:(((y::l).zip l).map fun p=>if b<=p.1/\p.2<=e then g p.2-g p.1 else 0)=((y::l).zip l).map fun _=>(0:Int):=yF fun p hp=>by have q:=Zs h'.2 p hp;have:=Qo h'.2 p.1 q.2.1;rw [if_neg (by omega)]
     have z0:∀l:List (Int×Int),(l.map fun _=>(0:Int)).sum=0:=fun l=>by
       induction l with
       | nil=>rfl
       | cons a l ih=>rw [List.map_cons,List.sum_cons,ih];rfl
     rw [z,z0,hx];omega
theorem jfw (g:Int->Int) (b e:Int) (hbe:b<=e):∀(l:List Int),l.Pairwise (· < ·)->b∈l->e∈l->((l.zip l.tail).map fun p=>if b<=p.1/\p.2<=e then g p.2-g p.1 else 0).sum=g e-g b
 | [],_,hb,_=>by cases hb
 | x::l,h,hb,he=>by
   by_cases c:b=x
   . subst c;exact jdE g b e b l h (YR _) hbe he
   . have hb':b∈l:=by rcases Yk.mp hb with z | z;exact absurd z c;exact z
     have h':=YB.mp h;have hxb:=h'.1 b hb';have he':e∈l:=by rcases Yk.mp he with z | z;omega;exact z
     have ih:=jfw g b e hbe l h'.2 hb' he';cases l with
     | nil=>cases hb'
     | cons y l=>rw [KC,Y1,List.map_cons,List.sum_cons,if_neg (show ¬(b<=x/\y<=e) from by omega),KP];exact ih
theorem jhH {fl:List Ship} {s:Ship} (hs:s∈fl) (hk:s.b<=s.e) (g:Int->Int):js (fun j=>if s.b<=(QG fl j).1/\(QG fl j).2<=s.e then g (QG fl j).2-g (QG fl j).1 else 0) (jx fl).length=g s.e-g s.b:=by have hb:s.b∈zA fl:=mem_bnds.mpr (Yt _ (yv hs));have he:s.e∈zA fl:=mem_bnds.mpr (YF _ (yv hs));rw [<-jfw g s.b s.e hk (zA fl) (JM fl) hb he];exact (QQ (fun p:Int×Int=>if s.b<=p.1/\p.2<=s.e then g p.2-g p.1 else 0) (0,0) (jx fl)).symm
theorem jfj (g:Int->Int):∀(x:Int) (l:List Int),∃y,(((x::l).zip l).map fun p=>g p.2-g p.1).sum=g y-g x
 | x,[]=>⟨x,by show (0:Int)=_;omega⟩
 | x,z::l=>by obtain ⟨y,hy⟩:=jfj g z l;refine ⟨y,?_⟩;rw [Y1,List.map_cons,List.sum_cons,hy];show g z-g x+_=_;omega
theorem jje {fl:List Ship} {c:Int->Int} {T:Int} (h:Cum c T):js (fun j=>c (QG fl j).2-c (QG fl j).1) (jx fl).length<=T:=by
 have e:=QQ (fun p:Int×Int=>c p.2-c p.1) (0,0) (jx fl);show js (fun j=>(fun p:Int×Int=>c p.2-c p.1) ((jx fl).getD j (0,0))) (jx fl).length<=T;rw [<-e];unfold jx;cases zA fl with
 | nil=>have:=h.tot 0 0;show (0:Int)<=T;omega
 | cons x l=>obtain ⟨y,hy⟩:=jfj c x l;rw [KC,hy];exact h.tot x y
def jcO (f:Nat->Int):Nat->Int
 | 0=>1
 | n+1=>jcO f n*f n
theorem jdY {f:Nat->Int}:∀{n:Nat},(∀j,j<n->0<f j)->0<jcO f n
 | 0,_=>by show (0:Int)<1;omega
 | n+1,h=>Int.mul_pos (jdY fun j hj=>h j (by omega)) (h n (by omega))
theorem jd1 {f:Nat->Int}:∀{n j:Nat},j<n->f j ∣ jcO f n
 | n+1,j,h=>by
   by_cases e:j=n
   . subst e;exact Int.dvd_mul_left _ _
   . exact Int.dvd_trans (jd1 (n:=n) (by omega)) (Int.dvd_mul_right _ _)
theorem jj4 {n m:Nat} {need:Nat->Int} {rho:Nat->Nat->Int} {len x:Nat->Int} {Q:Nat->Nat->Int} (row:∀i,i<n->js (Q i) m=need i) (cell:∀i s,i<n->s<m->0<=Q i s/\Q i s<=rho i s*len s) (hl:∀s,s<m->0<len s) (hx:∀s,s<m->0<=x s/\x s<=len s) {k T:Int} (hk:0<=k) (hT:js x m<=T) :
 js (fun i=>jI (need i-js (fun s=>rho i s*(len s-x s)) m)) n-k*T<=qS n m len Q k:=by
 have hL:=jdY hl;have hq:∀s,s<m->jcO len m/len s*len s=jcO len m/\0<=jcO len m/len s:=fun s hs=>⟨Int.ediv_mul_cancel (jd1 hs),Int.ediv_nonneg (Y6 hL) (Y6 (hl s hs))⟩;generalize jcO len m=L at hL hq;have h1:∀i,i<n->L*jI (need i-js (fun s=>rho i s*(len s-x s)) m)<=js (fun s=>L/len s*(Q i s*x s)) m:=fun i hi=>by
  unfold jI;split
  . rw [<-row i hi,<- qH,<- qi];refine qA fun s hs=>?_;obtain ⟨q1,q2⟩:=hq s hs;obtain ⟨c1,c2⟩:=cell i s hi hs;obtain ⟨x1,x2⟩:=hx s hs;generalize L/len s=q at q1 q2;rw [<-q1,kx];refine YK ?_ q2;have a:=YV c2 (show 0<=len s-x s by omega);have e1:rho i s*len s*(len s-x s)=len s*(rho i s*(len s-x s)):=by rw [Ky (rho i s),kx]
    rw [e1,KM] at a;rw [KM,Ky (len s) (Q i s)];omega
  . rw [ka];refine JG fun s hs=>?_;exact Kh (hq s hs).2 (Kh (cell i s hi hs).1 (hx s hs).1)
 have h2:L*js (fun i=>jI (need i-js (fun s=>rho i s*(len s-x s)) m)) n<=js (fun s=>L/len s*(zX n Q s*x s)) m:=by rw [<-qi];refine KR (qA h1) (kb ?_);rw [JJ];refine jf fun s _=>?_;rw [qi];congr 1;unfold zX;rw [Ky,<- qi];exact jf fun i _=>Ky _ _
 have h3:js (fun s=>L/len s*(zX n Q s*x s)) m-L*(k*js x m)<=L*qS n m len Q k:=by
  unfold qS;rw [<-qi,<- qi,<- qi,<- qH];refine qA fun s hs=>?_;obtain ⟨q1,q2⟩:=hq s hs;obtain ⟨x1,x2⟩:=hx s hs;generalize L/len s=q at q1 q2;rw [<-q1,kx,kx,<- KM];refine YK ?_ q2;generalize zX n Q s=t;have e:t*x s-len s*(k*x s)=(t-k*len s)*x s:=by rw [Int.sub_mul,<- kx,Ky (len s) k]
  rw [e];generalize t-k*len s=y;have p:=Jg y;have a1:=YV p.2 x1;have a2:=YK x2 p.1;rw [Ky (len s)];omega
 have h4:L*(k*js x m)<=L*(k*T):=YK (YK hT hk) (Y6 hL);refine Int.le_of_mul_le_mul_left (a:=L) ?_ hL;rw [KM];omega
def jjg (fl:List Ship) (i j:Nat):Int:=if (shp fl i).b<=(QG fl j).1/\(QG fl j).2<=(shp fl i).e then (shp fl i).m else 0
theorem jj6 {fl:List Ship} (hfl:∀s∈fl,s.Ok) {i:Nat} (hi:i<fl.length) (c:Int->Int):(shp fl i).m*(((shp fl i).e-(shp fl i).b)-(c (shp fl i).e-c (shp fl i).b))=js (fun s=>jjg fl i s*(zW fl s-(c (QG fl s).2-c (QG fl s).1))) (jx fl).length:=by
 have hs:=zT hi;have w:=jhH hs (Y6 (hfl _ hs).lt) (fun h=>h-c h);have e:((shp fl i).e-(shp fl i).b)-(c (shp fl i).e-c (shp fl i).b)=(shp fl i).e-c (shp fl i).e-((shp fl i).b-c (shp fl i).b):=by omega
 rw [e,<- w,<- qi];refine jf fun j _=>?_;unfold jjg zW;split
 . congr 1;omega
 . rw [ka,KO]
theorem jd2 (fl:List Ship) (c:Int->Int):zu fl c=js (fun i=>zK c (shp fl i)) fl.length:=QQ (zK c) ⟨0,0,0,0⟩ fl
theorem jnL {fl:List Ship} {s:Nat} (h:s<(jx fl).length):0<(J5 fl).getD s 0:=by rw [J7 h];have:=(Zn (QL h)).1;unfold zW;omega
theorem jj7 {fl:List Ship} {i s:Nat} (hi:i<fl.length) (hs:s<(jx fl).length):j2 (J1 fl) i s=jjg fl i s*(J5 fl).getD s 0:=by
 rw [je8 hi hs,J7 hs];unfold Jl jjg zW;split
 . rfl
 . rw [KO]
theorem jnf {fl:List Ship} {c:Int->Int} {T:Int} (h:Cum c T) {s:Nat} (hs:s<(jx fl).length):0<=c (QG fl s).2-c (QG fl s).1/\c (QG fl s).2-c (QG fl s).1<=(J5 fl).getD s 0:=by have o:=(Zn (QL hs)).1;have a:=h.lo _ _ (Y6 o);have b:=h.hi _ _ (Y6 o);rw [J7 hs];unfold zW;omega
theorem joN {fl:List Ship} (hfl:∀s∈fl,s.Ok) {i:Nat} (hi:i<fl.length) (c:Int->Int):zK c (shp fl i)=jI ((jbJ fl).getD i 0-js (fun s=>jjg fl i s*((J5 fl).getD s 0-(c (QG fl s).2-c (QG fl s).1))) (jx fl).length):=by unfold zK;rw [jj6 hfl hi,jb2 hi];congr 2;exact jf fun s hs=>by rw [J7 hs]
theorem jkn {fl:List Ship} (hfl:∀s∈fl,s.Ok) {Q:Nat->Nat->Int} (row:∀i,i<fl.length->js (Q i) (jx fl).length=(jbJ fl).getD i 0) (cell:∀i s,i<fl.length->s<(jx fl).length->0<=Q i s/\Q i s<=j2 (J1 fl) i s) {c:Int->Int} {T:Int} (h:Cum c T) {k:Int} (hk:0<=k) :
 zu fl c-k*T<=qS fl.length (jx fl).length (fun s=>(J5 fl).getD s 0) Q k:=by
 have g:=jj4 (rho:=jjg fl) (len:=fun s=>(J5 fl).getD s 0) (x:=fun j=>c (QG fl j).2-c (QG fl j).1) row (fun i s hi hs=>⟨(cell i s hi hs).1,by rw [<-jj7 hi hs];exact (cell i s hi hs).2⟩) (fun s hs=>jnL hs) (fun s hs=>jnf h hs) hk (jje h);refine KR (kb ?_) g;congr 1;rw [jd2];exact jf fun i hi=>joN hfl hi c
def clp (p:Int×Int) (h:Int):Int:=if h<=p.1 then 0 else if h<=p.2 then h-p.1 else p.2-p.1
theorem jfM {p:Int×Int} (hp:p.1<p.2) {a b:Int} (h:a<=b):clp p a<=clp p b:=by unfold clp;split <;> split <;> (try split) <;> (try split) <;> omega
theorem jlf {p:Int×Int} (hp:p.1<p.2) (a:Int):0<=clp p a/\clp p a<=p.2-p.1:=by unfold clp;split <;> (try split) <;> omega
theorem jhS:∀(x:Int) (l:List Int),(x::l).Pairwise (· < ·)->(∀h,h<=x->(((x::l).zip l).map fun p=>clp p h).sum=0)/\∀a b,a<=b->(((x::l).zip l).map fun p=>clp p b).sum-(((x::l).zip l).map fun p=>clp p a).sum<=b-a
 | x,[],_=>⟨fun _ _=>rfl,fun a b h=>by show (0:Int)-0<=_;omega⟩
 | x,y::l,hr=>by
   have h':=YB.mp hr;have hxy:=h'.1 y Ye;obtain ⟨ih1,ih2⟩:=jhS y l h'.2;have st:∀h,(((x::y::l).zip (y::l)).map fun p=>clp p h).sum=clp (x,y) h+(((y::l).zip l).map fun p=>clp p h).sum:=fun h=>by rw [Y1,List.map_cons,List.sum_cons]
   refine ⟨fun h hx=>?_,fun a b hab=>?_⟩
   . rw [st,ih1 h (by omega)];unfold clp;rw [if_pos hx];rfl
   . rw [st,st];by_cases c1:b<=y
     . rw [ih1 b c1,ih1 a (by omega)];unfold clp;dsimp only;split <;> split <;> (try split) <;> (try split) <;> omega
     . by_cases c2:a<=y
       . have q:=ih2 y b (by omega);rw [ih1 y (by omega)] at q;rw [ih1 a c2];have:clp (x,y) b=y-x:=by unfold clp;dsimp only;rw [if_neg (by omega),if_neg (by omega)]
         have:y-x-clp (x,y) a<=y-a:=by unfold clp;dsimp only;split <;> (try split) <;> omega
         omega
       . have q:=ih2 a b hab;have e1:clp (x,y) b=y-x:=by unfold clp;dsimp only;rw [if_neg (by omega),if_neg (by omega)]
         have e2:clp (x,y) a=y-x:=by unfold clp;dsimp only;rw [if_neg (by omega),if_neg (by omega)]
         omega
def jfX (fl:List Ship) (mk:Nat->Bool) (h:Int):Int:=js (fun s=>if mk s=true then clp (QG fl s) h else 0) (jx fl).length
theorem jb6 {fl:List Ship} {s:Nat} (h:s<(jx fl).length):(QG fl s).1<(QG fl s).2:=(Zn (QL h)).1
theorem jmY (fl:List Ship) {a b:Int} (h:a<=b):js (fun s=>clp (QG fl s) b-clp (QG fl s) a) (jx fl).length<=b-a:=by
 have e:∀h,js (fun s=>clp (QG fl s) h) (jx fl).length=((jx fl).map fun p=>clp p h).sum:=fun h=>(QQ (fun p:Int×Int=>clp p h) (0,0) (jx fl)).symm;rw [qH,e,e];have hr:=JM fl;unfold jx;cases hb:zA fl with
 | nil=>show (0:Int)-0<=_;omega
 | cons x l=>rw [hb] at hr;exact (jhS x l hr).2 a b h
theorem jih (fl:List Ship) (mk:Nat->Bool):Cum (jfX fl mk) (zI (jx fl).length (fun s=>(J5 fl).getD s 0) mk):=by
 refine ⟨fun a b h=>qA fun s hs=>?_,fun a b h=>?_,fun a b=>?_⟩
 . split
   . exact jfM (jb6 hs) h
   . exact YR _
 . refine KR ?_ (jmY fl h);unfold jfX;rw [<-qH];refine qA fun s hs=>?_;have:=jfM (jb6 hs) h;split <;> omega
 . unfold jfX zI;rw [<-qH];refine qA fun s hs=>?_;have h1:=jlf (jb6 hs) a;have h2:=jlf (jb6 hs) b;have h3:=J7 hs;unfold zW at h3;dsimp only;split <;> omega
theorem jeT:∀{l:List Int},l.Pairwise (· < ·)->∀p∈l.zip l.tail,∀k∈l,k<=p.1\/p.2<=k
 | [],_,p,hp,_,_=>by cases hp
 | [x],_,p,hp,_,_=>by cases hp
 | x::y::l,h,p,hp,k,hk=>by
   have h':=YB.mp h;rw [KC,Y1] at hp;rcases Yk.mp hp with rfl | hp'
   . rcases Yk.mp hk with rfl | hk
     . exact .inl (YR _)
     . exact .inr (Qo h'.2 k hk)
   . rcases Yk.mp hk with rfl | hk
     . have q:=Zs h'.2 p hp';have:=h'.1 p.1 q.2.1;exact .inl (by omega)
     . exact jeT h'.2 p hp' k hk
theorem jl2 {fl:List Ship} (mk:Nat->Bool) {s:Ship} (hs:s∈fl) (hk:s.Ok):jfX fl mk s.e-jfX fl mk s.b=js (fun j=>if s.b<=(QG fl j).1/\(QG fl j).2<=s.e then (if mk j=true then zW fl j else 0) else 0) (jx fl).length:=by
 have hb:s.b∈zA fl:=mem_bnds.mpr (Yt _ (yv hs));have he:s.e∈zA fl:=mem_bnds.mpr (YF _ (yv hs));have hlt:=hk.lt;unfold jfX;rw [<-qH];refine jf fun j hj=>?_;have o:=jb6 hj;have g1:=jeT (JM fl) _ (QL hj) _ hb;have g2:=jeT (JM fl) _ (QL hj) _ he;by_cases c:mk j=true
 . rw [if_pos c,if_pos c,if_pos c];unfold clp zW;split <;> split <;> split <;> (try split) <;> (try split) <;> omega
 . rw [if_neg c,if_neg c,if_neg c];split <;> rfl
theorem jjb {fl:List Ship} (hfl:∀s∈fl,s.Ok) (mk:Nat->Bool):zu fl (jfX fl mk)=qE fl.length (jx fl).length (fun i=>(jbJ fl).getD i 0) (j2 (J1 fl)) mk:=by
 rw [jd2];refine jf fun i hi=>?_;unfold zK;dsimp only;rw [jb2 hi,jl2 mk (zT hi) (hfl _ (zT hi))];have w:=jhH (zT hi) (Y6 (hfl _ (zT hi)).lt) (fun h=>h);congr 2;rw [<-w,<- qH,<- qi];refine jf fun j hj=>?_;rw [je8 hi hj];unfold Jl zW;split
 . split
   . rw [Int.sub_self,ka]
   . rw [KQ]
 . split <;> rw [KQ,ka]
structure Abv (fl:List Ship) (k A:Int):Prop where
 all:∀c T,Cum c T->zu fl c-k*T<=A
 one:∃c T,Cum c T/\0<=T/\A=zu fl c-k*T
theorem jlL {fl:List Ship} (hfl:∀s∈fl,s.Ok) {E:Nat->Nat->Int} (hE:EvenP fl.length (jx fl).length (fun i=>(jbJ fl).getD i 0) (j2 (J1 fl)) (fun s=>(J5 fl).getD s 0) E) {k:Int} (hk:0<=k):Abv fl k (qS fl.length (jx fl).length (fun s=>(J5 fl).getD s 0) E k):=by
 refine ⟨fun c T h=>jkn hfl hE.row hE.cell h hk,?_⟩;obtain ⟨mk,e⟩:=hE.even k;refine ⟨jfX fl mk,_,jih fl mk,?_,?_⟩
 . exact KR (by omega) ((jih fl mk).tot 0 0)
 . rw [e,jjb hfl]
theorem jmb (c:Int->Int) (s:Ship):0<=zK c s:=(Jg _).1
theorem jiJ {c:Int->Int} {T:Int} (h:Cum c T) {s t:Ship} (hs:s.Ok) (hb:t.b<=s.b) (he:s.e<=t.e) (hm:s.m<=t.m) (hn:t.n<=s.n):zK c t<=zK c s:=by
 have hlt:=hs.lt;have a:=h.hi t.b s.b hb;have b:=h.hi s.e t.e he;have d:=h.hi s.b s.e (Y6 hlt);have e1:(s.e-s.b)-(c s.e-c s.b)<=(t.e-t.b)-(c t.e-c t.b):=by omega
 have e2:=YK e1 hs.m0;have e3:=YV hm (show 0<=(t.e-t.b)-(c t.e-c t.b) by omega);unfold zK jI;split <;> split <;> omega
theorem jgU {fl:List Ship} (hfl:∀s∈fl,s.Ok) (tL:fl.length<=8):∃E:List (List Int),jbh [.lst (fl.map jj)]=some (.lst (E.map jh))/\Shape fl.length (jx fl).length E/\(∀j,0<=j8 E j)/\∀k,0<=k->Abv fl k (jap fl E k):=by
 obtain ⟨d,⟨E,rfl,sE,hE⟩,ee⟩:=ji0 hfl tL;refine ⟨E,ee,sE,fun j=>?_,fun k hk=>?_⟩
 . rw [Jy sE];refine JG fun i hi=>?_;by_cases hj:j<(jx fl).length
   . exact (hE.cell i j hi hj).1
   . unfold j2;rw [Yc (l:=E.getD i []),YI (by rw [(sE.row hi).2];omega)];exact YR _
 . rw [jmO sE];exact jlL hfl hE hk
def JO (T l:Int):List (Int×Int):=(T/l,l-T%l)::if T%l>0 then [(T/l+1,T%l)] else []
theorem jrB {i j:Int}:dGt (.int i) (.int j)=some (.bl (decide (i>j))):=jcy
theorem jgR {T l:Int} (hl:0<l) (hl2:l<2000000000000000):QH [.int T,.int l]=some ((JO T l).map j9):=by
 unfold QH;refine jb3 (ρ:=[.sh (.int T),.sh (.int l),.un,.un,.un]) rfl rfl fun C fin=>?_;unfold jar;refine jE [.sh (.int T),.sh (.int l),.sh (.int (T/l)),.un,.un] (jS (jm rfl rfl (zr hl (by omega)))) ?_;refine jE [.sh (.int T),.sh (.int l),.sh (.int (T/l)),.sh (.int (T%l)),.un] (jS (jm rfl rfl (jU hl))) ?_;refine jE ‹"M"› rfl ?_;have tc:qT (jw dGt (ja 3) (eC (.int 0))) ‹"M"›=some (decide (T%l>0)):=jR (jm rfl rfl jrB);by_cases c:T%l>0
 . rw [YN c] at tc;refine jE [.sh (.int T),.sh (.int l),.sh (.int (T/l)),.sh (.int (T%l)),.ow [j9 (T/l,l-T%l),j9 (T/l+1,T%l)]] ((ZD tc).trans ((jh3 (ds:=[j9 (T/l,l-T%l)]) rfl rfl (by show 1<16777216;decide)).trans rfl)) ?_;unfold JO at fin;rw [if_pos c] at fin;exact fin
 . rw [YU c] at tc;refine jE ‹"M"› (zE tc) ?_;unfold JO at fin;rw [if_neg c] at fin;exact fin
def J9:List (Int×Int)->Int->Int->List (Int×Int)
 | [],k,h=>[(k,h)]
 | p::R,k,h=>if p.1=k then (p.1,p.2+h)::R else p::J9 R k h
def jQ (R:List (Int×Int)):List Int:=R.map (·.1)
def qX (R:List (Int×Int)):List D:=R.map fun p=>.int p.2
def JV (f:Int->Int) (R:List (Int×Int)):Int:=(R.map fun p=>f p.1*p.2).sum
theorem qO (f:Int->Int) (p:Int×Int) (R:List (Int×Int)):JV f (p::R)=f p.1*p.2+JV f R:=by unfold JV;rw [List.map_cons,List.sum_cons]
theorem jff (f:Int->Int) (k h:Int):∀R,JV f (J9 R k h)=JV f R+f k*h
 | []=>by unfold J9;rw [qO];show f k*h+0=0+f k*h;omega
 | p::R=>by
   unfold J9;by_cases c:p.1=k
   . rw [if_pos c,qO,qO,c,Int.mul_add];show f k*p.2+f k*h+JV f R=_;omega
   . rw [if_neg c,qO,qO,jff f k h R];omega
theorem jcT {k h:Int} {q:Int×Int}:∀{R:List (Int×Int)},q∈J9 R k h->q∈R\/(q=(k,h)/\k∉jQ R)\/∃p∈R,p.1=k/\q=(p.1,p.2+h)
 | [],hq=>by have:=Yn.mp hq;exact .inr (.inl ⟨this,Yw⟩)
 | p::R,hq=>by
   unfold J9 at hq;by_cases c:p.1=k
   . rw [if_pos c] at hq;rcases Yk.mp hq with e | e
     . exact .inr (.inr ⟨p,Ye,c,e⟩)
     . exact .inl (Yf _ e)
   . rw [if_neg c] at hq;rcases Yk.mp hq with e | e
     . exact .inl (by rw [e];exact Ye)
     . rcases jcT e with z | ⟨z,w⟩ | ⟨r,hr,z⟩
       . exact .inl (Yf _ z)
       . refine .inr (.inl ⟨z,fun y=>?_⟩);rcases Yk.mp y with y | y
         . exact c y.symm
         . exact w y
       . exact .inr (.inr ⟨r,Yf _ hr,z⟩)
theorem ZV (k h:Int):∀R,jQ (J9 R k h)=JR (jQ R) k
 | []=>by unfold J9 JR;rw [if_neg (show k∉jQ [] from Yw)];rfl
 | p::R=>by
   have ih:=ZV k h R;unfold J9 JR;by_cases c:p.1=k
   . rw [if_pos c,if_pos (by rw [<-c];exact Ye)];rfl
   . rw [if_neg c];show p.1::jQ (J9 R k h)=_;rw [ih];unfold JR;by_cases m:k∈jQ R
     . rw [if_pos m,if_pos (show k∈jQ (p::R) from Yf _ m)];rfl
     . rw [if_neg m,if_neg (show k∉jQ (p::R) from fun z=>by rcases Yk.mp z with z | z;exact c z.symm;exact m z)];rfl
theorem jjW {k:Int}:∀{R:List (Int×Int)},k∉jQ R->qB (jQ R) (qX R) k=none
 | [],_=>rfl
 | p::R,h=>by show (if p.1=k then _ else _)=_;rw [if_neg fun z=>h (by rw [<-z];exact Ye)];exact jjW fun z=>h (Yf _ z)
theorem jip {k:Int} {e:D}:∀{R:List (Int×Int)},k∉jQ R->jd5 (jQ R) (qX R) k e=qX R
 | [],_=>rfl
 | p::R,h=>by show (if p.1=k then e else .int p.2)::jd5 (jQ R) (qX R) k e=_;rw [if_neg fun z=>h (by rw [<-z];exact Ye),jip fun z=>h (Yf _ z)];rfl
theorem jdJ (k h:Int):∀R,(jQ R).Nodup->∃x,(qB (jQ R) (qX R) k).getD (.int 0)=.int x/\jbG (jQ R) (qX R) k (.int (x+h))=qX (J9 R k h)
 | [],_=>⟨0,rfl,by unfold jbG;rw [if_neg (show k∉jQ [] from Yw),KP];rfl⟩
 | p::R,nd=>by
   have nd':=Y9.mp (show (p.1::jQ R).Nodup from nd);by_cases c:p.1=k
   . refine ⟨p.2,?_,?_⟩
     . show (if p.1=k then some (D.int p.2) else _).getD _=_;rw [if_pos c];rfl
     . unfold jbG J9;rw [if_pos (show k∈jQ (p::R) by rw [<-c];exact Ye),if_pos c];show (if p.1=k then D.int (p.2+h) else .int p.2)::jd5 (jQ R) (qX R) k _=D.int (p.2+h)::qX R;rw [if_pos c,jip (by rw [<-c];exact nd'.1)]
   . obtain ⟨x,h1,h2⟩:=jdJ k h R nd'.2;refine ⟨x,?_,?_⟩
     . show (if p.1=k then some (D.int p.2) else qB (jQ R) (qX R) k).getD _=_;rw [if_neg c];exact h1
     . unfold J9;rw [if_neg c];show _=D.int p.2::qX (J9 R k h);rw [<-h2];unfold jbG;by_cases m:k∈jQ R
       . rw [if_pos m,if_pos (show k∈jQ (p::R) from Yf _ m)];show (if p.1=k then _ else D.int p.2)::_=_;rw [if_neg c];rfl
       . rw [if_neg m,if_neg (show k∉jQ (p::R) from fun z=>by rcases Yk.mp z with z | z;exact c z.symm;exact m z)];rfl
theorem jjT {ks:List Int} (h:ks.Nodup) (k:Int):(JR ks k).Nodup:=by
 unfold JR;by_cases m:k∈ks
 . rw [if_pos m];exact h
 . rw [if_neg m];refine K6.mpr ⟨h,by simp,fun a ha b hb z=>?_⟩;rw [Yn.mp hb] at z;exact m (by rw [<-z];exact ha)
theorem jmN (ks:List Int) (k:Int):(JR ks k).length<=ks.length+1:=by
 unfold JR;split
 . omega
 . rw [YG];simp
structure Cnt (Pk:Int->Prop) (R:List (Int×Int)) (n:Nat):Prop where
 nd:(jQ R).Nodup
 pos:∀p∈R,1<=p.2
 nn:∀p∈R,Pk p.1
 len:R.length<=n
theorem Cnt.add {Pk:Int->Prop} {R:List (Int×Int)} {n:Nat} (c:Cnt Pk R n) {k h:Int} (hh:1<=h) (hk:Pk k):Cnt Pk (J9 R k h) (n+1):=by
 refine ⟨by rw [ZV];exact jjT c.nd k,fun q hq=>?_,fun q hq=>?_,?_⟩
 . rcases jcT hq with z | ⟨z,_⟩ | ⟨p,hp,_,z⟩
   . exact c.pos q z
   . rw [z];exact hh
   . rw [z];have:=c.pos p hp;show 1<=p.2+h;omega
 . rcases jcT hq with z | ⟨z,_⟩ | ⟨p,hp,_,z⟩
   . exact c.nn q z
   . rw [z];exact hk
   . rw [z];exact c.nn p hp
 . have e:(J9 R k h).length=(JR (jQ R) k).length:=by rw [<-ZV k h];unfold jQ;rw [Yd]
   have:=jmN (jQ R) k;have:(jQ R).length=R.length:=by unfold jQ;rw [Yd]
   have:=c.len;omega
theorem jjP {Pk:Int->Prop} {z0 z1 z3 z4:Slot} {R:List (Int×Int)} {n:Nat} (c:Cnt Pk R n) (hn:n<1000) (k h:Int) :
 Q8 2 (jn 5) (jw zc (jbn (ja 2) (ja 5) (eC (.int 0))) (ja 6)) [z0,z1,.od (jQ R) (qX R),z3,z4,.sh (.int k),.sh (.int h)]=.next [z0,z1,.od (jQ (J9 R k h)) (qX (J9 R k h)),z3,z4,.sh (.int k),.sh (.int h)]:=by
 obtain ⟨x,h1,h2⟩:=jdJ k h R c.nd;have e:jw zc (jbn (ja 2) (ja 5) (eC (.int 0))) (ja 6) [z0,z1,.od (jQ R) (qX R),z3,z4,.sh (.int k),.sh (.int h)]=some (.int (x+h)):=by refine jm (x:=.int x) ?_ rfl jZ;show some ((qB (jQ R) (qX R) k).getD (.int 0))=_;rw [h1]
 have hl:(jQ R).length=R.length:=by unfold jQ;rw [Yd]
 have hc:=c.len;unfold Q8;rw [e];show (if zG (jQ R).length=true then Res.next _ else _)=_;rw [if_pos (qP (by omega)),<- ZV,h2];rfl
def Z9 (f:Int->Int) (T l:Int):Int:=f (T/l)*(l-T%l)+f (T/l+1)*(T%l)
def jg7 (R:List (Int×Int)):List (Int×Int)->List (Int×Int)
 | []=>R
 | q::l=>jg7 (J9 R q.1 q.2) l
theorem jfx (f:Int->Int):∀(l R:List (Int×Int)),JV f (jg7 R l)=JV f R+JV f l
 | [],R=>by show JV f R=JV f R+0;omega
 | q::l,R=>by show JV f (jg7 (J9 R q.1 q.2) l)=_;rw [jfx f l,jff,qO];omega
theorem jjj (f:Int->Int) (T l:Int) (hl:0<l):JV f (JO T l)=Z9 f T l:=by
 unfold JO Z9;have:=yz T (show l≠0 by omega);by_cases c:T%l>0
 . rw [if_pos c,qO,qO];show _+(_+0)=_;rw [KS]
 . have e:T%l=0:=by omega
   rw [if_neg c,qO,e];show _+0=_;rw [ka]
theorem jjs {m:D->ef->Option ef} {B:FS} {d:D} {ds:List D} {ρ ρ1 ρ2:ef} (h1:m d ρ=some ρ1) (h2:B ρ1=.next ρ2):Jp m B (d::ds) ρ=Jp m B ds ρ2:=by simp only [Jp,h1,h2]
theorem jl6 {l m:List Int} (h:l.Perm m):l.sum=m.sum:=by
 induction h with
 | nil=>rfl
 | cons x _ ih=>rw [List.sum_cons,List.sum_cons,ih]
 | swap x y l=>simp only [List.sum_cons];omega
 | trans _ _ a b=>rw [a,b]
theorem jjD {Pk:Int->Prop} {fl:List Ship} (hfl:∀s∈fl,s.Ok) (tL:fl.length<=8) {P:List (List Int)} (hr:∀r∈P,r.length=(jx fl).length) (hPl:P.length<=8) (hn:∀j,j<(jx fl).length->Pk (j8 P j/zW fl j)/\Pk (j8 P j/zW fl j+1)) :
 ∃R:List (Int×Int),Qz [.lst (fl.map jj),.lst (P.map jh)]=some (R.map j9)/\R.Pairwise (fun a b=>b.1<a.1)/\(∀p∈R,Pk p.1/\1<=p.2)/\R.length<64/\∀f:Int->Int,JV f R=js ‹"1"› (jx fl).length:=by
 have hsl:(jx fl).length<=16:=by have:=jaO fl;have:=jbV (zA fl);unfold jx;omega
 have est:=JX fl (by omega)
 suffices main:∀C:Res->Prop,(∀R:List (Int×Int),Cnt Pk R (2*(jx fl).length)->(∀f:Int->Int,JV f R=js ‹"1"› (jx fl).length)->C (.retO ((jeQ R).map j9)))->C (jau [.sh ‹"aF"›,.sh ‹"E"›,.un,.un,.un,.un,.un]) by refine main (fun r=>∃R:List (Int×Int),jdt r=some (R.map j9)/\R.Pairwise (fun a b=>b.1<a.1)/\(∀p∈R,Pk p.1/\1<=p.2)/\R.length<64/\∀f:Int->Int,JV f R=js ‹"1"› (jx fl).length) fun R c hf=>?_;have pm:=Z0 R;refine ⟨jeQ R,rfl,jbi c.nd,fun p hp=>⟨c.nn p (pm.mem_iff.mp hp),c.pos p (pm.mem_iff.mp hp)⟩,by rw [pm.length_eq];have:=c.len;omega,fun f=>?_⟩;rw [<-hf f];exact jl6 (pm.map fun p=>f p.1*p.2)
 intro C fin;unfold jau;refine jE [.sh ‹"aF"›,.sh ‹"E"›,.od (jQ []) (qX []),.un,.un,.un,.un] rfl ?_;refine je9 (fun j:Nat=>D.tup [.int (j:Int),j9 (QG fl j)]) (jx fl).length (fun j ρ=>∃(R:List (Int×Int)) (z3 z4 z5 z6:Slot),Cnt Pk R (2*j)/\(∀f:Int->Int,JV f R=js ‹"1"› j)/\ρ=[.sh ‹"aF"›,.sh ‹"E"›,.od (jQ R) (qX R),z3,z4,z5,z6])
  ?_ ⟨[],_,_,_,_,⟨List.nodup_nil,fun p hp=>absurd hp Yw,fun p hp=>absurd hp Yw,yf _⟩,fun f=>rfl,rfl⟩ ?_ ?_
 . unfold Qe;rw [ji (jX (ju rfl est)) rfl];show some (Zp ((jx fl).map j9))=_;rw [ZK j9 (0,0)];rfl
 . rintro j ρ hj ⟨R,z3,z4,z5,z6,c,hf,rfl⟩;have hL:=Zr hfl hj;have et:=jah (P:=P) (j:=j) (fun r h=>by rw [hr r h];exact hj) (by omega);have el:=Zj (QG fl j);have eo:=jgR (T:=j8 P j) hL.1 hL.2;have m0:=yz (j8 P j) (show zW fl j≠0 by omega);have m1:=yn (j8 P j) hL.1;have d0:=hn j hj;refine ⟨[.sh ‹"aF"›,.sh ‹"E"›,.od (jQ R) (qX R),.sh (.int j),.sh (j9 (QG fl j)),z5,z6],?_⟩;have hgo:∀(l R:List (Int×Int)) (n:Nat) (z5 z6:Slot),Cnt Pk R n->n+l.length<1000->(∀q∈l,Pk q.1/\1<=q.2)->∃y5 y6,Jp (Ju 2 (jM (jA 5) (jM (jA 6) JD))) (Q8 2 (jn 5) (jw zc (jbn (ja 2) (ja 5) (eC (.int 0))) (ja 6))) (l.map j9) [.sh ‹"aF"›,.sh ‹"E"›,.od (jQ R) (qX R),.sh (.int j),.sh (j9 (QG fl j)),z5,z6]=.next [.sh ‹"aF"›,.sh ‹"E"›,.od (jQ (jg7 R l)) (qX (jg7 R l)),.sh (.int j),.sh (j9 (QG fl j)),y5,y6]/\Cnt Pk (jg7 R l) (n+l.length):=by
    intro l;induction l with
    | nil=>intro R n z5 z6 c _ _;exact ⟨z5,z6,rfl,c⟩
    | cons q l ih=>intro R n z5 z6 c hn hq;have hq0:=hq q Ye;rw [Yx] at hn;obtain ⟨y5,y6,e,c'⟩:=ih (J9 R q.1 q.2) (n+1) (.sh (.int q.1)) (.sh (.int q.2)) (c.add hq0.2 hq0.1) (by omega) fun x hx=>hq x (Yf _ hx);refine ⟨y5,y6,?_,by rw [Yx];rw [show n+(l.length+1)=n+1+l.length by omega];exact c'⟩;exact (jjs (ρ1:=[.sh ‹"aF"›,.sh ‹"E"›,.od (jQ R) (qX R),.sh (.int j),.sh (j9 (QG fl j)),.sh (.int q.1),.sh (.int q.2)]) rfl (jjP c (by omega) q.1 q.2)).trans e
   have hql:∀q∈JO (j8 P j) (zW fl j),Pk q.1/\1<=q.2:=fun q hq=>by
    unfold JO at hq;rcases Yk.mp hq with rfl | hq
    . exact ⟨d0.1,by show 1<=zW fl j-_;omega⟩
    . split at hq
      . rw [Yn.mp hq];exact ⟨d0.2,by show 1<=j8 P j%zW fl j;omega⟩
      . cases hq
   have hll:(JO (j8 P j) (zW fl j)).length<=2:=by
    unfold JO;rw [Yx];split
    . exact Ym 2
    . exact kE 1
   obtain ⟨y5,y6,e,c'⟩:=hgo (JO (j8 P j) (zW fl j)) R (2*j) z5 z6 c (by omega) hql;refine ⟨_,rfl,?_,jg7 R (JO (j8 P j) (zW fl j)),.sh (.int j),.sh (j9 (QG fl j)),y5,y6,⟨c'.nd,c'.pos,c'.nn,by have:=c'.len;omega⟩,fun f=>?_,rfl⟩
   . unfold JC;rw [qo (jX (ju (ji (ju rfl et) (ji (ju rfl el) rfl)) eo))];exact e
   . rw [jfx,hf f,jjj f _ _ hL.1];rfl
 . rintro ρ ⟨R,z3,z4,z5,z6,c,hf,rfl⟩;refine Q6 (ZG (l:=(jeQ R).map j9) ?_) (fin R c hf);have hk:(jQ R).length=R.length:=by unfold jQ;rw [Yd]
   have hc:=c.len;have hz:(jQ R).zip (R.map (·.2))=R:=by unfold jQ;rw [List.zip_map'];exact List.map_id' R
   show (J8 (qX R)).bind _=_;rw [show qX R=(R.map (·.2)).map D.int by unfold qX;rw [YC];rfl,JL,Yu,if_pos ⟨by rw [hk,Yd],c.nd,by omega⟩,hz];rfl
theorem jlR {fl:List Ship} (hfl:∀s∈fl,s.Ok) (tL:fl.length<=8) {P:List (List Int)} (hr:∀r∈P,r.length=(jx fl).length) (hPl:P.length<=8) (hn:∀j,j<(jx fl).length->0<=j8 P j) :
 ∃R:List (Int×Int),Qz [.lst (fl.map jj),.lst (P.map jh)]=some (R.map j9)/\R.Pairwise (fun a b=>b.1<a.1)/\(∀p∈R,0<=p.1/\1<=p.2)/\R.length<64/\∀f:Int->Int,JV f R=js ‹"1"› (jx fl).length:=
 jjD (Pk:=fun k=>0<=k) hfl tL hr hPl fun j hj=>by have:=Int.ediv_nonneg (hn j hj) (Y6 (Zr hfl hj).1);exact ⟨this,by omega⟩
theorem jgL {T l k:Int} (hl:0<l):Z9 (fun h=>jI (h-k)) T l=jI (T-k*l):=by
 have e:=Int.mul_ediv_add_emod T l;have m0:=yz T (show l≠0 by omega);have m1:=yn T hl;unfold Z9;dsimp only;generalize T/l=q at e;generalize T%l=r at e m0 m1;have e2:T-k*l=l*(q-k)+r:=by rw [<-e,KM,Ky k l];omega
 rw [e2];by_cases c:k<=q
 . have p1:jI (q-k)=q-k:=by unfold jI;split <;> omega
   have p2:jI (q+1-k)=q-k+1:=by unfold jI;split <;> omega
   have nn:=Kh (Y6 hl) (show 0<=q-k by omega);have p3:jI (l*(q-k)+r)=l*(q-k)+r:=by unfold jI;split <;> omega
   rw [p1,p2,p3,KM,Int.add_mul,Int.one_mul,Ky (q-k) l];omega
 . have p1:jI (q-k)=0:=by unfold jI;split <;> omega
   have p2:jI (q+1-k)=0:=by unfold jI;split <;> omega
   have nn:=YK (show q-k <= -1 by omega) (Y6 hl);have p3:jI (l*(q-k)+r)=0:=by unfold jI;split <;> omega
   rw [p1,p2,p3,KO,KO];rfl
theorem jdy {fl:List Ship} (hfl:∀s∈fl,s.Ok) {P:List (List Int)} {R:List (Int×Int)} (h:∀f:Int->Int,JV f R=js ‹"1"› (jx fl).length) (k:Int):JV (fun h=>jI (h-k)) R=jap fl P k:=by rw [h];exact jf fun j hj=>jgL (Zr hfl hj).1
theorem jke {f:Int->Int} {R:List (Int×Int)} (h:∀p∈R,0<=f p.1/\1<=p.2):0<=JV f R/\∀p∈R,f p.1<=JV f R:=by
 induction R with
 | nil=>exact ⟨YR _,fun p hp=>absurd hp Yw⟩
 | cons q R ih=>
   obtain ⟨a,b⟩:=ih fun x hx=>h x (Yf _ hx);have hq:=h q Ye;have m1:=YK hq.2 hq.1;rw [Int.mul_one] at m1;rw [qO];refine ⟨by omega,fun p hp=>?_⟩;rcases Yk.mp hp with rfl | hp
   . omega
   . have:=b p hp;omega
theorem jjE {f:Int->Int} {R:List (Int×Int)} (h:∀p∈R,f p.1=0):JV f R=0:=by
 induction R with
 | nil=>rfl
 | cons q R ih=>rw [qO,h q Ye,ih fun x hx=>h x (Yf _ hx),KO];rfl
theorem jll {R:List (Int×Int)} (nn:∀p∈R,0<=p.1):∃h:Int,(match jb9 (R.map (·.1)) with | some m=>D.int m | none=>D.int 0)=.int h/\0<=h/\(∀p∈R,p.1<=h)/\(h=0\/∃p∈R,p.1=h):=by
 cases em:jb9 (R.map (·.1)) with
 | none=>refine ⟨0,rfl,YR _,fun p hp=>?_,.inl rfl⟩;rw [List.map_eq_nil_iff.mp (jdd em)] at hp;cases hp
 | some m=>obtain ⟨m1,m2⟩:=jeM em;obtain ⟨p,hp,e⟩:=YX.mp m1;exact ⟨m,rfl,by rw [<-e];exact nn p hp,fun q hq=>m2 _ (YX.mpr ⟨q,hq,rfl⟩),.inr ⟨p,hp,e⟩⟩
theorem jhw {fl:List Ship} {E:List (List Int)} {R:List (Int×Int)} {h:Int} (ee:jbh [.lst (fl.map jj)]=some (.lst (E.map jh))) (eR:Qz [.lst (fl.map jj),.lst (E.map jh)]=some (R.map j9)) (hRl:R.length<64) (eh:(match jb9 (R.map (·.1)) with | some m=>D.int m | none=>D.int 0)=.int h):Qf [.lst (fl.map jj)]=some (.int h):=by
 unfold Qf;refine jaz (ρ:=[.sh ‹"aF"›,.un]) rfl rfl fun C fin=>?_;unfold jhm;refine jE [.sh ‹"aF"›,.sh (.lst (E.map jh))] (jS (ju rfl ee)) ?_;refine Q6 (Qn ?_) fin;have lc:jK (Qp (qh (jK (jk Qz (jd (jn 0) (jd (jn 1) jo))))) ‹"ag"› ‹"m"› (jn 0) 2 []) [.sh ‹"aF"›,.sh (.lst (E.map jh))]=some (.lst ((R.map (·.1)).map D.int)):=jX (qI (qo (jX (ju rfl eR))) (by rw [Yd];omega) (by rw [YC];exact Ji j9 _ R fun p _=>⟨[.sh (.int p.1),.sh (.int p.2)],rfl,rfl,rfl⟩))
 unfold jif;rw [lc];show ((J8 ((R.map (·.1)).map D.int)).map fun ns=>match jb9 ns with | some m=>D.int m | none=>D.int 0)=_;rw [JL];exact congrArg some eh
structure Pk (fl:List Ship) (h:Int):Prop where
 nn:0<=h
 iff:∀k,0<=k->(h<=k ↔ ∀c T,Cum c T->zu fl c<=k*T)
theorem JK {fl:List Ship} (hfl:∀s∈fl,s.Ok) (tL:fl.length<=8):∃h:Int,Qf [.lst (fl.map jj)]=some (.int h)/\Pk fl h:=by
 obtain ⟨E,ee,sE,col,abv⟩:=jgU hfl tL;obtain ⟨R,eR,_,pos,hRl,hf⟩:=jlR hfl tL sE.2 (by rw [sE.1];omega) fun j _=>col j;obtain ⟨h,eh,h0,h1,h2⟩:=jll fun p hp=>(pos p hp).1;refine ⟨h,jhw ee eR hRl eh,h0,fun k hk=>?_⟩;have nnA:0<=jap fl E k:=JG fun j _=>(Jg _).1;constructor
 . intro hle c T hc;have z:jap fl E k=0:=by rw [<-jdy hfl hf k];refine jjE fun p hp=>?_;have:=h1 p hp;show jI (p.1-k)=0;unfold jI;split <;> omega
   have:=(abv k hk).all c T hc;omega
 . intro all;obtain ⟨c,T,hc,_,e⟩:=(abv k hk).one;have q:=all c T hc;have z:jap fl E k<=0:=by omega
   rcases h2 with rfl | ⟨p,hp,e'⟩
   . exact hk
   . rw [<-jdy hfl hf k] at z;have s:=(jke (f:=fun h=>jI (h-k)) (R:=R) fun p hp=>⟨(Jg _).1,(pos p hp).2⟩).2 p hp;have:=(Jg (p.1-k)).2;omega
theorem Pk.le {fl fl':List Ship} {h h' d:Int} (x:Pk fl h) (y:Pk fl' h') (hd:0<=d) (q:∀c T,Cum c T->∃c',Cum c' T/\zu fl c<=zu fl' c' + d*T):h<=h' + d:=by have n:=y.nn;refine (x.iff (h' + d) (by omega)).mpr fun c T hc=>?_;obtain ⟨c',hc',e⟩:=q c T hc;have:=(y.iff h' n).mp (YR _) c' T hc';rw [Int.add_mul];omega
theorem Pk.le0 {fl fl':List Ship} {h h':Int} (x:Pk fl h) (y:Pk fl' h') (q:∀c T,Cum c T->∃c',Cum c' T/\zu fl c<=zu fl' c'):h<=h':=by
 have:=x.le y (YR 0) fun c T hc=>by obtain ⟨c',a,b⟩:=q c T hc;exact ⟨c',a,by rw [KO];omega⟩
 omega
theorem zL (a b:List Ship) (c:Int->Int):zu (a++b) c=zu a c+zu b c:=by unfold zu;rw [Y7,List.sum_append]
theorem jbm (s:Ship) (b:List Ship) (c:Int->Int):zu (s::b) c=zK c s+zu b c:=by unfold zu;rw [List.map_cons,List.sum_cons]
theorem jav {g:Ship->Ship} {c c':Int->Int} (h:∀s,zK c (g s)=zK c' s) (fl:List Ship):zu (fl.map g) c=zu fl c':=by unfold zu;rw [YC];exact congrArg List.sum (yF fun s _=>h s)
def shf (a:Int) (s:Ship):Ship:=⟨s.b+a,s.e+a,s.n,s.m⟩
def trn (s:Ship):Ship:=⟨1-s.e,1-s.b,s.n,s.m⟩
theorem jib {c:Int->Int} {T:Int} (h:Cum c T) (a:Int):Cum (fun x=>c (x+a)) T:=⟨fun x y q=>h.lo _ _ (by omega),fun x y q=>by have:=h.hi (x+a) (y+a) (by omega);show c (y+a)-c (x+a)<=y-x;omega,fun x y=>h.tot _ _⟩
theorem jh8 {c:Int->Int} {T:Int} (h:Cum c T):Cum (fun x => -c (1-x)) T:=⟨fun x y q=>by have:=h.lo (1-y) (1-x) (by omega);show -c (1-x) <= -c (1-y);omega,fun x y q=>by have:=h.hi (1-y) (1-x) (by omega);show -c (1-y) - -c (1-x)<=y-x;omega,fun x y=>by have:=h.tot (1-y) (1-x);show -c (1-y) - -c (1-x)<=T;omega⟩
theorem jf4 (c:Int->Int) (a:Int) (s:Ship):zK c (shf a s)=zK (fun x=>c (x+a)) s:=by show jI (s.n-s.m*((s.e+a-(s.b+a))-(c (s.e+a)-c (s.b+a))))=jI (s.n-s.m*((s.e-s.b)-(c (s.e+a)-c (s.b+a))));rw [show s.e+a-(s.b+a)=s.e-s.b by omega]
theorem jgj (c:Int->Int) (s:Ship):zK c (trn s)=zK (fun x => -c (1-x)) s:=by show jI (s.n-s.m*((1-s.b-(1-s.e))-(c (1-s.b)-c (1-s.e))))=jI (s.n-s.m*((s.e-s.b)-(-c (1-s.e) - -c (1-s.b))));rw [show 1-s.b-(1-s.e)-(c (1-s.b)-c (1-s.e))=s.e-s.b-(-c (1-s.e) - -c (1-s.b)) by omega]
theorem joO {fl:List Ship} {a h h':Int} (x:Pk fl h) (y:Pk (fl.map (shf a)) h'):h'=h:=by
 have l1:=y.le0 x fun c T hc=>⟨_,jib hc a,kb (jav (jf4 c a) fl)⟩;have l2:=x.le0 y fun c T hc=>⟨_,jib hc (-a),kb (by rw [jav (jf4 _ a) fl];congr 1;funext z;show c z=c (z+a + -a);rw [show z+a + -a=z by omega])⟩
 omega
theorem jqB {fl:List Ship} {h h':Int} (x:Pk fl h) (y:Pk (fl.map trn) h'):h'=h:=by
 have l1:=y.le0 x fun c T hc=>⟨_,jh8 hc,kb (jav (jgj c) fl)⟩;have l2:=x.le0 y fun c T hc=>⟨_,jh8 hc,kb (by rw [jav (jgj _) fl];congr 1;funext z;show c z = - -c (1-(1-z));rw [show 1-(1-z)=z by omega,Int.neg_neg])⟩
 omega
theorem jmT {a b:List Ship} {h h':Int} (x:Pk (a++b) h) (y:Pk (b++a) h'):h'=h:=by have l1:=y.le0 x fun c T hc=>⟨c,hc,by rw [zL,zL];omega⟩;have l2:=x.le0 y fun c T hc=>⟨c,hc,by rw [zL,zL];omega⟩;omega
theorem jnx {c:Int->Int} {T:Int} (h:Cum c T) {s:Ship} (hs:s.Ok):zK c s<=s.m*T:=by have a:=h.tot s.b s.e;have b:=h.tot 0 0;have e1:=YK a hs.m0;have e2:=Kh hs.m0 (show 0<=T by omega);have n1:=hs.n1;unfold zK jI;rw [KM];split <;> omega
theorem jnn {a b:List Ship} {s:Ship} (hs:s.Ok) {h h':Int} (x:Pk (a++s::b) h) (y:Pk (a++b) h'):h'<=h/\h<=h' + s.m:=by
 have w:∀c,zu (a++s::b) c=zu (a++b) c+zK c s:=fun c=>by rw [zL,zL,jbm];omega
 exact ⟨y.le0 x fun c T hc=>⟨c,hc,by have:=jmb c s;rw [w];omega⟩,x.le y hs.m0 fun c T hc=>⟨c,hc,by have:=jnx hc hs;rw [w];omega⟩⟩
theorem jnC {a b:List Ship} {s t:Ship} (hs:s.Ok) (hb:t.b<=s.b) (he:s.e<=t.e) (hm:s.m<=t.m) (hn:t.n=s.n) {h h':Int} (x:Pk (a++s::b) h) (y:Pk (a++t::b) h'):h'<=h:=y.le0 x fun c T hc=>⟨c,hc,by have:=jiJ hc hs hb he hm (by omega);rw [zL,zL,jbm,jbm];omega⟩
theorem joz {s:Ship} (h:Ok0 s) {a:Int} (h0:-100000000000000<=a) (h1:a<=100000000000000):(shf a s).Ok:=by have o:=h.ok;have:=h.lo;have:=h.hi;refine ⟨by show s.b+a<s.e+a;have:=o.lt;omega,by show s.e+a-(s.b+a)<=_;have:=o.long;omega,by show _<=s.b+a;omega,by show s.b+a<=_;omega,o.m0,o.m1,o.n0,?_⟩;show s.n<=s.m*(s.e+a-(s.b+a));rw [show s.e+a-(s.b+a)=s.e-s.b by omega];exact o.n1
theorem jqu {s:Ship} (h:Ok0 s):(trn s).Ok:=by have o:=h.ok;have:=h.lo;have:=h.hi;have:=h.long;have:=o.lt;refine ⟨by show 1-s.e<1-s.b;omega,by show 1-s.b-(1-s.e)<=_;omega,by show _<=1-s.e;omega,by show 1-s.e<=_;omega,o.m0,o.m1,o.n0,?_⟩;show s.n<=s.m*(1-s.b-(1-s.e));rw [show 1-s.b-(1-s.e)=s.e-s.b by omega];exact o.n1
theorem jeC {s:Ship} (h:Ok0 s) {x y m:Int} (x0:0<=x) (x9:x<10) (y0:0<=y) (y9:y<10) (m0:s.m<=m) (m1:m<=1000000000000000):(⟨s.b-x,s.e+y,s.n,m⟩:Ship).Ok:=by have o:=h.ok;have:=h.lo;have:=h.hi;have:=h.long;have:=o.lt;have:=o.m0;refine ⟨by show s.b-x<s.e+y;omega,by show s.e+y-(s.b-x)<=_;omega,by show _<=s.b-x;omega,by show s.b-x<=_;omega,by show 0<=m;omega,m1,o.n0,?_⟩;show s.n<=m*(s.e+y-(s.b-x));have a:=YV m0 (show 0<=s.e-s.b by omega);have b:=YK (show s.e-s.b<=s.e+y-(s.b-x) by omega) (show 0<=m by omega);have:=o.n1;omega
theorem ZY {a b:List Ship} (h:a.length+b.length<1000):jcf (.lst (a.map jj)) (.lst (b.map jj))=some ((a++b).map jj):=by unfold jcf;show (if (a.map jj).length+(b.map jj).length<=sizeLine then some (a.map jj++b.map jj) else none)=_;rw [if_pos (by rw [Yd,Yd,PySem.sizeLine_eq];omega),Y7]
theorem jo3 {fe:ef->Option (List D)} {ρ:ef} {i:Nat} {l:List D} (h:fe ρ=some l):J2 i fe ρ=.next (ρ.set i (.ow l)):=by unfold J2;rw [h]
theorem jkR (ns:List Int) (hns:ns.length<=63):jnT [.scr ns]=some (.bl true):=by
 obtain ⟨fl,hf0,tL,efl⟩:=jkz jml ns 3 (by decide);have hfl:∀s∈fl,s.Ok:=fun s hs=>(hf0 s hs).ok;have ec:=jbb ns 0 (by omega);have ec1:=jbb ns 1 (by omega);have ec2:=jbb ns 2 (by omega);have elen:QX [.lst (fl.map jj)]=some (.int (fl.length:Int)):=by show some (D.int ((fl.map jj).length:Int))=_;rw [Yd]
 obtain ⟨h,eh,ph⟩:=JK hfl (by omega);generalize cell ns 0=c at ec;generalize cell ns 1=g at ec1;generalize cell ns 2=w at ec2;obtain ⟨i,hi⟩:∃i:Nat,c%((fl.length:Int)+1)=(i:Int):=⟨(c%((fl.length:Int)+1)).toNat,by have:=yz c (show (fl.length:Int)+1≠0 by omega);omega⟩;have hil:i<=fl.length:=by have:=yn c (show (0:Int)<(fl.length:Int)+1 by omega);omega
 have t1:L2.Qc (fl.map jj) (some (i:Int)) none=(fl.drop i).map jj:=by rw [jf1 i (by rw [Yd];omega),List.map_drop]
 have t2:L2.Qc (fl.map jj) none (some (i:Int))=(fl.take i).map jj:=by rw [jcI i (by rw [Yd];omega),List.map_take]
 have mem:∀{a b:List Ship},(∀s∈a,s∈fl)->(∀s∈b,s∈fl)->∀s∈a++b,s.Ok:=fun ha hb s hs=>by
  rcases YQ.mp hs with z | z
  . exact hfl s (ha s z)
  . exact hfl s (hb s z)
 obtain ⟨h1,eh1,ph1⟩:=JK (fl:=fl.drop i++fl.take i) (mem (fun s=>ko) fun s=>kn) (by rw [YG,KF,Kt];omega);have e1:h1=h:=jmT (a:=fl.take i) (b:=fl.drop i) (by rw [List.take_append_drop];exact ph) ph1;have ha0:=yz g (show (200000000000000:Int)≠0 by decide);have ha1:=yn g (show (0:Int)<200000000000000 by decide);obtain ⟨a,ea⟩:∃a:Int,g%200000000000000-100000000000000=a:=⟨_,rfl⟩;obtain ⟨h2,eh2,ph2⟩:=JK (fl:=fl.map (shf a)) (fun s hs=>by obtain ⟨t,ht,rfl⟩:=YX.mp hs;exact joz (hf0 t ht) (by omega) (by omega)) (by rw [Yd];omega);have e2:=joO ph ph2;obtain ⟨h3,eh3,ph3⟩:=JK (fl:=fl.map trn) (fun s hs=>by obtain ⟨t,ht,rfl⟩:=YX.mp hs;exact jqu (hf0 t ht)) (by rw [Yd];omega);have e3:=jqB ph ph3;refine jaz (m:=jhD) (ρ:=[.sh (.scr ns),.un,.un,.un,.un,.un,.un,.un,.un,.un,.un,.un,.un]) rfl rfl ?_;intro C fin;unfold jhD;refine jE [.sh (.scr ns),.sh ‹"aF"›,.un,.un,.un,.un,.un,.un,.un,.un,.un,.un,.un] (ja0 (ju rfl efl)) ?_;refine jE [.sh (.scr ns),.sh ‹"aF"›,.sh (.int c),.un,.un,.un,.un,.un,.un,.un,.un,.un,.un] (jS (ju rfl ec)) ?_;refine jE [.sh (.scr ns),.sh ‹"aF"›,.sh (.int c),.sh (.int h),.un,.un,.un,.un,.un,.un,.un,.un,.un] (jS (ju (ji (jX (ju rfl rfl)) rfl) eh)) ?_;refine jE ‹"5"› (jS (by rw [jm rfl (jm (ju rfl elen) rfl jZ) (jU (by omega)),hi])) ?_;refine jE ‹"5"› (zE (jR (jm (ju (ji (jX (jm (jX (l:=(fl.drop i).map jj) (by show some (L2.Qc (fl.map jj) (some (i:Int)) none)=_;rw [t1])) (jX (l:=(fl.take i).map jj) (by show some (L2.Qc (fl.map jj) none (some (i:Int)))=_;rw [t2])) (ZY (by rw [KF,Kt];omega)))) rfl) eh1) rfl (jmg e1)))) ?_;refine jE ‹"f"› (jS (by rw [jm (jm (ju rfl ec1) (jm rfl (jm rfl rfl jlM) (jbq (by decide) (by decide))) (jU (by decide))) (jm rfl rfl jlM) zm];exact congrArg (fun x=>some (D.int x)) ea)) ?_;refine jE ‹"f"› (zE (jR (jm (ju (ji (jX (l:=(fl.map (shf a)).map jj) (qI (qo rfl) (by rw [Yd];omega) (by rw [YC];exact Ji jj _ fl fun s _=>⟨[.sh (.int s.b),.sh (.int s.e),.sh (.int s.n),.sh (.int s.m),.sh (.int a)],rfl,rfl,jdG (ji (jm rfl rfl jZ) (ji (jm rfl rfl jZ) (ji rfl (ji rfl rfl)))) (show 4<16777216 by decide)⟩))) rfl) eh2) rfl (jmg e2)))) ?_;refine jE ‹"f"› (zE (jR (jm (ju (ji (jX (l:=(fl.map trn).map jj) (qI (qo rfl) (by rw [Yd];omega) (by rw [YC];exact Ji jj _ fl fun s _=>⟨[.sh (.int s.b),.sh (.int s.e),.sh (.int s.n),.sh (.int s.m)],rfl,rfl,jdG (ji (jm rfl rfl zm) (ji (jm rfl rfl zm) (ji rfl (ji rfl rfl)))) (show 4<16777216 by decide)⟩))) rfl) eh3) rfl (jmg e3)))) ?_;have eni:qT (jw dEq (ja 1) (jK (JU jo))) ‹"f"›=some (fl.map jj).isEmpty:=jR (jm rfl rfl jem);by_cases hn:fl=[]
 . have hz:h=0:=by
    have a:=ph.nn;have b:=(ph.iff 0 (YR 0)).mpr fun c T _=>by rw [hn,KO];exact YR 0
    omega
   rw [hn] at eni;rw [hn];exact jdU ((ZD eni).trans (Qn (jm rfl rfl (joW hz)))) fin
 have hl0:0<fl.length:=List.length_pos_iff.mpr hn;have eni0:(fl.map jj).isEmpty=false:=by cases fl with | nil=>exact absurd rfl hn | cons s fl=>rfl
 rw [eni0] at eni;refine jE ‹"f"› (zE eni) ?_;obtain ⟨j,hj⟩:∃j:Nat,c/5%(fl.length:Int)=(j:Int):=⟨(c/5%(fl.length:Int)).toNat,by have:=yz (c/5) (show (fl.length:Int)≠0 by omega);omega⟩;have hjl:j<fl.length:=by have:=yn (c/5) (show (0:Int)<(fl.length:Int) by omega);omega
 refine jE [.sh (.scr ns),.sh ‹"aF"›,.sh (.int c),.sh (.int h),.sh (.int (j:Int)),.sh (.int a),.un,.un,.un,.un,.un,.un,.un] (jS (by rw [jm (jm rfl rfl (zr (by decide) (by decide))) (ju rfl elen) (jU (by omega)),hj])) ?_;have eat:qt ‹"aF"› (.int (j:Int))=some (jj (shp fl j)):=jmE (by omega) (by rw [Yv];exact jbl hjl);have hs0:=hf0 _ (zT hjl);have efl':fl=fl.take j++shp fl j::fl.drop (j+1):=by have q:=jbl hjl;rw [Yb hjl] at q;rw [<-Option.some.inj q,<- Kg hjl,List.take_append_drop]
 generalize shp fl j=s at eat hs0 efl';refine jE [.sh (.scr ns),.sh ‹"aF"›,.sh (.int c),.sh (.int h),.sh (.int (j:Int)),.sh (.int a),.sh (.int s.b),.sh (.int s.e),.sh (.int s.n),.sh (.int s.m),.un,.un,.un] (by unfold jkf;rw [jm (g:=qt) rfl rfl eat];rfl) ?_;have t3:L2.Qc (fl.map jj) none (some (j:Int))=(fl.take j).map jj:=by rw [jcI j (by rw [Yd];omega),List.map_take]
 have t4:L2.Qc (fl.map jj) (some ((j:Int)+1)) none=(fl.drop (j+1)).map jj:=by rw [show (j:Int)+1=((j+1:Nat):Int) by omega,jf1 (j+1) (by rw [Yd];omega),List.map_drop]
 have ltk:(fl.take j).length<=4/\(fl.drop (j+1)).length<=4/\(fl.take j).length+(fl.drop (j+1)).length<=4:=by rw [Kt,KF];omega
 obtain ⟨h4,eh4,ph4⟩:=JK (fl:=fl.take j++fl.drop (j+1)) (mem (fun s=>kn) fun s=>ko) (by rw [YG];omega);obtain ⟨l1,l2⟩:=jnn hs0.ok (by rw [<-efl'];exact ph) ph4;refine jE ‹"D"› (jS (ju (ji (jX (jm ‹"ax"› ‹"aj"› (ZY (by omega)))) rfl) eh4)) ?_;refine jE ‹"D"› (zE (jnY (jR (jm rfl rfl (joq l1))) (jR (jm rfl (jm rfl rfl jZ) (joq l2))))) ?_;have m0:=yz w (show (10:Int)≠0 by decide);have m9:=yn w (show (0:Int)<10 by decide);refine jE [.sh (.scr ns),.sh ‹"aF"›,.sh (.int c),.sh (.int h),.sh (.int (j:Int)),.sh (.int a),.sh (.int s.b),.sh (.int s.e),.sh (.int s.n),.sh (.int s.m),.sh (.int h4),.sh (.int (w%10)),.un] (jS (jm (ju rfl ec2) rfl (jU (by decide)))) ?_;generalize w%10=x at m0 m9;have sm1:=hs0.ok.m1;have mm:s.m<=(if s.m+x<1000000000000000 then s.m+x else 1000000000000000)/\(if s.m+x<1000000000000000 then s.m+x else 1000000000000000)<=1000000000000000:=by split <;> omega
 refine jE [.sh (.scr ns),.sh ‹"aF"›,.sh (.int c),.sh (.int h),.sh (.int (j:Int)),.sh (.int a),.sh (.int s.b),.sh (.int s.e),.sh (.int s.n),.sh (.int s.m),.sh (.int h4),.sh (.int x),.ow [jj ⟨s.b-x,s.e,s.n,s.m⟩,jj ⟨s.b,s.e+x,s.n,s.m⟩]] (jo3 (jfU (ji (jdG (l:=[.int (s.b-x),.int s.e,.int s.n,.int s.m]) (ji (jm rfl rfl zm) (ji rfl (ji rfl (ji rfl rfl)))) (show 4<16777216 by decide)) (ji (jdG (l:=[.int s.b,.int (s.e+x),.int s.n,.int s.m]) (ji rfl (ji (jm rfl rfl jZ) (ji rfl (ji rfl rfl)))) (show 4<16777216 by decide)) rfl)) (show 2<16777216 by decide))) ?_;refine jE [.sh (.scr ns),.sh ‹"aF"›,.sh (.int c),.sh (.int h),.sh (.int (j:Int)),.sh (.int a),.sh (.int s.b),.sh (.int s.e),.sh (.int s.n),.sh (.int s.m),.sh (.int h4),.sh (.int x),.ow [jj ⟨s.b-x,s.e,s.n,s.m⟩,jj ⟨s.b,s.e+x,s.n,s.m⟩,jj ⟨s.b,s.e,s.n,if s.m+x<1000000000000000 then s.m+x else 1000000000000000⟩]] (jh3 (ds:=[jj ⟨s.b-x,s.e,s.n,s.m⟩,jj ⟨s.b,s.e+x,s.n,s.m⟩]) rfl (jdG (ji rfl (ji rfl (ji rfl (ji (ju (ji (jm rfl rfl jkj) (ji (jm rfl rfl jZ) rfl)) rfl) rfl)))) (show 4<16777216 by decide)) (show 2<16777216 by decide)) ?_;have pick:∃t:Ship,t.Ok/\t.b<=s.b/\s.e<=t.e/\s.m<=t.m/\t.n=s.n/\qt (.lst [jj ⟨s.b-x,s.e,s.n,s.m⟩,jj ⟨s.b,s.e+x,s.n,s.m⟩,jj ⟨s.b,s.e,s.n,if s.m+x<1000000000000000 then s.m+x else 1000000000000000⟩]) (.int (w/10%3))=some (jj t):=by
  have y0:=yz (w/10) (show (3:Int)≠0 by decide);have y2:=yn (w/10) (show (0:Int)<3 by decide);generalize w/10%3=y at y0 y2;rcases (show y=0\/y=1\/y=2 by omega) with rfl | rfl | rfl
  . have o:=jeC hs0 (x:=x) (y:=0) (m:=s.m) m0 m9 (by decide) (by decide) (YR _) sm1;rw [KS] at o;exact ⟨_,o,by show s.b-x<=s.b;omega,YR _,YR _,rfl,ZA (by decide) rfl⟩
  . have o:=jeC hs0 (x:=0) (y:=x) (m:=s.m) (by decide) (by decide) m0 m9 (YR _) sm1;rw [KQ] at o;exact ⟨_,o,YR _,by show s.e<=s.e+x;omega,YR _,rfl,ZA (by decide) rfl⟩
  . have o:=jeC hs0 (x:=0) (y:=0) (by decide) (by decide) (by decide) (by decide) mm.1 mm.2;rw [KQ,KS] at o;exact ⟨_,o,YR _,YR _,mm.1,rfl,ZA (by decide) rfl⟩
 obtain ⟨t,ht,tb,te,tm,tn,et⟩:=pick;obtain ⟨h5,eh5,ph5⟩:=JK (fl:=fl.take j++[t]++fl.drop (j+1)) (fun s hs=>by
  rcases YQ.mp hs with z | z
  . rcases YQ.mp z with z | z
    . exact hfl s (kn z)
    . rw [Yn.mp z];exact ht
  . exact hfl s (ko z)) (by rw [YG,YG];show _+1+_<=8;omega)
 have l5:=jnC hs0.ok tb te tm tn (by rw [<-efl'];exact ph) (show Pk (fl.take j++t::fl.drop (j+1)) h5 by rw [yR] at ph5;exact ph5);refine Q6 (Qn (jm (ju (ji (jX (jm (jX (jm ‹"ax"› (jX (l:=[t].map jj) (jfU (ji (jm rfl (jm (jm (ju rfl ec2) rfl (zr (by decide) (by decide))) rfl (jU (by decide))) et) rfl) (by show 1<_;decide))) (ZY (by show _+1<_;omega)))) ‹"aj"› (ZY (by rw [YG];show _+1+_<_;omega)))) rfl) eh5) rfl (by rw [jhh,YN l5]))) fin
end Q
section
namespace Q
open PySem PySem.Spec PyProof.Rows L2
def top (i:Nat):Stmt:=PySem.Challenge.pw_evenquay_k65_peaks_made_otherwise.main.body.getD i (.Pass ⟨0,0,0,0⟩)
abbrev qN:Stmt:=top 50
abbrev zQ:Stmt:=top 51
abbrev zq:Stmt:=top 52
abbrev Jb:Stmt:=top 10
abbrev zJ:Stmt:=top 11
abbrev zb:Stmt:=top 12
abbrev qD:Stmt:=top 13
abbrev qZ:Stmt:=top 40
abbrev Zm:Stmt:=top 42
abbrev Qg:Stmt:=top 43
abbrev ZQ:Stmt:=top 32
abbrev ZT:Stmt:=top 33
abbrev Qk:Stmt:=top 34
abbrev Jm:Stmt:=top 37
abbrev Qi:Stmt:=top 35
abbrev J4:Stmt:=top 22
abbrev zk:Stmt:=top 36
abbrev qU:Stmt:=top 38
abbrev qR:Stmt:=top 31
abbrev jG:Stmt:=top 44
abbrev zD:Stmt:=top 45
abbrev zd:Stmt:=top 20
abbrev zF:Stmt:=top 14
abbrev zM:Stmt:=top 15
abbrev Qj:Stmt:=top 16
abbrev jbo:Stmt:=top 17
abbrev qJ:Stmt:=top 18
abbrev qG:Stmt:=top 19
abbrev jbf:Stmt:=top 46
abbrev Je:Stmt:=top 23
abbrev Qt:Stmt:=top 24
abbrev Zl:Stmt:=top 48
abbrev Z5:Stmt:=top 53
theorem ar1 {α:Type} {P:List α->Prop} (h:∀v0:α,P [v0]):∀us:List α,us.length=1->P us
 | [v0],_=>h v0
theorem ar2 {α:Type} {P:List α->Prop} (h:∀v0 v1:α,P [v0,v1]):∀us:List α,us.length=2->P us
 | [v0,v1],_=>h v0 v1
theorem ar3 {α:Type} {P:List α->Prop} (h:∀v0 v1 v2:α,P [v0,v1,v2]):∀us:List α,us.length=3->P us
 | [v0,v1,v2],_=>h v0 v1 v2
theorem ar4 {α:Type} {P:List α->Prop} (h:∀v0 v1 v2 v3:α,P [v0,v1,v2,v3]):∀us:List α,us.length=4->P us
 | [v0,v1,v2,v3],_=>h v0 v1 v2 v3
set_option genSizeOf false
set_option genInjectivity false
structure Adr where
 uf:Addr
 ue:FuncData
 uA:Addr
 uD:FuncData
 uq:Addr
 uv:FuncData
 uR:Addr
 uM:FuncData
 va:Addr
 u9:FuncData
 uX:Addr
 uU:FuncData
 tY:Addr
 tZ:FuncData
 uP:Addr
 uV:FuncData
 wU:Addr
 wI:FuncData
 vG:Addr
 vJ:FuncData
 vZ:Addr
 v8:FuncData
 vW:Addr
 wb:FuncData
 vw:Addr
 vN:FuncData
 vR:Addr
 vv:FuncData
 vA:Addr
 vq:FuncData
 wc:Addr
 v5:FuncData
 ur:Addr
 uo:FuncData
 vL:Addr
 vE:FuncData
 uF:Addr
 uE:FuncData
 uc:Addr
 ud:FuncData
 uy:Addr
 uH:FuncData
 uQ:Addr
 uS:FuncData
 vD:Addr
 vQ:FuncData
 uz:Addr
 uC:FuncData
 vk:Addr
 vM:FuncData
 w5:Addr
 wR:FuncData
 uT:Addr
 uO:FuncData
 um:Addr
 uu:FuncData
 wJ:Addr
 w6:FuncData
 uN:Addr
 uY:FuncData
 vn:Addr
 vO:FuncData
 ra:Addr
 wX:FuncData
 rq:Addr
 rn:FuncData
 t_NEED:Tok
 t_MOST:Tok
 t_END:Tok
 t_BEGIN:Tok
 t_OFF:Tok
 t_SHIP:Tok
 t_PART:Tok
 t_MANY:Tok
 t_MARKS:Tok
 t_TO:Tok
 t_FROM:Tok
structure Txt (K:PySem.W.Frag) (mg:Str->Option Value) (A:Adr):Prop where
 tK:Fun K "_law_cell_at" "_law_cell_at" qN A.uf A.ue
 tM:Binds K A.ue ["script","k"] []
 tN:mg "_law_cell_at"=some (.ref A.uf)
 vg:Fun K "_law_ship" "_law_ship" zQ A.uA A.uD
 wq:Binds K A.uD ["one","two","kind"] []
 wy:mg "_law_ship"=some (.ref A.uA)
 u0:Fun K "_law_fleet" "_law_fleet" zq A.uq A.uv
 vV:Binds K A.uv ["script","start"] []
 wm:mg "_law_fleet"=some (.ref A.uq)
 vp:Fun K "is_whole" "is_whole" Jb A.uR A.uM
 wY:Binds K A.uM ["thing"] []
 wL:mg "is_whole"=some (.ref A.uR)
 vT:Fun K "is_ship" "is_ship" zJ A.va A.u9
 rC:Binds K A.u9 ["thing"] []
 rB:mg "is_ship"=some (.ref A.va)
 vH:Fun K "is_fleet" "is_fleet" zb A.uX A.uU
 wQ:Binds K A.uU ["thing"] []
 wZ:mg "is_fleet"=some (.ref A.uX)
 ux:Fun K "must_be_fleet" "must_be_fleet" qD A.tY A.tZ
 vi:Binds K A.tZ ["thing"] []
 vh:mg "must_be_fleet"=some (.ref A.tY)
 vF:Fun K "bound_in" "bound_in" qZ A.uP A.uV
 wM:Binds K A.uV ["need","rooms","marks"] []
 wK:mg "bound_in"=some (.ref A.uP)
 vz:Fun K "kept" "kept" Zm A.wU A.wI
 wj:Binds K A.wI ["numbers","marks","mark"] []
 we:mg "kept"=some (.ref A.wU)
 wB:Fun K "joined" "joined" Qg A.vG A.vJ
 rV:Binds K A.vJ ["marked","others","marks"] []
 rK:mg "joined"=some (.ref A.vG)
 rA:Fun K "mover" "mover" ZQ A.vZ A.v8
 rZ:Binds K A.v8 ["rooms","part","off","on"] []
 sd:mg "mover"=some (.ref A.vZ)
 rl:Fun K "reach" "reach" ZT A.vW A.wb
 se:Binds K A.wb ["rooms","part","begun"] []
 r8:mg "reach"=some (.ref A.vW)
 wu:Fun K "way_to" "way_to" Qk A.vw A.vN
 rW:Binds K A.vN ["moves","end"] []
 rE:mg "way_to"=some (.ref A.vw)
 wC:Fun K "behind" "behind" Jm A.vR A.vv
 rT:Binds K A.vv ["part","way","many"] []
 rH:mg "behind"=some (.ref A.vR)
 wA:Fun K "put_in" "put_in" Qi A.vA A.vq
 rL:Binds K A.vq ["needs","rooms","part"] []
 rD:mg "put_in"=some (.ref A.vA)
 vj:Fun K "total" "total" J4 A.wc A.v5
 v9:Binds K A.v5 ["plan","place"] []
 v7:mg "total"=some (.ref A.wc)
 u3:Fun K "most_along" "most_along" zk A.ur A.uo
 vY:Binds K A.uo ["needs","rooms","part","way"] []
 wa:mg "most_along"=some (.ref A.ur)
 vB:Fun K "filled" "filled" qU A.vL A.vE
 wF:Binds K A.vE ["needs","rooms","tops","part"] []
 wo:mg "filled"=some (.ref A.vL)
 vf:Fun K "no_cranes" "no_cranes" qR A.uF A.uE
 wz:Binds K A.uE ["rooms"] []
 wG:mg "no_cranes"=some (.ref A.uF)
 ug:Fun K "evened_apart" "evened_apart" jG A.uc A.ud
 uJ:Binds K A.ud ["needs","rooms","hours","marks"] []
 uI:mg "evened_apart"=some (.ref A.uc)
 uZ:Fun K "evened" "evened" zD A.uy A.uH
 vo:Binds K A.uH ["needs","rooms","hours"] []
 vP:mg "evened"=some (.ref A.uy)
 vm:Fun K "needs_of" "needs_of" zd A.uQ A.uS
 wV:Binds K A.uS ["fleet"] []
 wN:mg "needs_of"=some (.ref A.uQ)
 wt:Fun K "bounds" "bounds" zF A.vD A.vQ
 rN:Binds K A.vQ ["fleet"] []
 rO:mg "bounds"=some (.ref A.vD)
 ui:Fun K "stretches" "stretches" zM A.uz A.uC
 uB:Binds K A.uC ["fleet"] []
 uG:mg "stretches"=some (.ref A.uz)
 u4:Fun K "length" "length" Qj A.vk A.vM
 vI:Binds K A.vM ["stretch"] []
 vK:mg "length"=some (.ref A.vk)
 rS:Fun K "room" "room" jbo A.w5 A.wR
 sq:Binds K A.wR ["ship","stretch"] []
 sr:mg "room"=some (.ref A.w5)
 vt:Fun K "rooms_of" "rooms_of" qJ A.uT A.uO
 rh:Binds K A.uO ["fleet"] []
 wO:mg "rooms_of"=some (.ref A.uT)
 u5:Fun K "lengths_of" "lengths_of" qG A.um A.uu
 wg:Binds K A.uu ["fleet"] []
 vX:mg "lengths_of"=some (.ref A.um)
 rR:Fun K "even" "even" jbf A.wJ A.w6
 sm:Binds K A.w6 ["fleet"] []
 sj:mg "even"=some (.ref A.wJ)
 vx:Fun K "loads_in" "loads_in" Je A.uN A.uY
 wW:Binds K A.uY ["many","hours"] []
 rb:mg "loads_in"=some (.ref A.uN)
 wx:Fun K "row_of" "row_of" Qt A.vn A.vO
 rX:Binds K A.vO ["fleet","plan"] []
 rJ:mg "row_of"=some (.ref A.vn)
 uW:Fun K "peak" "peak" Zl A.ra A.wX
 vc:Binds K A.wX ["fleet"] []
 vb:mg "peak"=some (.ref A.ra)
 sA:Fun K "law" "law" Z5 A.rq A.rn
 sD:Binds K A.rn ["script"] []
 sF:mg "law"=some (.ref A.rq)
 rM:mg "NEED"=some (.int 2 A.t_NEED)
 rg:mg "MOST"=some (.int 3 A.t_MOST)
 rF:mg "END"=some (.int 1 A.t_END)
 vU:mg "BEGIN"=some (.int 0 A.t_BEGIN)
 sx:mg "OFF"=some (.int 1 A.t_OFF)
 sk:mg "SHIP"=some (.int 0 A.t_SHIP)
 rG:mg "PART"=some (.int 1 A.t_PART)
 rQ:mg "MANY"=some (.int 0 A.t_MANY)
 rp:mg "MARKS"=some (.int 2 A.t_MARKS)
 sy:mg "TO"=some (.int 1 A.t_TO)
 rP:mg "FROM"=some (.int 0 A.t_FROM)
 tT:mg "len"=none
 rj:mg "min"=none
 wk:mg "range"=none
 ua:mg "isinstance"=none
 su:mg "bool"=none
 si:mg "int"=none
 wD:mg "all"=none
 rY:mg "tuple"=none
 uw:mg "list"=none
 sf:mg "max"=none
 tR:mg "sum"=none
 vS:mg "zip"=none
 tX:mg "enumerate"=none
 sv:mg "dict"=none
 rf:mg "reversed"=none
 wH:mg "sorted"=none
 sC:mg "set"=none
theorem jbO:FnScope ["script","k"] ["script","k"] (je qN):=⟨rfl,rfl,rfl,by decide +kernel,rfl,by decide +kernel,by decide +kernel⟩
theorem tJ:FnScope ["one","two","kind","begin","end","most","mixed","full","need"] ["one","two","kind"] (je zQ):=⟨rfl,rfl,rfl,by decide +kernel,rfl,by decide +kernel,by decide +kernel⟩
theorem tQ:FnScope ["script","start","cell","fleet","k","one"] ["script","start"] (je zq):=⟨rfl,rfl,rfl,by decide +kernel,rfl,by decide +kernel,by decide +kernel⟩
theorem jfz:FnScope ["thing"] ["thing"] (je Jb):=⟨rfl,rfl,rfl,by decide +kernel,rfl,by decide +kernel,by decide +kernel⟩
theorem vC:FnScope ["thing","hours"] ["thing"] (je zJ):=⟨rfl,rfl,rfl,by decide +kernel,rfl,by decide +kernel,by decide +kernel⟩
theorem jfH:FnScope ["thing"] ["thing"] (je zb):=⟨rfl,rfl,rfl,by decide +kernel,rfl,by decide +kernel,by decide +kernel⟩
theorem ja9:FnScope ["thing"] ["thing"] (je qD):=⟨rfl,rfl,rfl,by decide +kernel,rfl,by decide +kernel,by decide +kernel⟩
theorem vd:FnScope ["need","rooms","marks","elsewhere"] ["need","rooms","marks"] (je qZ):=⟨rfl,rfl,rfl,by decide +kernel,rfl,by decide +kernel,by decide +kernel⟩
theorem jmn:FnScope ["numbers","marks","mark"] ["numbers","marks","mark"] (je Zm):=⟨rfl,rfl,rfl,by decide +kernel,rfl,by decide +kernel,by decide +kernel⟩
theorem uj:FnScope ["marked","others","marks","share","place","mark","ahead"] ["marked","others","marks"] (je Qg):=⟨rfl,rfl,rfl,by decide +kernel,rfl,by decide +kernel,by decide +kernel⟩
theorem vy:FnScope ["rooms","part","off","on","ship","share"] ["rooms","part","off","on"] (je ZQ):=⟨rfl,rfl,rfl,by decide +kernel,rfl,by decide +kernel,by decide +kernel⟩
theorem tW:FnScope ["rooms","part","begun","moves","waiting","turn","off","on","ship"] ["rooms","part","begun"] (je ZT):=⟨rfl,rfl,rfl,by decide +kernel,rfl,by decide +kernel,by decide +kernel⟩
theorem uL:FnScope ["moves","end","way","move"] ["moves","end"] (je Qk):=⟨rfl,rfl,rfl,by decide +kernel,rfl,by decide +kernel,by decide +kernel⟩
theorem uk:FnScope ["part","way","many","told","ship","off","on"] ["part","way","many"] (je Jm):=⟨rfl,rfl,rfl,by decide +kernel,rfl,by decide +kernel,by decide +kernel⟩
theorem tU:FnScope ["needs","rooms","part","moves","ship","share","short","on","many"] ["needs","rooms","part"] (je Qi):=⟨rfl,rfl,rfl,by decide +kernel,rfl,by decide +kernel,by decide +kernel⟩
theorem jk1:FnScope ["plan","place"] ["plan","place"] (je J4):=⟨rfl,rfl,rfl,by decide +kernel,rfl,by decide +kernel,by decide +kernel⟩
theorem tP:FnScope ["needs","rooms","part","way","first","limits","ship","off","on"] ["needs","rooms","part","way"] (je zk):=⟨rfl,rfl,rfl,by decide +kernel,rfl,by decide +kernel,by decide +kernel⟩
theorem tV:FnScope ["needs","rooms","tops","part","moves","free","many","way","spare"] ["needs","rooms","tops","part"] (je qU):=⟨rfl,rfl,rfl,by decide +kernel,rfl,by decide +kernel,by decide +kernel⟩
theorem je6:FnScope ["rooms"] ["rooms"] (je qR):=⟨rfl,rfl,rfl,by decide +kernel,rfl,by decide +kernel,by decide +kernel⟩
theorem tO:FnScope ["needs","rooms","hours","marks","inside","outside","high","low"] ["needs","rooms","hours","marks"] (je jG):=⟨rfl,rfl,rfl,by decide +kernel,rfl,by decide +kernel,by decide +kernel⟩
theorem uK:FnScope ["needs","rooms","hours","level","floor","full"] ["needs","rooms","hours"] (je zD):=⟨rfl,rfl,rfl,by decide +kernel,rfl,by decide +kernel,by decide +kernel⟩
theorem jfW:FnScope ["fleet"] ["fleet"] (je zd):=⟨rfl,rfl,rfl,by decide +kernel,rfl,by decide +kernel,by decide +kernel⟩
theorem u7:FnScope ["fleet","begins","ends"] ["fleet"] (je zF):=⟨rfl,rfl,rfl,by decide +kernel,rfl,by decide +kernel,by decide +kernel⟩
theorem u6:FnScope ["fleet","rising"] ["fleet"] (je zM):=⟨rfl,rfl,rfl,by decide +kernel,rfl,by decide +kernel,by decide +kernel⟩
theorem jiW:FnScope ["stretch"] ["stretch"] (je Qj):=⟨rfl,rfl,rfl,by decide +kernel,rfl,by decide +kernel,by decide +kernel⟩
theorem jnp:FnScope ["ship","stretch"] ["ship","stretch"] (je jbo):=⟨rfl,rfl,rfl,by decide +kernel,rfl,by decide +kernel,by decide +kernel⟩
theorem ve:FnScope ["fleet","spans"] ["fleet"] (je qJ):=⟨rfl,rfl,rfl,by decide +kernel,rfl,by decide +kernel,by decide +kernel⟩
theorem jdu:FnScope ["fleet"] ["fleet"] (je qG):=⟨rfl,rfl,rfl,by decide +kernel,rfl,by decide +kernel,by decide +kernel⟩
theorem jmk:FnScope ["fleet"] ["fleet"] (je jbf):=⟨rfl,rfl,rfl,by decide +kernel,rfl,by decide +kernel,by decide +kernel⟩
theorem uh:FnScope ["many","hours","least","fuller","counted"] ["many","hours"] (je Je):=⟨rfl,rfl,rfl,by decide +kernel,rfl,by decide +kernel,by decide +kernel⟩
theorem ub:FnScope ["fleet","plan","hours_by_load","place","span","load","hours"] ["fleet","plan"] (je Qt):=⟨rfl,rfl,rfl,by decide +kernel,rfl,by decide +kernel,by decide +kernel⟩
theorem rm:FnScope ["fleet","plan"] ["fleet"] (je Zl):=⟨rfl,rfl,rfl,by decide +kernel,rfl,by decide +kernel,by decide +kernel⟩
theorem tS:FnScope ["script","fleet","cell","found","at","along","begin","end","need","most","less","more","wide"] ["script"] (je Z5):=⟨rfl,rfl,rfl,by decide +kernel,rfl,by decide +kernel,by decide +kernel⟩
section
variable {P:Program} {w:World} {K:PySem.W.Frag} {mg:Str->Option Value} {base:Heap} {A:Adr}
theorem qr (T:Txt K mg A):FnOk P w K mg base JN 1 A.uf A.ue ["script","k"] (@spS ⟨K⟩ jW):=
 zP (m:=JW) T.tK jbO rfl rfl fun cdv Ar outer s H E hr=>
  (jg (zg (qL jfP (jb 1) ‹"ae"›)
   (jr (j3 (qj (jb 0) (jb 1)))) j7)
   (jr (j3 jt)))
theorem jeL (T:Txt K mg A):FnOk P w K mg base JN 1 A.uA A.uD ["one","two","kind"] (@spS ⟨K⟩ Jj):=
 zP (m:=ZO) T.vg tJ rfl rfl fun cdv Ar outer s H E hr=>
  (jg ‹"aU"›
   (jg (jJ (i:=4) (za (eg (za (jb 3) (eg jt))) (eg (zt (eg (ZL (jb 0) (eg jt))) (eg jt)))) (fun _=>tJ.nd) rfl ‹"a"› ‹"a"›)
   (jg (zg (qL (jf6 fun _=>hr.units) (jb 2) (eg jt))
   (jg ‹"aU"›
   (jr (jJ (i:=4) (za (eg (za (jb 3) (eg jt))) (eg (zt (eg (ZL (jb 0) (eg jt))) (eg jt)))) (fun _=>tJ.nd) rfl (fun _=>Or.inl rfl) (fun _=>Or.inl rfl)))) j7)
   (jg (zg (qL (jf6 fun _=>hr.units) (jb 2) (eg jt))
   (jg (jJ (i:=3) (JY (eg (Jw (eg (zt (eg (JY (jb 0) (eg jt))) (eg jt))) (eg (jcZ (eg jt) (eg jt))))) (eg (jcZ (eg jt) (eg jt)))) (fun _=>tJ.nd) rfl ‹"a"› ‹"a"›)
   (jr (jJ (i:=4) (za (eg (za (jb 3) (eg jt))) (eg (JY (eg (zt (eg (JY (jb 0) (eg jt))) (eg jt))) (eg (jcZ (eg jt) (eg jt)))))) (fun _=>tJ.nd) rfl (fun _=>Or.inl rfl) (fun _=>Or.inl rfl)))) j7)
   (jg (jJ (i:=5) (qj (eg (WO.toE (JP (jc jt (jc jt (jc jt (jc jt (jc (jcZ (eg jt) (eg jt)) (jc (za (eg jt) (eg (zt (eg (ZL (jb 1) (eg jt))) (eg jt)))) (jc jt (jc jt jq))))))))))) (eg (zt (jb 1) (eg jt)))) (fun _=>tJ.nd) rfl ‹"a"› ‹"a"›)
   (jg (jJ (i:=6) (zt (eg (JY (jb 1) (eg jt))) (eg jt)) (fun _=>tJ.nd) rfl ‹"a"› ‹"a"›)
   (jg (jJ (i:=7) (JY (jb 5) (eg (Jw (jb 4) (jb 3)))) (fun _=>tJ.nd) rfl ‹"a"› ‹"a"›)
   (jg (jJ (i:=8) (qj (eg (WO.toE (JP (jc (ZL (eg (JY (jb 7) (eg (zt (jb 6) (eg jt))))) (eg jt)) (jc (zt (jb 6) (eg (za (jb 7) (eg jt)))) (jc (Jn jgQ (fun _=>rfl) (fun _=>T.rj) boot_min (jy (jb 7) (jy (eg (zt (jb 6) (eg jt))) jL))) (jc (jl 7) jq))))))) (eg (zt (eg (ZL (jb 6) (eg jt))) (eg jt)))) (fun _=>tJ.nd) rfl ‹"a"› ‹"a"›)
   (jr (j3 (Zw (jc (jl 3) (jc (jl 4) (jc (jl 8) (jc (jl 5) jq)))))))))))))))
theorem jdq (T:Txt K mg A):FnOk P w K mg base JN 2 A.uq A.uv ["script","start"] (@spO ⟨K⟩ Q2):=
 Qh (m:=JH) T.u0 tQ rfl rfl fun cdv Ar outer s H E hr=>
  (jg (jJ (i:=2) (jN (fun _=>qr T) ‹"c"› (fun _=>rfl) (fun _=>T.tN) (fun _=>T.tK.kp) (fun _=>T.tM) (jc (jl 0) (jc (jl 1) jq))) (fun _=>tQ.nd) rfl ‹"a"› ‹"a"›)
   (jg (QR (i:=3) (JP jq) (fun _=>tQ.nd) rfl ‹"a"› ‹"a"›)
   (jg (Qa (jed (fun _=>rfl) (fun _=>T.wk) (jy (eg (qj (eg (WO.toE (JP (jc jt (jc jt (jc jt (jc jt (jc jt (jc jt (jc jt (jc jt jq))))))))))) (eg (zt (jb 2) (eg jt))))) jL)) (j1 (i:=4) (fun _=>tQ.nd) rfl ‹"a"› ‹"a"›)
   (jg (jJ (i:=5) (jN (fun _=>qr T) ‹"c"› (fun _=>rfl) (fun _=>T.tN) (fun _=>T.tK.kp) (fun _=>T.tM) (jc (jl 0) (jc (za (eg (za (jb 1) (eg jt))) (eg (JY (eg jt) (jb 4)))) jq))) (fun _=>tQ.nd) rfl ‹"a"› ‹"a"›)
   (jr (Zk (i:=3) rfl (fun _=>Or.inl rfl) (jN (fun _=>jeL T) (fun _=>hr.mono (by decide)) (fun _=>rfl) (fun _=>T.wy) (fun _=>T.vg.kp) (fun _=>T.wq) (jc (jl 5) (jc (jN (fun _=>qr T) (fun _=>hr.mono (by decide)) (fun _=>rfl) (fun _=>T.tN) (fun _=>T.tK.kp) (fun _=>T.tM) (jc (jl 0) (jc (za (eg (za (jb 1) (eg jt))) (eg (JY (eg jt) (jb 4)))) jq))) (jc (zt (eg (ZL (jb 2) (eg jt))) (eg jt)) jq))))))))
   (jg (zg (WW.toC (jgx (qL jjp (eg (Jn tT (fun _=>rfl) (fun _=>T.tT) yN (jy (jb 3) jL))) (eg jt)) (je5 (qL (jf6 fun _=>hr.units) (eg (zt (eg (ZL (jb 2) (eg jt))) (eg jt))) (eg jt)))))
   (jr (jpW (i:=3) rfl (fun _=>Or.inl rfl) (jrX (eg jt)) (qj (jb 3) (eg jt)))) j7)
   (jr (jee 3))))))
theorem jfp (T:Txt K mg A):FnOk P w K mg base JN 1 A.uR A.uM ["thing"] (@spS ⟨K⟩ jan):=
 zP (m:=jcQ) T.vp jfz rfl rfl fun cdv Ar outer s H E hr=>(jr (j3 (jhO (eg (jiG (fun _=>rfl) (fun _=>T.ua) (fun _=>rfl) (fun _=>T.si) boot_int (by decide) (jb 0))) (jkY (w_not (eg (jiG (fun _=>rfl) (fun _=>T.ua) (fun _=>rfl) (fun _=>T.su) boot_bool (by decide) (jb 0))))))))
theorem jgF (T:Txt K mg A):FnOk P w K mg base JN 2 A.va A.u9 ["thing"] (@spS ⟨K⟩ Qy):=
 zP (m:=jbt) T.vT vC rfl rfl fun cdv Ar outer s H E hr=>
  (jg (zg (WW.toC (jrC (jio (jde (eg (jiG (fun _=>rfl) (fun _=>T.ua) (fun _=>rfl) (fun _=>T.rY) boot_tuple (by decide) (jb 0))))) (joy (qL (jmB fun _=>hr.units) ‹"ae"› (eg jt)))))
   (jr (j3 jc6)) j7)
   (jg (zg (jio (jde (eg (Jn wD (fun _=>rfl) (fun _=>T.wD) boot_all (jy (eg (WO.toE (Qs (sc:=je zJ) (Lc:=["part"]) (Fn:=[]) (ix:=[]) (fun _=>rfl) (show LcOk (je zJ) ["thing","hours"] _ [] [] from by decide +kernel) (WI.toT (jqi (jl 0))) (qy (i:=0) (fun _=>show List.Nodup (["part"]:List Str) from by decide +kernel) rfl (by decide) ‹"a"› ‹"i"›) j6 (jN (fun _=>jfp T) ‹"c"› (fun _=>rfl) (fun _=>T.wL) (fun _=>T.vp.kp) (fun _=>T.wY) (jc (jl 0) jq))))) jL)))))
   (jr (j3 jc6)) j7)
   (jg (jJ (i:=1) (Jw (eg (qj (jb 0) (eg (qx (fun _=>rfl) (fun _=>T.rF))))) (eg (qj (jb 0) (eg (qx (fun _=>rfl) (fun _=>T.vU)))))) (fun _=>vC.nd) rfl ‹"a"› ‹"a"›)
   (jr (j3 (jhO (eg (jdN jjp (jb 1) (eg jt))) (jhO (eg (jdN jsF (eg (qj (jb 0) (eg (qx (fun _=>rfl) (fun _=>T.rg))))) (eg jt))) (jkY (jnv jlZ jlZ (eg jt) (eg (qj (jb 0) (eg (qx (fun _=>rfl) (fun _=>T.rM))))) (eg (JY (eg (qj (jb 0) (eg (qx (fun _=>rfl) (fun _=>T.rg))))) (jb 1))))))))))))
theorem jf5 (T:Txt K mg A):FnOk P w K mg base JN 3 A.uX A.uU ["thing"] (@spS ⟨K⟩ QY):=
 zP (m:=jag) T.vH jfH rfl rfl fun cdv Ar outer s H E hr=>(jr (j3 (jhO (eg (jiG (fun _=>rfl) (fun _=>T.ua) (fun _=>rfl) (fun _=>T.uw) boot_list (by decide) (jb 0))) (jkY (Jn wD (fun _=>rfl) (fun _=>T.wD) boot_all (jy (eg (WO.toE (Qs (sc:=je zb) (Lc:=["ship"]) (Fn:=[]) (ix:=[]) (fun _=>rfl) (show LcOk (je zb) ["thing"] _ [] [] from by decide +kernel) (qg (jb 0)) ‹"aJ"› j6 (jN (fun _=>jgF T) ‹"c"› (fun _=>rfl) (fun _=>T.rB) (fun _=>T.vT.kp) (fun _=>T.rC) (jc (jl 0) jq))))) jL))))))
theorem jbk (T:Txt K mg A):FnOk P w K mg base JN 4 A.tY A.tZ ["thing"] (@spS ⟨K⟩ zH):=
 zP (m:=Jq) T.ux ja9 rfl rfl fun cdv Ar outer s H E hr=>
  (jr (zg (jio (jde (eg (jN (fun _=>jf5 T) ‹"c"› (fun _=>rfl) (fun _=>T.wZ) (fun _=>T.vH.kp) (fun _=>T.wQ) (jc (jl 0) jq)))))
   (jr jlA) j7))
theorem jfv (T:Txt K mg A):FnOk P w K mg base JN 1 A.uP A.uV ["need","rooms","marks"] (@spS ⟨K⟩ jaq):=
 zP (m:=QD) T.vF vd rfl rfl fun cdv Ar outer s H E hr=>
  (jg (jJ (i:=3) (Jn tR (fun _=>rfl) (fun _=>T.tR) ku (jy (eg (WO.toE (Qs (sc:=je qZ) (Lc:=["many","mark"]) (Fn:=[]) (ix:=[]) (fun _=>rfl) (show LcOk (je qZ) ["need","rooms","marks","elsewhere"] _ [] [] from by decide +kernel) (jaM (fun _=>rfl) (fun _=>T.vS) (jy (jb 1) (jy (jb 2) jL))) (Zy (qq (i:=0) (fun _=>show List.Nodup (["many","mark"]:List Str) from by decide +kernel) rfl (by decide) ‹"a"› ‹"i"› (qq (i:=1) (fun _=>show List.Nodup (["many","mark"]:List Str) from by decide +kernel) rfl (by decide) ‹"a"› ‹"i"› ZC))) (jeZ (jio (jde (jb 1)))) (jl 0)))) jL)) (fun _=>vd.nd) rfl ‹"a"› ‹"a"›)
   (jr (j3 (Jn jpe (fun _=>rfl) (fun _=>T.sf) boot_max (jy (eg (Jw (jb 0) (jb 3))) (jy (eg jt) jL))))))
theorem jbW (T:Txt K mg A):FnOk P w K mg base JN 1 A.wU A.wI ["numbers","marks","mark"] (@spO ⟨K⟩ QO):=
 Qh (m:=jgH) T.vz jmn rfl rfl fun cdv Ar outer s H E hr=>(jr (Jh (Qs (sc:=je Zm) (Lc:=["number","other"]) (Fn:=["mark"]) (ix:=[2]) (fun _=>rfl) (show LcOk (je Zm) ["numbers","marks","mark"] _ ["mark"] [2] from by decide +kernel) (jaM (fun _=>rfl) (fun _=>T.vS) (jy (jb 0) (jy (jb 1) jL))) (Zy (qq (i:=0) (fun _=>show List.Nodup (["number","other","mark"]:List Str) from by decide +kernel) rfl (by decide) ‹"a"› ‹"i"› (qq (i:=1) (fun _=>show List.Nodup (["number","other","mark"]:List Str) from by decide +kernel) rfl (by decide) ‹"a"› ‹"i"› ZC))) (jeZ (qL (jf6 fun _=>hr.units) (jb 1) (jb 2))) (jl 0))))
theorem jiU (T:Txt K mg A):FnOk P w K mg base JN 1 A.vG A.vJ ["marked","others","marks"] (@spO ⟨K⟩ jay):=
 Qh (m:=jcK) T.wB uj rfl rfl fun cdv Ar outer s H E hr=>
  (jg (QR (i:=3) (JP jq) (fun _=>uj.nd) rfl ‹"a"› ‹"a"›)
   (jg (Qa (jaY (fun _=>rfl) (fun _=>T.tX) (jc (jl 2) jq)) (QZ (qe (j1 (i:=4) (fun _=>uj.nd) rfl ‹"a"› ‹"a"›) (qe (j1 (i:=5) (fun _=>uj.nd) rfl ‹"a"› ‹"a"›) QN)))
   (jg (jJ (i:=6) (jm8 (eg (WO.toE (jf7 (jb 2) jbM (jbA (jb 4))))) (jl 5)) (fun _=>uj.nd) rfl ‹"a"› ‹"a"›)
   (jr (Zk (i:=3) rfl (fun _=>Or.inl rfl) (jrt (jde (jb 5)) (qj (jb 0) (jb 6)) (qj (jb 1) (jb 6)))))))
   (jr (jee 3))))
theorem jkc (T:Txt K mg A):FnOk P w K mg base JN 1 A.vZ A.v8 ["rooms","part","off","on"] (@spS ⟨K⟩ QT):=
 zP (m:=jea) T.rA vy rfl rfl fun cdv Ar outer s H E hr=>
  (jg (Qa (jaY (fun _=>rfl) (fun _=>T.tX) (jc (jl 1) jq)) (QZ (qe (j1 (i:=4) (fun _=>vy.nd) rfl ‹"a"› ‹"a"›) (qe (j1 (i:=5) (fun _=>vy.nd) rfl ‹"a"› ‹"a"›) QN)))
   (jr (zg (WW.toC (jgx (qL jjp (eg (qj (jb 5) (jb 2))) (eg jt)) (je5 (qL jfP (eg (qj (jb 5) (jb 3))) (eg (qj (eg (qj (jb 0) (jb 4))) (jb 3)))))))
   (jr (j3 (jl 4))) j7)))
   (jr (j3 jkV)))
theorem jlD (T:Txt K mg A):FnOk P w K mg base JN 2 A.vW A.wb ["rooms","part","begun"] (@spS ⟨K⟩ jbY):=
 zP (m:=jev) T.rl tW rfl rfl fun cdv Ar outer s H E hr=>
  (jg (jeX (i:=3) (jnb (fun _=>rfl) (fun _=>T.sv) (jy (jb 2) jL)) (fun _=>tW.nd) rfl ‹"a"› ‹"a"›)
   (jg (QR (i:=4) (jkF jmi (fun _=>rfl) (fun _=>T.uw) boot_list (jy (jb 2) jL)) (fun _=>tW.nd) rfl ‹"a"› ‹"a"›)
   (jg (jJ (i:=5) jt (fun _=>tW.nd) rfl ‹"a"› ‹"a"›)
   (jg (jcm (qL jfP (jb 5) (eg (Jn tT (fun _=>rfl) (fun _=>T.tT) yN (jy (jb 4) jL))))
   (jg (jJ (i:=6) (qj (jb 4) (jb 5)) (fun _=>tW.nd) rfl ‹"a"› ‹"a"›)
   (jg (Qa (jed (fun _=>rfl) (fun _=>T.wk) (jy (eg (Jn tT (fun _=>rfl) (fun _=>T.tT) yN (jy (eg (qj (jb 0) (eg jt))) jL))) jL)) (j1 (i:=7) (fun _=>tW.nd) rfl ‹"a"› ‹"a"›)
   (jg (jJ (i:=8) (jrt (qL (jnZ fun _=>hr.units) (jb 7) (jb 3)) jkV (jN (fun _=>jkc T) ‹"c"› (fun _=>rfl) (fun _=>T.sd) (fun _=>T.rA.kp) (fun _=>T.rZ) (jc (jl 0) (jc (jl 1) (jc (jl 6) (jc (jl 7) jq)))))) (fun _=>tW.nd) rfl ‹"a"› ‹"a"›)
   (jr (zg (jel (jb 8))
   (jg (jeU (i:=3) (fun _=>hr.units) rfl ‹"a"› (jl 7) (Zw (jc (jl 8) (jc (jl 6) (jc (jl 7) jq)))))
   (jr (Zk (i:=4) rfl (fun _=>Or.inl rfl) (jl 7)))) j7))))
   (jr (jpg (i:=5) jn3 jt (fun _=>tW.nd) rfl (fun _=>Or.inl rfl) (fun _=>Or.inl rfl))))))
   (jr (jiq 3))))))
theorem jjU (T:Txt K mg A):FnOk P w K mg base JN 1 A.vw A.vN ["moves","end"] (@spO ⟨K⟩ jaP):=
 Qh (m:=jc5) T.wu uL rfl rfl fun cdv Ar outer s H E hr=>
  (jg (QR (i:=2) (JP jq) (fun _=>uL.nd) rfl ‹"a"› ‹"a"›)
   (jg (jJ (i:=3) (jqC (fun _=>hr.units) (jb 0) (jb 1)) (fun _=>uL.nd) rfl ‹"a"› ‹"a"›)
   (jg (jcm (jel (jb 3))
   (jg (Zk (i:=2) rfl ‹"a"› (jl 3))
   (jr (jJ (i:=3) (jna (fun _=>hr.units) (jb 0) (eg (qj (jb 3) (eg (qx (fun _=>rfl) (fun _=>T.sx)))))) (fun _=>uL.nd) rfl (fun _=>Or.inl rfl) (fun _=>Or.inl rfl)))))
   (jr (Jh (jqN (fun _=>rfl) (fun _=>T.uw) (fun _=>rfl) (fun _=>T.rf) (jy (jb 2) jL)))))))
theorem jiR (T:Txt K mg A):FnOk P w K mg base JN 1 A.vR A.vv ["part","way","many"] (@spS ⟨K⟩ jaH):=
 zP (m:=jc1) T.wC uk rfl rfl fun cdv Ar outer s H E hr=>
  (jg (jmu (i:=3) (fun _=>uk.nd) rfl (fun _=>rfl) (sc:=je Jm) (Lc:=["share"]) (Fn:=[]) (ix:=[]) (fun _=>rfl) (show LcOk (je Jm) ["part","way","many","told","ship","off","on"] _ [] [] from by decide +kernel) (qg (jb 0)) ‹"aQ"› j6 (jkF uw (fun _=>rfl) (fun _=>T.uw) boot_list (jy (jb 0) jL)))
   (jg (Qa (jeE (jl 1)) (QZ (qe (j1 (i:=4) (fun _=>uk.nd) rfl ‹"a"› ‹"a"›) (qe (j1 (i:=5) (fun _=>uk.nd) rfl ‹"a"› ‹"a"›) (qe (j1 (i:=6) (fun _=>uk.nd) rfl ‹"a"› ‹"a"›) QN))))
   (jg (zg (jel (jb 5))
   (jr (jit (i:=3) jrd rfl (fun _=>Or.inl rfl) (jb 4) (jl 5) (jl 2))) j7)
   (jr (jit (i:=3) jn3 rfl (fun _=>Or.inl rfl) (jb 4) (jl 6) (jl 2)))))
   (jr (jqt 3 (j3 (jl 3))))))
theorem jji (T:Txt K mg A):FnOk P w K mg base JN 1 A.vA A.vq ["needs","rooms","part"] (@spS ⟨K⟩ ja1):=
 zP (m:=jca) T.wA tU rfl rfl fun cdv Ar outer s H E hr=>
  (jg (jeX (i:=3) jla (fun _=>tU.nd) rfl ‹"a"› ‹"a"›)
   (jg (Qa (jaY (fun _=>rfl) (fun _=>T.tX) (jc (jl 2) jq)) (QZ (qe (j1 (i:=4) (fun _=>tU.nd) rfl ‹"a"› ‹"a"›) (qe (j1 (i:=5) (fun _=>tU.nd) rfl ‹"a"› ‹"a"›) QN)))
   (jg (jJ (i:=6) (jdN jfP (eg (Jn tR (fun _=>rfl) (fun _=>T.tR) ku (jy (jb 5) jL))) (eg (qj (jb 0) (jb 4)))) (fun _=>tU.nd) rfl ‹"a"› ‹"a"›)
   (jr (Qa (jaY (fun _=>rfl) (fun _=>T.tX) (jc (jl 5) jq)) (QZ (qe (j1 (i:=7) (fun _=>tU.nd) rfl ‹"a"› ‹"a"›) (qe (j1 (i:=8) (fun _=>tU.nd) rfl ‹"a"› ‹"a"›) QN)))
   (jr (zg (WW.toC (jgx (jde (jb 6)) (jgx (qL jfP (jb 8) (eg (qj (eg (qj (jb 1) (jb 4))) (jb 7)))) (je5 (qL (jkB fun _=>hr.units) (jb 7) (jb 3))))))
   (jr (jeU (i:=3) (fun _=>hr.units) rfl (fun _=>Or.inl rfl) (jl 7) (Zw (jc (jl 4) (jc jkV (jc (jl 7) jq)))))) j7))))))
   (jr (jiq 3))))
theorem jcu (T:Txt K mg A):FnOk P w K mg base JN 1 A.wc A.v5 ["plan","place"] (@spS ⟨K⟩ QE):=
 zP (m:=je7) T.vj jk1 rfl rfl fun cdv Ar outer s H E hr=>(jr (j3 (Jn tR (fun _=>rfl) (fun _=>T.tR) ku (jy (eg (WO.toE (Qs (sc:=je J4) (Lc:=["share"]) (Fn:=["place"]) (ix:=[1]) (fun _=>rfl) (show LcOk (je J4) ["plan","place"] _ ["place"] [1] from by decide +kernel) (qg (jb 0)) (qy (i:=0) (fun _=>show List.Nodup (["share","place"]:List Str) from by decide +kernel) rfl (by decide) ‹"a"› ‹"i"›) j6 (qj (jb 0) (jb 1))))) jL))))
theorem jdp (T:Txt K mg A):FnOk P w K mg base JN 1 A.ur A.uo ["needs","rooms","part","way"] (@spS ⟨K⟩ Jx):=
 zP (m:=QV) T.u3 tP rfl rfl fun cdv Ar outer s H E hr=>
  (jg (jJ (i:=4) (qj (eg (qj (jb 3) (eg jt))) (eg (qx (fun _=>rfl) (fun _=>T.sk)))) (fun _=>tP.nd) rfl ‹"a"› ‹"a"›)
   (jg (QR (i:=5) (JP (jc (Jw (eg (qj (jb 0) (jb 4))) (eg (Jn tR (fun _=>rfl) (fun _=>T.tR) ku (jy (eg (qj (jb 2) (jb 4))) jL)))) jq)) (fun _=>tP.nd) rfl ‹"a"› ‹"a"›)
   (jg (Qa (jeE (jl 3)) (QZ (qe (j1 (i:=6) (fun _=>tP.nd) rfl ‹"a"› ‹"a"›) (qe (j1 (i:=7) (fun _=>tP.nd) rfl ‹"a"› ‹"a"›) (qe (j1 (i:=8) (fun _=>tP.nd) rfl ‹"a"› ‹"a"›) QN))))
   (jg (Zk (i:=5) rfl ‹"a"› (Jw (eg (qj (eg (qj (jb 1) (jb 6))) (jb 8))) (eg (qj (eg (qj (jb 2) (jb 6))) (jb 8)))))
   (jr (zg (jel (jb 7))
   (jr (Zk (i:=5) rfl (fun _=>Or.inl rfl) (qj (eg (qj (jb 2) (jb 6))) (jb 7)))) j7))))
   (jr (j3 (Jn jqn (fun _=>rfl) (fun _=>T.rj) boot_min (jy (jb 5) jL)))))))
theorem jd0 (T:Txt K mg A):FnOk P w K mg base JN 3 A.vL A.vE ["needs","rooms","tops","part"] (@spS ⟨K⟩ Zv):=
 zP (m:=jcb) T.vB tV rfl rfl fun cdv Ar outer s H E hr=>
  (jr (jcm (jde (eg jc6))
   (jg (jJ (i:=4) (jN (fun _=>jlD T) ‹"c"› (fun _=>rfl) (fun _=>T.r8) (fun _=>T.rl.kp) (fun _=>T.se) (jc (jl 1) (jc (jl 3) (jc (jN (fun _=>jji T) ‹"c"› (fun _=>rfl) (fun _=>T.rD) (fun _=>T.wA.kp) (fun _=>T.rL) (jc (jl 0) (jc (jl 1) (jc (jl 3) jq)))) jq)))) (fun _=>tV.nd) rfl ‹"i"› ‹"a"›)
   (jg (jgo (i:=5) (fun _=>tV.nd) rfl (fun _=>rfl) (sc:=je qU) (Lc:=["place"]) (Fn:=["part","tops"]) (ix:=[3,2]) (fun _=>rfl) (show LcOk (je qU) ["needs","rooms","tops","part","moves","free","many","way","spare"] _ ["part","tops"] [3,2] from by decide +kernel) (WI.toT (jpc (jl 4))) (qy (i:=0) (fun _=>show List.Nodup (["place","part","tops"]:List Str) from by decide +kernel) rfl (by decide) ‹"a"› ‹"i"›) (jeZ (qL jfP (eg (jN (fun _=>jcu T) ‹"c"› (fun _=>rfl) (fun _=>T.v7) (fun _=>T.vj.kp) (fun _=>T.v9) (jc (jl 1) (jc (jl 0) jq)))) (eg (qj (jb 2) (jb 0))))) (jl 0))
   (jg (zg (qL (jf6 fun _=>hr.units) (jb 5) (eg (WO.toE (JP jq))))
   (jg (jJ (i:=6) (Jn tR (fun _=>rfl) (fun _=>T.tR) ku (jy (eg (WO.toE (Qs (sc:=je qU) (Lc:=["share"]) (Fn:=[]) (ix:=[]) (fun _=>rfl) (show LcOk (je qU) ["needs","rooms","tops","part","moves","free","many","way","spare"] _ [] [] from by decide +kernel) (qg (jb 3)) ‹"aQ"› j6 ‹"as"›))) jL)) (fun _=>tV.nd) rfl ‹"a"› ‹"a"›)
   (jr (j3 (Zw (jc (jl 6) (jc (jl 3) (jc (WO.toE (Qs (sc:=je qU) (Lc:=["place"]) (Fn:=["moves"]) (ix:=[4]) (fun _=>rfl) (show LcOk (je qU) ["needs","rooms","tops","part","moves","free","many","way","spare"] _ ["moves"] [4] from by decide +kernel) (WI.toT (jed (fun _=>rfl) (fun _=>T.wk) (jy (eg (Jn tT (fun _=>rfl) (fun _=>T.tT) yN (jy (jb 2) jL))) jL))) (qy (i:=0) (fun _=>show List.Nodup (["place","moves"]:List Str) from by decide +kernel) rfl (by decide) (fun _=>Or.inl rfl) (fun _=>Or.inr rfl)) j6 (jdN (jnZ fun _=>hr.units) (jb 0) (jb 1)))) jq))))))) j7)
   (jg (jJ (i:=7) (WO.toE (qv (fun _=>jjU T) ‹"c"› (fun _=>rfl) (fun _=>T.rE) (fun _=>T.wu.kp) (fun _=>T.rW) (jc (jl 4) (jc (qj (jb 5) (eg jt)) jq)))) (fun _=>tV.nd) rfl ‹"a"› ‹"a"›)
   (jg (jJ (i:=8) (Jw (eg (qj (jb 2) (eg (qj (jb 5) (eg jt))))) (eg (jN (fun _=>jcu T) ‹"c"› (fun _=>rfl) (fun _=>T.v7) (fun _=>T.vj.kp) (fun _=>T.v9) (jc (jl 3) (jc (qj (jb 5) (eg jt)) jq))))) (fun _=>tV.nd) rfl ‹"a"› ‹"a"›)
   (jr (jJ (i:=3) (jN (fun _=>jiR T) (fun _=>hr.mono (by decide)) (fun _=>rfl) (fun _=>T.rH) (fun _=>T.wC.kp) (fun _=>T.rT) (jc (jl 3) (jc (jl 7) (jc (Jn jgQ (fun _=>rfl) (fun _=>T.rj) boot_min (jy (jb 8) (jy (eg (jN (fun _=>jdp T) (fun _=>hr.mono (by decide)) (fun _=>rfl) (fun _=>T.wa) (fun _=>T.u3.kp) (fun _=>T.vY) (jc (jl 0) (jc (jl 1) (jc (jl 3) (jc (jl 7) jq)))))) jL))) jq)))) (fun _=>tV.nd) rfl (fun _=>Or.inr rfl) (fun _=>Or.inl rfl))))))))))
theorem jey (T:Txt K mg A):FnOk P w K mg base JN 1 A.uF A.uE ["rooms"] (@spO ⟨K⟩ J3):=
 Qh (m:=Zo) T.vf je6 rfl rfl fun cdv Ar outer s H E hr=>(jr (Jh (Qs (sc:=je qR) (Lc:=["share"]) (Fn:=[]) (ix:=[]) (fun _=>rfl) (show LcOk (je qR) ["rooms"] _ [] [] from by decide +kernel) (qg (jb 0)) ‹"aQ"› j6 (WO.toE (jra (eg (WO.toE (JP (jc jt jq)))) ‹"ae"›)))))
theorem Q5 (T:Txt K mg A) (k:Nat) (h:FnOk P w K mg base JN (3+2*k) A.uy A.uH ["needs","rooms","hours"] (@spS ⟨K⟩ (zi k))):FnOk P w K mg base JN (3+2*k+1) A.uc A.ud ["needs","rooms","hours","marks"] (@spO ⟨K⟩ (Jk 4 8 (qw (zi k)))):=
 Qh (m:=qw (zi k)) T.ug tO rfl rfl fun cdv Ar outer s H E hr=>
  (jg (jgo (i:=4) (fun _=>tO.nd) rfl (fun _=>rfl) (sc:=je jG) (Lc:=["need","share"]) (Fn:=["marks"]) (ix:=[3]) (fun _=>rfl) (show LcOk (je jG) ["needs","rooms","hours","marks","inside","outside","high","low"] _ ["marks"] [3] from by decide +kernel) (jaM (fun _=>rfl) (fun _=>T.vS) (jy (jb 0) (jy (jb 1) jL))) (Zy (qq (i:=0) (fun _=>show List.Nodup (["need","share","marks"]:List Str) from by decide +kernel) rfl (by decide) ‹"a"› ‹"i"› (qq (i:=1) (fun _=>show List.Nodup (["need","share","marks"]:List Str) from by decide +kernel) rfl (by decide) ‹"a"› ‹"i"› ZC))) j6 (jN (fun _=>jfv T) ‹"F"› (fun _=>rfl) (fun _=>T.wK) (fun _=>T.vF.kp) (fun _=>T.wM) (jc (jl 0) (jc (jl 1) (jc (jl 2) jq)))))
   (jg (jgo (i:=5) (fun _=>tO.nd) rfl (fun _=>rfl) (sc:=je jG) (Lc:=["need","many"]) (Fn:=[]) (ix:=[]) (fun _=>rfl) (show LcOk (je jG) ["needs","rooms","hours","marks","inside","outside","high","low"] _ [] [] from by decide +kernel) (jaM (fun _=>rfl) (fun _=>T.vS) (jy (jb 0) (jy (jb 4) jL))) (Zy (qq (i:=0) (fun _=>show List.Nodup (["need","many"]:List Str) from by decide +kernel) rfl (by decide) ‹"a"› ‹"i"› (qq (i:=1) (fun _=>show List.Nodup (["need","many"]:List Str) from by decide +kernel) rfl (by decide) ‹"a"› ‹"i"› ZC))) j6 (Jw (jb 0) (jb 1)))
   (jg (jJ (i:=6) (jN (fun _=>h) ‹"F"› (fun _=>rfl) (fun _=>T.vP) (fun _=>T.uZ.kp) (fun _=>T.vo) (jc (jl 4) ‹"aE"›)) (fun _=>tO.nd) rfl ‹"a"› ‹"a"›)
   (jg (jJ (i:=7) (jN (fun _=>h) ‹"F"› (fun _=>rfl) (fun _=>T.vP) (fun _=>T.uZ.kp) (fun _=>T.vo) (jc (jl 5) ‹"aE"›)) (fun _=>tO.nd) rfl ‹"a"› ‹"a"›)
   (jr (Jh (Qs (sc:=je jG) (Lc:=["marked","others"]) (Fn:=["marks"]) (ix:=[3]) (fun _=>rfl) (show LcOk (je jG) ["needs","rooms","hours","marks","inside","outside","high","low"] _ ["marks"] [3] from by decide +kernel) (jaM (fun _=>rfl) (fun _=>T.vS) (jy (jb 6) (jy (jb 7) jL))) (Zy (qq (i:=0) (fun _=>show List.Nodup (["marked","others","marks"]:List Str) from by decide +kernel) rfl (by decide) (fun _=>Or.inl rfl) (fun _=>Or.inr rfl) (qq (i:=1) (fun _=>show List.Nodup (["marked","others","marks"]:List Str) from by decide +kernel) rfl (by decide) (fun _=>Or.inl rfl) (fun _=>Or.inr rfl) ZC))) j6 (WO.toE (qv (fun _=>jiU T) (fun _=>hr.mono (by omega)) (fun _=>rfl) (fun _=>T.rK) (fun _=>T.wB.kp) (fun _=>T.rV) (jc (jl 0) (jc (jl 1) (jc (jl 2) jq))))))))))))
theorem Zh (T:Txt K mg A):∀k,FnOk P w K mg base JN (3+2*k) A.uy A.uH ["needs","rooms","hours"] (@spS ⟨K⟩ (zi k))
 | 0=>jpm
 | k+1=>FnOk.mono (j:=3+2*k+1+1) (zP (m:=jaG (Jk 4 8 (qw (zi k)))) T.uZ uK rfl rfl fun cdv Ar outer s H E hr=>
   (jg (jJ (i:=3) (ZL (eg ‹"as"›) (eg (Jn tR (fun _=>rfl) (fun _=>T.tR) ku (jy (jb 2) jL)))) (fun _=>uK.nd) rfl ‹"i"› ‹"a"›)
     (jg (jJ (i:=4) (jN (fun _=>jd0 T) ‹"F"› (fun _=>rfl) (fun _=>T.wo) (fun _=>T.vB.kp) (fun _=>T.wF) (jc (jl 0) (jc (jl 1) (jc (WO.toE (Qs (sc:=je zD) (Lc:=["many"]) (Fn:=["level"]) (ix:=[3]) (fun _=>rfl) (show LcOk (je zD) ["needs","rooms","hours","level","floor","full"] _ ["level"] [3] from by decide +kernel) (qg (jb 2)) ‹"aN"› j6 (JY (jb 1) (jb 0)))) (jc (WO.toE (qv (fun _=>jey T) ‹"F"› (fun _=>rfl) (fun _=>T.wG) (fun _=>T.vf.kp) (fun _=>T.wz) (jc (jl 1) jq))) jq))))) (fun _=>uK.nd) rfl ‹"a"› ‹"a"›)
     (jg (zg (qL jfP (eg (qj (jb 4) (eg (qx (fun _=>rfl) (fun _=>T.rQ))))) (eg (JY (jb 3) (eg (Jn tR (fun _=>rfl) (fun _=>T.tR) ku (jy (jb 2) jL))))))
     (jr (j3 (WO.toE (qv (fun _=>Q5 T k (Zh T k)) (fun _=>hr.mono (by omega)) (fun _=>rfl) (fun _=>T.uI) (fun _=>T.ug.kp) (fun _=>T.uJ) (jc (jl 0) (jc (jl 1) (jc (jl 2) (jc (qj (jb 4) (eg (qx (fun _=>rfl) (fun _=>T.rp)))) jq)))))))) j7)
     (jg (jJ (i:=5) (jN (fun _=>jd0 T) ‹"F"› (fun _=>rfl) (fun _=>T.wo) (fun _=>T.vB.kp) (fun _=>T.wF) (jc (jl 0) (jc (jl 1) (jc (WO.toE (Qs (sc:=je zD) (Lc:=["many"]) (Fn:=["level"]) (ix:=[3]) (fun _=>rfl) (show LcOk (je zD) ["needs","rooms","hours","level","floor","full"] _ ["level"] [3] from by decide +kernel) (qg (jb 2)) ‹"aN"› j6 (JY (eg (za (jb 1) (eg jt))) (jb 0)))) (jc (qj (jb 4) (eg (qx (fun _=>rfl) (fun _=>T.rG)))) jq))))) (fun _=>uK.nd) rfl ‹"a"› ‹"a"›)
     (jg (zg (qL jfP (eg (qj (jb 5) (eg (qx (fun _=>rfl) (fun _=>T.rQ))))) (eg ‹"as"›))
     (jr (j3 (WO.toE (qv (fun _=>Q5 T k (Zh T k)) (fun _=>hr.mono (by omega)) (fun _=>rfl) (fun _=>T.uI) (fun _=>T.ug.kp) (fun _=>T.uJ) (jc (jl 0) (jc (jl 1) (jc (jl 2) (jc (qj (jb 5) (eg (qx (fun _=>rfl) (fun _=>T.rp)))) jq)))))))) j7)
     (jr (j3 (qj (jb 5) (eg (qx (fun _=>rfl) (fun _=>T.rG)))))))))))) (by omega)
theorem jjd (T:Txt K mg A):FnOk P w K mg base JN (37) A.uy A.uH ["needs","rooms","hours"] (@spS ⟨K⟩ f_evened):=Zh T 17
theorem jfA (T:Txt K mg A):FnOk P w K mg base JN 1 A.uQ A.uS ["fleet"] (@spO ⟨K⟩ QM):=
 Qh (m:=QC) T.vm jfW rfl rfl fun cdv Ar outer s H E hr=>(jr (Jh (Qs (sc:=je zd) (Lc:=["ship"]) (Fn:=[]) (ix:=[]) (fun _=>rfl) (show LcOk (je zd) ["fleet"] _ [] [] from by decide +kernel) (qg (jb 0)) ‹"aJ"› j6 (qj (jb 0) (eg (qx (fun _=>rfl) (fun _=>T.rM)))))))
theorem jjf (T:Txt K mg A):FnOk P w K mg base JN 1 A.vD A.vQ ["fleet"] (@spO ⟨K⟩ jc2):=
 Qh (m:=jaV) T.wt u7 rfl rfl fun cdv Ar outer s H E hr=>
  (jg (jgo (i:=1) (fun _=>u7.nd) rfl (fun _=>rfl) (sc:=je zF) (Lc:=["ship"]) (Fn:=[]) (ix:=[]) (fun _=>rfl) (show LcOk (je zF) ["fleet","begins","ends"] _ [] [] from by decide +kernel) (qg (jb 0)) ‹"aJ"› j6 (qj (jb 0) (eg (qx (fun _=>rfl) (fun _=>T.vU)))))
   (jg (jgo (i:=2) (fun _=>u7.nd) rfl (fun _=>rfl) (sc:=je zF) (Lc:=["ship"]) (Fn:=[]) (ix:=[]) (fun _=>rfl) (show LcOk (je zF) ["fleet","begins","ends"] _ [] [] from by decide +kernel) (qg (jb 0)) ‹"aJ"› j6 (qj (jb 0) (eg (qx (fun _=>rfl) (fun _=>T.rF)))))
   (jr (Jh (jpO (fun _=>rfl) (fun _=>T.wH) (fun _=>rfl) (fun _=>T.sC) (jy (eg (WO.toE (jfc (jb 1) (jb 2)))) jL) (sub:=fun _ _=>⟨rfl,rfl⟩) (j0:=()))))))
theorem QJ (T:Txt K mg A):FnOk P w K mg base JN 2 A.uz A.uC ["fleet"] (@spO ⟨K⟩ Jo):=
 Qh (m:=J0) T.ui u6 rfl rfl fun cdv Ar outer s H E hr=>
  (jg (jJ (i:=1) (WO.toE (qv (fun _=>jjf T) ‹"c"› (fun _=>rfl) (fun _=>T.rO) (fun _=>T.wt.kp) (fun _=>T.rN) (jc (jl 0) jq))) (fun _=>u6.nd) rfl ‹"a"› ‹"a"›)
   (jr (Jh (jsG (fun _=>rfl) (fun _=>T.uw) (fun _=>rfl) (fun _=>T.vS) (jy (jb 1) (jy (eg (WO.toE (jf7 (jb 1) (jbA (eg jt)) jbM))) jL))))))
theorem ja8 (T:Txt K mg A):FnOk P w K mg base JN 1 A.vk A.vM ["stretch"] (@spS ⟨K⟩ Qu):=
 zP (m:=jcr) T.u4 jiW rfl rfl fun cdv Ar outer s H E hr=>(jr (j3 (Jw (eg (qj (jb 0) (eg (qx (fun _=>rfl) (fun _=>T.sy))))) (eg (qj (jb 0) (eg (qx (fun _=>rfl) (fun _=>T.rP))))))))
theorem jmJ (T:Txt K mg A):FnOk P w K mg base JN 2 A.w5 A.wR ["ship","stretch"] (@spS ⟨K⟩ je2):=
 zP (m:=jgI) T.rS jnp rfl rfl fun cdv Ar outer s H E hr=>
  (jg (zg (WW.toC (jgx (qL jlZ (eg (qj (jb 0) (eg (qx (fun _=>rfl) (fun _=>T.vU))))) (eg (qj (jb 1) (eg (qx (fun _=>rfl) (fun _=>T.rP)))))) (je5 (qL jlZ (eg (qj (jb 1) (eg (qx (fun _=>rfl) (fun _=>T.sy))))) (eg (qj (jb 0) (eg (qx (fun _=>rfl) (fun _=>T.rF)))))))))
   (jr (j3 (JY (eg (qj (jb 0) (eg (qx (fun _=>rfl) (fun _=>T.rg))))) (eg (jN (fun _=>ja8 T) (fun _=>hr.mono (by decide)) (fun _=>rfl) (fun _=>T.vK) (fun _=>T.u4.kp) (fun _=>T.vI) (jc (jl 1) jq)))))) j7)
   (jr (j3 jt)))
theorem jgz (T:Txt K mg A):FnOk P w K mg base JN 3 A.uT A.uO ["fleet"] (@spO ⟨K⟩ jat):=
 Qh (m:=QP) T.vt ve rfl rfl fun cdv Ar outer s H E hr=>
  (jg (jJ (i:=1) ‹"aG"› (fun _=>ve.nd) rfl ‹"i"› ‹"a"›)
   (jr (Jh (Qs (sc:=je qJ) (Lc:=["ship"]) (Fn:=["spans"]) (ix:=[1]) (fun _=>rfl) (show LcOk (je qJ) ["fleet","spans"] _ ["spans"] [1] from by decide +kernel) (qg (jb 0)) (qy (i:=0) (fun _=>show List.Nodup (["ship","spans"]:List Str) from by decide +kernel) rfl (by decide) (fun _=>Or.inr rfl) (fun _=>Or.inl rfl)) j6 (WO.toE (jqP (sc:=je qJ) (Lc:=["span"]) (Fn:=["ship"]) (ix:=[0]) (fun _=>rfl) (show LcOk (jl5 (je qJ) _) ["ship","spans"] _ ["ship"] [0] from by decide +kernel) (qg (jb 1)) (qy (i:=0) (fun _=>show List.Nodup (["span","ship"]:List Str) from by decide +kernel) rfl (by decide) (fun _=>Or.inl rfl) (fun _=>Or.inr rfl)) j6 (jN (fun _=>jmJ T) (fun _=>hr.mono (by decide)) (fun _=>rfl) (fun _=>T.sr) (fun _=>T.rS.kp) (fun _=>T.sq) (jc (jl 1) (jc (jl 0) jq)))))))))
theorem jdh (T:Txt K mg A):FnOk P w K mg base JN 3 A.um A.uu ["fleet"] (@spO ⟨K⟩ JB):=
 Qh (m:=Jz) T.u5 jdu rfl rfl fun cdv Ar outer s H E hr=>(jr (Jh (Qs (sc:=je qG) (Lc:=["span"]) (Fn:=[]) (ix:=[]) (fun _=>rfl) (show LcOk (je qG) ["fleet"] _ [] [] from by decide +kernel) (qg (eg ‹"aG"›)) (qy (i:=0) (fun _=>show List.Nodup (["span"]:List Str) from by decide +kernel) rfl (by decide) ‹"a"› ‹"i"›) j6 (jN (fun _=>ja8 T) ‹"c"› (fun _=>rfl) (fun _=>T.vK) (fun _=>T.u4.kp) (fun _=>T.vI) (jc (jl 0) jq)))))
theorem jng (T:Txt K mg A):FnOk P w K mg base JN 38 A.wJ A.w6 ["fleet"] (@spS ⟨K⟩ jbh):=
 zP (m:=jg8) T.rR jmk rfl rfl fun cdv Ar outer s H E hr=>
  (jg (jm1 (eg (jN (fun _=>jbk T) ‹"c"› (fun _=>rfl) (fun _=>T.vh) (fun _=>T.ux.kp) (fun _=>T.vi) (jc (jl 0) jq))))
   (jg (zg (qL (jf6 fun _=>hr.units) (jb 0) (eg (WO.toE (JP jq))))
   (jr (j3 (WO.toE (JP jq)))) j7)
   (jr (j3 (jN (fun _=>jjd T) (fun _=>hr.mono (by decide)) (fun _=>rfl) (fun _=>T.vP) (fun _=>T.uZ.kp) (fun _=>T.vo) (jc (WO.toE (qv (fun _=>jfA T) (fun _=>hr.mono (by decide)) (fun _=>rfl) (fun _=>T.wN) (fun _=>T.vm.kp) (fun _=>T.wV) (jc (jl 0) jq))) (jc (WO.toE (qv (fun _=>jgz T) (fun _=>hr.mono (by decide)) (fun _=>rfl) (fun _=>T.wO) (fun _=>T.vt.kp) (fun _=>T.rh) (jc (jl 0) jq))) (jc (WO.toE (qv (fun _=>jdh T) (fun _=>hr.mono (by decide)) (fun _=>rfl) (fun _=>T.vX) (fun _=>T.u5.kp) (fun _=>T.wg) (jc (jl 0) jq))) jq))))))))
theorem jfu (T:Txt K mg A):FnOk P w K mg base JN 1 A.uN A.uY ["many","hours"] (@spO ⟨K⟩ QH):=
 Qh (m:=jar) T.vx uh rfl rfl fun cdv Ar outer s H E hr=>
  (jg (jJ (i:=2) (ZL (jb 0) (jb 1)) (fun _=>uh.nd) rfl ‹"a"› ‹"a"›)
   (jg (jJ (i:=3) (zt (jb 0) (jb 1)) (fun _=>uh.nd) rfl ‹"a"› ‹"a"›)
   (jg (QR (i:=4) (JP (jc (Zw (jc (jl 2) (jc (Jw (jb 1) (jb 3)) jq))) jq)) (fun _=>uh.nd) rfl ‹"a"› ‹"a"›)
   (jg (zg (qL jjp (jb 3) (eg jt))
   (jr (Zk (i:=4) rfl (fun _=>Or.inl rfl) (Zw (jc (za (jb 2) (eg jt)) (jc (jl 3) jq))))) j7)
   (jr (jee 4))))))
theorem jiM (T:Txt K mg A):FnOk P w K mg base JN 3 A.vn A.vO ["fleet","plan"] (@spO ⟨K⟩ Qz):=
 Qh (m:=jau) T.wx ub rfl rfl fun cdv Ar outer s H E hr=>
  (jg (jeX (i:=2) jla (fun _=>ub.nd) rfl ‹"a"› ‹"a"›)
   (jg (Qa (jaY (fun _=>rfl) (fun _=>T.tX) (jc ‹"aG"› jq)) (QZ (qe (j1 (i:=3) (fun _=>ub.nd) rfl ‹"a"› ‹"a"›) (qe (j1 (i:=4) (fun _=>ub.nd) rfl ‹"a"› ‹"a"›) QN)))
   (jr (Qa (jeE (WO.toE (qv (fun _=>jfu T) ‹"c"› (fun _=>rfl) (fun _=>T.rb) (fun _=>T.vx.kp) (fun _=>T.wW) (jc (jN (fun _=>jcu T) ‹"c"› (fun _=>rfl) (fun _=>T.v7) (fun _=>T.vj.kp) (fun _=>T.v9) (jc (jl 1) (jc (jl 3) jq))) (jc (jN (fun _=>ja8 T) ‹"c"› (fun _=>rfl) (fun _=>T.vK) (fun _=>T.u4.kp) (fun _=>T.vI) (jc (jl 4) jq)) jq))))) (QZ (qe (j1 (i:=5) (fun _=>ub.nd) rfl ‹"a"› ‹"a"›) (qe (j1 (i:=6) (fun _=>ub.nd) rfl ‹"a"› ‹"a"›) QN)))
   (jr (jeU (i:=2) (fun _=>hr.units) rfl (fun _=>Or.inl rfl) (jl 5) (za (eg (jnE (fun _=>hr.units) (jb 2) (jb 5) jt)) (jb 6)))))))
   (jr (Jh (jlh (fun _=>rfl) (fun _=>T.wH) (jb 2))))))
theorem ZR (T:Txt K mg A):FnOk P w K mg base JN 39 A.ra A.wX ["fleet"] (@spS ⟨K⟩ Qf):=
 zP (m:=jhm) T.uW rm rfl rfl fun cdv Ar outer s H E hr=>
  (jg (jJ (i:=1) (jN (fun _=>jng T) ‹"c"› (fun _=>rfl) (fun _=>T.sj) (fun _=>T.rR.kp) (fun _=>T.sm) (jc (jl 0) jq)) (fun _=>rm.nd) rfl ‹"a"› ‹"a"›)
   (jr (j3 (jo2 (fun _=>rfl) (fun _=>T.sf) (eg (WO.toE (Qs (sc:=je Zl) (Lc:=["height","hours"]) (Fn:=[]) (ix:=[]) (fun _=>rfl) (show LcOk (je Zl) ["fleet","plan"] _ [] [] from by decide +kernel) (qg (eg (WO.toE (qv (fun _=>jiM T) (fun _=>hr.mono (by decide)) (fun _=>rfl) (fun _=>T.rJ) (fun _=>T.wx.kp) (fun _=>T.rX) (jc (jl 0) (jc (jl 1) jq)))))) (Zy (qq (i:=0) (fun _=>show List.Nodup (["height","hours"]:List Str) from by decide +kernel) rfl (by decide) (fun _=>Or.inl rfl) (fun _=>Or.inr rfl) (qq (i:=1) (fun _=>show List.Nodup (["height","hours"]:List Str) from by decide +kernel) rfl (by decide) (fun _=>Or.inl rfl) (fun _=>Or.inr rfl) ZC))) j6 (jl 0)))) jt))))
theorem jpD (T:Txt K mg A):FnOk P w K mg base JN 40 A.rq A.rn ["script"] (@spS ⟨K⟩ jnT):=
 zP (m:=jhD) T.sA tS rfl rfl fun cdv Ar outer s H E hr=>
  (jg (jJ (i:=1) (WO.toE (qv (fun _=>jdq T) ‹"c"› (fun _=>rfl) (fun _=>T.wm) (fun _=>T.u0.kp) (fun _=>T.vV) (jc (jl 0) (jc jt jq)))) (fun _=>tS.nd) rfl ‹"a"› ‹"a"›)
   (jg (jJ (i:=2) ‹"aH"› (fun _=>tS.nd) rfl ‹"a"› ‹"a"›)
   (jg (jJ (i:=3) (jN (fun _=>ZR T) ‹"c"› (fun _=>rfl) (fun _=>T.vb) (fun _=>T.uW.kp) (fun _=>T.vc) (jc (WO.toE (jkF uw (fun _=>rfl) (fun _=>T.uw) boot_list (jy (jb 1) jL))) jq)) (fun _=>tS.nd) rfl ‹"a"› ‹"a"›)
   (jg (jJ (i:=4) (zt (jb 2) (eg (za (eg (Jn tT (fun _=>rfl) (fun _=>T.tT) yN (jy (jb 1) jL))) (eg jt)))) (fun _=>tS.nd) rfl ‹"a"› ‹"a"›)
   (jg (zg (qL (jmB fun _=>hr.units) (eg (jN (fun _=>ZR T) ‹"c"› (fun _=>rfl) (fun _=>T.vb) (fun _=>T.uW.kp) (fun _=>T.vc) (jc (WO.toE (jfc (eg (WO.toE (jf7 (jb 1) (jbA (jb 4)) jbM))) (eg (WO.toE (jf7 (jb 1) jbM (jbA (jb 4))))))) jq))) (jb 3))
   (jr (j3 jc6)) j7)
   (jg (jJ (i:=5) (Jw (eg (zt (eg ‹"aH"›) (eg (JY (eg jt) (eg (jcZ (eg jt) (eg jt))))))) (eg (jcZ (eg jt) (eg jt)))) (fun _=>tS.nd) rfl ‹"i"› ‹"a"›)
   (jg (zg (qL (jmB fun _=>hr.units) (eg (jN (fun _=>ZR T) ‹"c"› (fun _=>rfl) (fun _=>T.vb) (fun _=>T.uW.kp) (fun _=>T.vc) (jc (WO.toE (Qs (sc:=je Z5) (Lc:=["begin","end","need","most"]) (Fn:=["along"]) (ix:=[5]) (fun _=>rfl) (show LcOk (je Z5) ["script","fleet","cell","found","at","along","begin","end","need","most","less","more","wide"] _ ["along"] [5] from by decide +kernel) (qg (jb 1)) (Zy (qq (i:=0) ‹"n"› rfl (by decide) ‹"a"› ‹"i"› (qq (i:=1) ‹"n"› rfl (by decide) ‹"a"› ‹"i"› (qq (i:=2) ‹"n"› rfl (by decide) ‹"a"› ‹"i"› (qq (i:=3) ‹"n"› rfl (by decide) ‹"a"› ‹"i"› ZC))))) j6 (Zw (jc (za (jb 0) (jb 4)) (jc (za (jb 1) (jb 4)) (jc (jl 2) (jc (jl 3) jq))))))) jq))) (jb 3))
   (jr (j3 jc6)) j7)
   (jg (zg (qL (jmB fun _=>hr.units) (eg (jN (fun _=>ZR T) ‹"c"› (fun _=>rfl) (fun _=>T.vb) (fun _=>T.uW.kp) (fun _=>T.vc) (jc (WO.toE (Qs (sc:=je Z5) (Lc:=["begin","end","need","most"]) (Fn:=[]) (ix:=[]) (fun _=>rfl) (show LcOk (je Z5) ["script","fleet","cell","found","at","along","begin","end","need","most","less","more","wide"] _ [] [] from by decide +kernel) (qg (jb 1)) (Zy (qq (i:=0) ‹"p"› rfl (by decide) ‹"a"› ‹"i"› (qq (i:=1) ‹"p"› rfl (by decide) ‹"a"› ‹"i"› (qq (i:=2) ‹"p"› rfl (by decide) ‹"a"› ‹"i"› (qq (i:=3) ‹"p"› rfl (by decide) ‹"a"› ‹"i"› ZC))))) j6 (Zw (jc (Jw (eg jt) (jb 1)) (jc (Jw (eg jt) (jb 0)) (jc (jl 2) (jc (jl 3) jq))))))) jq))) (jb 3))
   (jr (j3 jc6)) j7)
   (jg (zg (qL (jf6 fun _=>hr.units) (jb 1) (eg (WO.toE (JP jq))))
   (jr (j3 (jdN (jf6 fun _=>hr.units) (jb 3) (eg jt)))) j7)
   (jg (jJ (i:=4) (zt (eg (ZL (jb 2) (eg jt))) (eg (Jn tT (fun _=>rfl) (fun _=>T.tT) yN (jy (jb 1) jL)))) (fun _=>tS.nd) rfl ‹"a"› ‹"a"›)
   (jg (jpo (qj (jb 1) (jb 4)) (QZ (qe (j1 (i:=6) (fun _=>tS.nd) rfl ‹"a"› ‹"a"›) (qe (j1 (i:=7) (fun _=>tS.nd) rfl ‹"a"› ‹"a"›) (qe (j1 (i:=8) (fun _=>tS.nd) rfl ‹"a"› ‹"a"›) (qe (j1 (i:=9) (fun _=>tS.nd) rfl ‹"a"› ‹"a"›) QN))))))
   (jg (jJ (i:=10) (jN (fun _=>ZR T) ‹"c"› (fun _=>rfl) (fun _=>T.vb) (fun _=>T.uW.kp) (fun _=>T.vc) (jc (WO.toE (jfc (eg (WO.toE (jf7 (jb 1) jbM (jbA (jb 4))))) (eg (WO.toE (jf7 (jb 1) (jbA (eg (za (jb 4) (eg jt)))) jbM))))) jq)) (fun _=>tS.nd) rfl ‹"a"› ‹"a"›)
   (jg (zg (WW.toC (jrC (qL jjp (jb 10) (jb 3)) (joy (qL jjp (jb 3) (eg (za (jb 10) (jb 9)))))))
   (jr (j3 jc6)) j7)
   (jg (jJ (i:=11) (zt (eg ‹"aH"›) (eg jt)) (fun _=>tS.nd) rfl ‹"a"› ‹"a"›)
   (jg (QR (i:=12) (JP (jc (Zw (jc (Jw (jb 6) (jb 11)) (jc (jl 7) (jc (jl 8) (jc (jl 9) jq))))) (jc (Zw (jc (jl 6) (jc (za (jb 7) (jb 11)) (jc (jl 8) (jc (jl 9) jq))))) jq))) (fun _=>tS.nd) rfl ‹"a"› ‹"a"›)
   (jg (Zk (i:=12) rfl ‹"a"› (Zw (jc (jl 6) (jc (jl 7) (jc (jl 8) (jc (Jn jgQ (fun _=>rfl) (fun _=>T.rj) boot_min (jy (eg (jcZ (eg jt) (eg jt))) (jy (eg (za (jb 9) (jb 11))) jL))) jq))))))
   (jr (j3 (jdN jlZ (eg (jN (fun _=>ZR T) (fun _=>hr.mono (by decide)) (fun _=>rfl) (fun _=>T.vb) (fun _=>T.uW.kp) (fun _=>T.vc) (jc (WO.toE (jfc (eg (WO.toE (jfc (eg (WO.toE (jf7 (jb 1) jbM (jbA (jb 4))))) (eg (WO.toE (JP (jc (qj (jb 12) (eg (zt (eg (ZL (eg (jN (fun _=>qr T) (fun _=>hr.mono (by decide)) (fun _=>rfl) (fun _=>T.tN) (fun _=>T.tK.kp) (fun _=>T.tM) (jc (jl 0) (jc jt jq)))) (eg jt))) (eg jt)))) jq))))))) (eg (WO.toE (jf7 (jb 1) (jbA (eg (za (jb 4) (eg jt)))) jbM))))) jq))) (jb 3))))))))))))))))))))
end
def jiI (K:PySem.W.Frag):Sp:=fun vs H Q _=>∃(a:Addr) (ns:List Int),vs=[.ref a]/\Jf K H a (ns.map V.int)/\ns.length<=63/\∀H',Q (.bl true) H'
theorem jmA {P:Program} {w:World} {K:PySem.W.Frag} {mg:Str → Option Value} {base:Heap} {A:Adr} (T:Txt K mg A):FnOk P w K mg base JN 40 A.rq A.rn ["script"] (jiI K):=by
 letI:Fr:=⟨K⟩
 refine (jpD T).imp fun vs H Q E h=>?_;obtain ⟨a,ns,rfl,hs,hl,q⟩:=h;exact ⟨H,[.scr ns],.bl true,.refl _,.cons (.scr hs) .nil,jkR ns hl,fun v G' H' x r=>by cases r;exact q _⟩
set_option maxHeartbeats 4000000 in
abbrev ya (K:PySem.W.Frag) (x:Str) (f:Addr):Prop:=PySem.W.nsIn K mainGlobals x=some (some (.ref f))
abbrev yb (K:PySem.W.Frag) (x:Str) (st:Stmt) (f:Addr) (oc) (od) (kV) (dc) (pm) (an) (cd) (ct) (sl):=K.lookup f=some ⟨oc,od,.func (PySem.W.fnOf x x (jH st) (jF st) (je st) .none kV dc pm an cd ct),sl⟩
abbrev yc (K:PySem.W.Frag) (cd) (x:Str):=PySem.W.codeIn K cd x=true
abbrev yd (K:PySem.W.Frag) (f:Addr):Prop:=PySem.W.keepIn K (.ref f)=true
theorem jpP {l:PySem.W.OpenLaw} {w:World} {K:PySem.W.Frag} {h:Heap} {mg:Str → Option Value} {fa:Addr} (X:K.In h) (G:h.Ns mainGlobals mg) (hfa:mg "law"=some (.ref fa))
 {f0 f1 f2 f3 f4 f5 f6 f7 f8 f9 f10 f11 f12 f13 f14 f15 f16 f17 f18 f19 f20 f21 f22 f23 f24 f25 f26 f27 f28 f29 f30 f31 f32:Addr}
 {od0 od1 od2 od3 od4 od5 od6 od7 od8 od9 od10 od11 od12 od13 od14 od15 od16 od17 od18 od19 od20 od21 od22 od23 od24 od25 od26 od27 od28 od29 od30 od31 od32:Option Addr}
 {an0 an1 an2 an3 an4 an5 an6 an7 an8 an9 an10 an11 an12 an13 an14 an15 an16 an17 an18 an19 an20 an21 an22 an23 an24 an25 an26 an27 an28 an29 an30 an31 an32:Option Addr}
 {sl0 sl1 sl2 sl3 sl4 sl5 sl6 sl7 sl8 sl9 sl10 sl11 sl12 sl13 sl14 sl15 sl16 sl17 sl18 sl19 sl20 sl21 sl22 sl23 sl24 sl25 sl26 sl27 sl28 sl29 sl30 sl31 sl32:Array (Option Value)}
 {oc0 oc1 oc2 oc3 oc4 oc5 oc6 oc7 oc8 oc9 oc10 oc11 oc12 oc13 oc14 oc15 oc16 oc17 oc18 oc19 oc20 oc21 oc22 oc23 oc24 oc25 oc26 oc27 oc28 oc29 oc30 oc31 oc32:Value}
 {kV0 kV1 kV2 kV3 kV4 kV5 kV6 kV7 kV8 kV9 kV10 kV11 kV12 kV13 kV14 kV15 kV16 kV17 kV18 kV19 kV20 kV21 kV22 kV23 kV24 kV25 kV26 kV27 kV28 kV29 kV30 kV31 kV32:Value}
 {dc0 dc1 dc2 dc3 dc4 dc5 dc6 dc7 dc8 dc9 dc10 dc11 dc12 dc13 dc14 dc15 dc16 dc17 dc18 dc19 dc20 dc21 dc22 dc23 dc24 dc25 dc26 dc27 dc28 dc29 dc30 dc31 dc32:Value}
 {pm0 pm1 pm2 pm3 pm4 pm5 pm6 pm7 pm8 pm9 pm10 pm11 pm12 pm13 pm14 pm15 pm16 pm17 pm18 pm19 pm20 pm21 pm22 pm23 pm24 pm25 pm26 pm27 pm28 pm29 pm30 pm31 pm32:Value}
 {cd0 cd1 cd2 cd3 cd4 cd5 cd6 cd7 cd8 cd9 cd10 cd11 cd12 cd13 cd14 cd15 cd16 cd17 cd18 cd19 cd20 cd21 cd22 cd23 cd24 cd25 cd26 cd27 cd28 cd29 cd30 cd31 cd32:Value}
 {ct0 ct1 ct2 ct3 ct4 ct5 ct6 ct7 ct8 ct9 ct10 ct11 ct12 ct13 ct14 ct15 ct16 ct17 ct18 ct19 ct20 ct21 ct22 ct23 ct24 ct25 ct26 ct27 ct28 ct29 ct30 ct31 ct32:Value}
 {t0:Tok}
 {t1:Tok}
 {t2:Tok}
 {t3:Tok}
 {t4:Tok}
 {t5:Tok}
 {t6:Tok}
 {t7:Tok}
 {t8:Tok}
 {t9:Tok}
 {t10:Tok}
 (a0:ya K "_law_cell_at" f0) (l0:yb K "_law_cell_at" qN f0 oc0 od0 kV0 dc0 pm0 an0 cd0 ct0 sl0) (c0:yc K cd0 "_law_cell_at") (k0:yd K f0)
 (a1:ya K "_law_ship" f1) (l1:yb K "_law_ship" zQ f1 oc1 od1 kV1 dc1 pm1 an1 cd1 ct1 sl1) (c1:yc K cd1 "_law_ship") (k1:yd K f1)
 (a2:ya K "_law_fleet" f2) (l2:yb K "_law_fleet" zq f2 oc2 od2 kV2 dc2 pm2 an2 cd2 ct2 sl2) (c2:yc K cd2 "_law_fleet") (k2:yd K f2)
 (a3:ya K "is_whole" f3) (l3:yb K "is_whole" Jb f3 oc3 od3 kV3 dc3 pm3 an3 cd3 ct3 sl3) (c3:yc K cd3 "is_whole") (k3:yd K f3)
 (a4:ya K "is_ship" f4) (l4:yb K "is_ship" zJ f4 oc4 od4 kV4 dc4 pm4 an4 cd4 ct4 sl4) (c4:yc K cd4 "is_ship") (k4:yd K f4)
 (a5:ya K "is_fleet" f5) (l5:yb K "is_fleet" zb f5 oc5 od5 kV5 dc5 pm5 an5 cd5 ct5 sl5) (c5:yc K cd5 "is_fleet") (k5:yd K f5)
 (a6:ya K "must_be_fleet" f6) (l6:yb K "must_be_fleet" qD f6 oc6 od6 kV6 dc6 pm6 an6 cd6 ct6 sl6) (c6:yc K cd6 "must_be_fleet") (k6:yd K f6)
 (a7:ya K "bound_in" f7) (l7:yb K "bound_in" qZ f7 oc7 od7 kV7 dc7 pm7 an7 cd7 ct7 sl7) (c7:yc K cd7 "bound_in") (k7:yd K f7)
 (a8:ya K "kept" f8) (l8:yb K "kept" Zm f8 oc8 od8 kV8 dc8 pm8 an8 cd8 ct8 sl8) (c8:yc K cd8 "kept") (k8:yd K f8)
 (a9:ya K "joined" f9) (l9:yb K "joined" Qg f9 oc9 od9 kV9 dc9 pm9 an9 cd9 ct9 sl9) (c9:yc K cd9 "joined") (k9:yd K f9)
 (a10:ya K "mover" f10) (l10:yb K "mover" ZQ f10 oc10 od10 kV10 dc10 pm10 an10 cd10 ct10 sl10) (c10:yc K cd10 "mover") (k10:yd K f10)
 (a11:ya K "reach" f11) (l11:yb K "reach" ZT f11 oc11 od11 kV11 dc11 pm11 an11 cd11 ct11 sl11) (c11:yc K cd11 "reach") (k11:yd K f11)
 (a12:ya K "way_to" f12) (l12:yb K "way_to" Qk f12 oc12 od12 kV12 dc12 pm12 an12 cd12 ct12 sl12) (c12:yc K cd12 "way_to") (k12:yd K f12)
 (a13:ya K "behind" f13) (l13:yb K "behind" Jm f13 oc13 od13 kV13 dc13 pm13 an13 cd13 ct13 sl13) (c13:yc K cd13 "behind") (k13:yd K f13)
 (a14:ya K "put_in" f14) (l14:yb K "put_in" Qi f14 oc14 od14 kV14 dc14 pm14 an14 cd14 ct14 sl14) (c14:yc K cd14 "put_in") (k14:yd K f14)
 (a15:ya K "total" f15) (l15:yb K "total" J4 f15 oc15 od15 kV15 dc15 pm15 an15 cd15 ct15 sl15) (c15:yc K cd15 "total") (k15:yd K f15)
 (a16:ya K "most_along" f16) (l16:yb K "most_along" zk f16 oc16 od16 kV16 dc16 pm16 an16 cd16 ct16 sl16) (c16:yc K cd16 "most_along") (k16:yd K f16)
 (a17:ya K "filled" f17) (l17:yb K "filled" qU f17 oc17 od17 kV17 dc17 pm17 an17 cd17 ct17 sl17) (c17:yc K cd17 "filled") (k17:yd K f17)
 (a18:ya K "no_cranes" f18) (l18:yb K "no_cranes" qR f18 oc18 od18 kV18 dc18 pm18 an18 cd18 ct18 sl18) (c18:yc K cd18 "no_cranes") (k18:yd K f18)
 (a19:ya K "evened_apart" f19) (l19:yb K "evened_apart" jG f19 oc19 od19 kV19 dc19 pm19 an19 cd19 ct19 sl19) (c19:yc K cd19 "evened_apart") (k19:yd K f19)
 (a20:ya K "evened" f20) (l20:yb K "evened" zD f20 oc20 od20 kV20 dc20 pm20 an20 cd20 ct20 sl20) (c20:yc K cd20 "evened") (k20:yd K f20)
 (a21:ya K "needs_of" f21) (l21:yb K "needs_of" zd f21 oc21 od21 kV21 dc21 pm21 an21 cd21 ct21 sl21) (c21:yc K cd21 "needs_of") (k21:yd K f21)
 (a22:ya K "bounds" f22) (l22:yb K "bounds" zF f22 oc22 od22 kV22 dc22 pm22 an22 cd22 ct22 sl22) (c22:yc K cd22 "bounds") (k22:yd K f22)
 (a23:ya K "stretches" f23) (l23:yb K "stretches" zM f23 oc23 od23 kV23 dc23 pm23 an23 cd23 ct23 sl23) (c23:yc K cd23 "stretches") (k23:yd K f23)
 (a24:ya K "length" f24) (l24:yb K "length" Qj f24 oc24 od24 kV24 dc24 pm24 an24 cd24 ct24 sl24) (c24:yc K cd24 "length") (k24:yd K f24)
 (a25:ya K "room" f25) (l25:yb K "room" jbo f25 oc25 od25 kV25 dc25 pm25 an25 cd25 ct25 sl25) (c25:yc K cd25 "room") (k25:yd K f25)
 (a26:ya K "rooms_of" f26) (l26:yb K "rooms_of" qJ f26 oc26 od26 kV26 dc26 pm26 an26 cd26 ct26 sl26) (c26:yc K cd26 "rooms_of") (k26:yd K f26)
 (a27:ya K "lengths_of" f27) (l27:yb K "lengths_of" qG f27 oc27 od27 kV27 dc27 pm27 an27 cd27 ct27 sl27) (c27:yc K cd27 "lengths_of") (k27:yd K f27)
 (a28:ya K "even" f28) (l28:yb K "even" jbf f28 oc28 od28 kV28 dc28 pm28 an28 cd28 ct28 sl28) (c28:yc K cd28 "even") (k28:yd K f28)
 (a29:ya K "loads_in" f29) (l29:yb K "loads_in" Je f29 oc29 od29 kV29 dc29 pm29 an29 cd29 ct29 sl29) (c29:yc K cd29 "loads_in") (k29:yd K f29)
 (a30:ya K "row_of" f30) (l30:yb K "row_of" Qt f30 oc30 od30 kV30 dc30 pm30 an30 cd30 ct30 sl30) (c30:yc K cd30 "row_of") (k30:yd K f30)
 (a31:ya K "peak" f31) (l31:yb K "peak" Zl f31 oc31 od31 kV31 dc31 pm31 an31 cd31 ct31 sl31) (c31:yc K cd31 "peak") (k31:yd K f31)
 (a32:ya K "law" f32) (l32:yb K "law" Z5 f32 oc32 od32 kV32 dc32 pm32 an32 cd32 ct32 sl32) (c32:yc K cd32 "law") (k32:yd K f32)
 (cst0:PySem.W.nsIn K mainGlobals "NEED"=some (some (.int 2 t0)))
 (cst1:PySem.W.nsIn K mainGlobals "MOST"=some (some (.int 3 t1)))
 (cst2:PySem.W.nsIn K mainGlobals "END"=some (some (.int 1 t2)))
 (cst3:PySem.W.nsIn K mainGlobals "BEGIN"=some (some (.int 0 t3)))
 (cst4:PySem.W.nsIn K mainGlobals "OFF"=some (some (.int 1 t4)))
 (cst5:PySem.W.nsIn K mainGlobals "SHIP"=some (some (.int 0 t5)))
 (cst6:PySem.W.nsIn K mainGlobals "PART"=some (some (.int 1 t6)))
 (cst7:PySem.W.nsIn K mainGlobals "MANY"=some (some (.int 0 t7)))
 (cst8:PySem.W.nsIn K mainGlobals "MARKS"=some (some (.int 2 t8)))
 (cst9:PySem.W.nsIn K mainGlobals "TO"=some (some (.int 1 t9)))
 (cst10:PySem.W.nsIn K mainGlobals "FROM"=some (some (.int 0 t10)))
 (z0:PySem.W.nsIn K mainGlobals "len"=some none)
 (z1:PySem.W.nsIn K mainGlobals "min"=some none)
 (z2:PySem.W.nsIn K mainGlobals "range"=some none)
 (z3:PySem.W.nsIn K mainGlobals "isinstance"=some none)
 (z4:PySem.W.nsIn K mainGlobals "bool"=some none)
 (z5:PySem.W.nsIn K mainGlobals "int"=some none)
 (z6:PySem.W.nsIn K mainGlobals "all"=some none)
 (z7:PySem.W.nsIn K mainGlobals "tuple"=some none)
 (z8:PySem.W.nsIn K mainGlobals "list"=some none)
 (z9:PySem.W.nsIn K mainGlobals "max"=some none)
 (z10:PySem.W.nsIn K mainGlobals "sum"=some none)
 (z11:PySem.W.nsIn K mainGlobals "zip"=some none)
 (z12:PySem.W.nsIn K mainGlobals "enumerate"=some none)
 (z13:PySem.W.nsIn K mainGlobals "dict"=some none)
 (z14:PySem.W.nsIn K mainGlobals "reversed"=some none)
 (z15:PySem.W.nsIn K mainGlobals "sorted"=some none)
 (z16:PySem.W.nsIn K mainGlobals "set"=some none) :
 ∃fd:FuncData,(∀(s:Shared) (v:Value),BindsTo s fd ⟨[v],[]⟩ [("script",v)]) ∧ ∀base:Heap,K.In base → base.Ns mainGlobals mg → FnOk l.prog w K mg base JN 40 fa fd ["script"] (jiI K):=by
 have e:=hfa.symm.trans (Yq X G a32);have e':f32=fa:=by injection (Option.some.inj e) with z;exact z.symm
 subst e';have F0:=jT (st:=qN) l0 c0 k0;have b0:=F0.binds (ps:=["script","k"]) fun _ _ _ _ _ _=>ar2 fun _ _=>rfl;have F1:=jT (st:=zQ) l1 c1 k1;have b1:=F1.binds (ps:=["one","two","kind"]) fun _ _ _ _ _ _=>ar3 fun _ _ _=>rfl;have F2:=jT (st:=zq) l2 c2 k2;have b2:=F2.binds (ps:=["script","start"]) fun _ _ _ _ _ _=>ar2 fun _ _=>rfl;have F3:=jT (st:=Jb) l3 c3 k3;have b3:=F3.binds (ps:=["thing"]) fun _ _ _ _ _ _=>ar1 fun _=>rfl;have F4:=jT (st:=zJ) l4 c4 k4;have b4:=F4.binds (ps:=["thing"]) fun _ _ _ _ _ _=>ar1 fun _=>rfl;have F5:=jT (st:=zb) l5 c5 k5;have b5:=F5.binds (ps:=["thing"]) fun _ _ _ _ _ _=>ar1 fun _=>rfl;have F6:=jT (st:=qD) l6 c6 k6;have b6:=F6.binds (ps:=["thing"]) fun _ _ _ _ _ _=>ar1 fun _=>rfl;have F7:=jT (st:=qZ) l7 c7 k7;have b7:=F7.binds (ps:=["need","rooms","marks"]) fun _ _ _ _ _ _=>ar3 fun _ _ _=>rfl;have F8:=jT (st:=Zm) l8 c8 k8;have b8:=F8.binds (ps:=["numbers","marks","mark"]) fun _ _ _ _ _ _=>ar3 fun _ _ _=>rfl;have F9:=jT (st:=Qg) l9 c9 k9;have b9:=F9.binds (ps:=["marked","others","marks"]) fun _ _ _ _ _ _=>ar3 fun _ _ _=>rfl;have F10:=jT (st:=ZQ) l10 c10 k10;have b10:=F10.binds (ps:=["rooms","part","off","on"]) fun _ _ _ _ _ _=>ar4 fun _ _ _ _=>rfl;have F11:=jT (st:=ZT) l11 c11 k11;have b11:=F11.binds (ps:=["rooms","part","begun"]) fun _ _ _ _ _ _=>ar3 fun _ _ _=>rfl;have F12:=jT (st:=Qk) l12 c12 k12;have b12:=F12.binds (ps:=["moves","end"]) fun _ _ _ _ _ _=>ar2 fun _ _=>rfl;have F13:=jT (st:=Jm) l13 c13 k13;have b13:=F13.binds (ps:=["part","way","many"]) fun _ _ _ _ _ _=>ar3 fun _ _ _=>rfl;have F14:=jT (st:=Qi) l14 c14 k14;have b14:=F14.binds (ps:=["needs","rooms","part"]) fun _ _ _ _ _ _=>ar3 fun _ _ _=>rfl;have F15:=jT (st:=J4) l15 c15 k15;have b15:=F15.binds (ps:=["plan","place"]) fun _ _ _ _ _ _=>ar2 fun _ _=>rfl;have F16:=jT (st:=zk) l16 c16 k16;have b16:=F16.binds (ps:=["needs","rooms","part","way"]) fun _ _ _ _ _ _=>ar4 fun _ _ _ _=>rfl;have F17:=jT (st:=qU) l17 c17 k17;have b17:=F17.binds (ps:=["needs","rooms","tops","part"]) fun _ _ _ _ _ _=>ar4 fun _ _ _ _=>rfl;have F18:=jT (st:=qR) l18 c18 k18;have b18:=F18.binds (ps:=["rooms"]) fun _ _ _ _ _ _=>ar1 fun _=>rfl;have F19:=jT (st:=jG) l19 c19 k19;have b19:=F19.binds (ps:=["needs","rooms","hours","marks"]) fun _ _ _ _ _ _=>ar4 fun _ _ _ _=>rfl;have F20:=jT (st:=zD) l20 c20 k20;have b20:=F20.binds (ps:=["needs","rooms","hours"]) fun _ _ _ _ _ _=>ar3 fun _ _ _=>rfl;have F21:=jT (st:=zd) l21 c21 k21;have b21:=F21.binds (ps:=["fleet"]) fun _ _ _ _ _ _=>ar1 fun _=>rfl;have F22:=jT (st:=zF) l22 c22 k22;have b22:=F22.binds (ps:=["fleet"]) fun _ _ _ _ _ _=>ar1 fun _=>rfl;have F23:=jT (st:=zM) l23 c23 k23;have b23:=F23.binds (ps:=["fleet"]) fun _ _ _ _ _ _=>ar1 fun _=>rfl;have F24:=jT (st:=Qj) l24 c24 k24;have b24:=F24.binds (ps:=["stretch"]) fun _ _ _ _ _ _=>ar1 fun _=>rfl;have F25:=jT (st:=jbo) l25 c25 k25;have b25:=F25.binds (ps:=["ship","stretch"]) fun _ _ _ _ _ _=>ar2 fun _ _=>rfl;have F26:=jT (st:=qJ) l26 c26 k26;have b26:=F26.binds (ps:=["fleet"]) fun _ _ _ _ _ _=>ar1 fun _=>rfl;have F27:=jT (st:=qG) l27 c27 k27;have b27:=F27.binds (ps:=["fleet"]) fun _ _ _ _ _ _=>ar1 fun _=>rfl;have F28:=jT (st:=jbf) l28 c28 k28;have b28:=F28.binds (ps:=["fleet"]) fun _ _ _ _ _ _=>ar1 fun _=>rfl;have F29:=jT (st:=Je) l29 c29 k29;have b29:=F29.binds (ps:=["many","hours"]) fun _ _ _ _ _ _=>ar2 fun _ _=>rfl;have F30:=jT (st:=Qt) l30 c30 k30;have b30:=F30.binds (ps:=["fleet","plan"]) fun _ _ _ _ _ _=>ar2 fun _ _=>rfl;have F31:=jT (st:=Zl) l31 c31 k31;have b31:=F31.binds (ps:=["fleet"]) fun _ _ _ _ _ _=>ar1 fun _=>rfl;have F32:=jT (st:=Z5) l32 c32 k32;have b32:=F32.binds (ps:=["script"]) fun _ _ _ _ _ _=>ar1 fun _=>rfl;have T:Txt K mg ⟨f0,_,f1,_,f2,_,f3,_,f4,_,f5,_,f6,_,f7,_,f8,_,f9,_,f10,_,f11,_,f12,_,f13,_,f14,_,f15,_,f16,_,f17,_,f18,_,f19,_,f20,_,f21,_,f22,_,f23,_,f24,_,f25,_,f26,_,f27,_,f28,_,f29,_,f30,_,f31,_,f32,_,t0,t1,t2,t3,t4,t5,t6,t7,t8,t9,t10⟩:=⟨F0,b0,Yq X G a0,F1,b1,Yq X G a1,F2,b2,Yq X G a2,F3,b3,Yq X G a3,F4,b4,Yq X G a4,F5,b5,Yq X G a5,F6,b6,Yq X G a6,F7,b7,Yq X G a7,F8,b8,Yq X G a8,F9,b9,Yq X G a9,F10,b10,Yq X G a10,F11,b11,Yq X G a11,F12,b12,Yq X G a12,F13,b13,Yq X G a13,F14,b14,Yq X G a14,F15,b15,Yq X G a15,F16,b16,Yq X G a16,F17,b17,Yq X G a17,F18,b18,Yq X G a18,F19,b19,Yq X G a19,F20,b20,Yq X G a20,F21,b21,Yq X G a21,F22,b22,Yq X G a22,F23,b23,Yq X G a23,F24,b24,Yq X G a24,F25,b25,Yq X G a25,F26,b26,Yq X G a26,F27,b27,Yq X G a27,F28,b28,Yq X G a28,F29,b29,Yq X G a29,F30,b30,Yq X G a30,F31,b31,Yq X G a31,F32,b32,Yq X G a32,Yq X G cst0,Yq X G cst1,Yq X G cst2,Yq X G cst3,Yq X G cst4,Yq X G cst5,Yq X G cst6,Yq X G cst7,Yq X G cst8,Yq X G cst9,Yq X G cst10,YM X G z0,YM X G z1,YM X G z2,YM X G z3,YM X G z4,YM X G z5,YM X G z6,YM X G z7,YM X G z8,YM X G z9,YM X G z10,YM X G z11,YM X G z12,YM X G z13,YM X G z14,YM X G z15,YM X G z16⟩;exact ⟨_,fun s v=>.of_eq rfl,fun base _ _=>jmA T⟩
theorem jsP {l:PySem.W.OpenLaw} {q:Program} {loose:List Str} {XP:(Str->Option Value)->Heap->Prop} {YP:World->Heap->Prop} {d:DefRec} {K:Params->PySem.W.Frag} (hn:l.most=some 63) (hdf:d.params.defaults=[])
 (hY:∀(w:World) (h:Heap),YP w h->(K w.params).In h)
 (F:∀(w:World) (mg:Str->Option Value) (fa:Addr) (h:Heap),(K w.params).In h->h.Ns mainGlobals mg->mg d.name=some (.ref fa)->
  ∃fd:FuncData,(∀(s:Shared) (u:Value),BindsTo s fd ⟨[u],[]⟩ [("script",u)]) ∧ ∀base:Heap,(K w.params).In base → base.Ns mainGlobals mg → FnOk l.prog w (K w.params) mg base JN 40 fa fd ["script"] (jiI (K w.params))) :
 PySem.W.WalkO q loose XP YP l.row.toRowW d [] (fun f vs=>PySem.call f vs):=
 L2.jl9 (n:=63) (k:=40) (x := "script") (CX:=fun _=>JN) (sp:=fun w=>jiI (K w.params)) hn (by decide) hdf ⟨rfl,by decide,by decide⟩ hY F (fun _ _ a ns hl _ hS=>⟨a,ns,rfl,hS,hl,fun _=>rfl⟩) fun _ _ _ _ _ z=>z
end Q
end
open PySem PySem.W PyProof.Rows
set_option maxRecDepth 100000 in
set_option maxHeartbeats 0 in
theorem PySem.Challenge.cw_evenquay_k65_peaks_made_otherwise_holds : PySem.Challenge.rw_evenquay_k65_peaks_made_otherwise.Holds := by
 w_on;o_law;k_head;(case hw=>w_witness2)
 k_fill
 refine Q.jsP (l:=PySem.Challenge.rw_evenquay_k65_peaks_made_otherwise) rfl rfl (fun w h Y=>PySem.W.kIn_of Y) ?F
 case F=>
  intro w mg fa h KX G hmg
  refine' Q.jpP KX G hmg ?a0 ?l0 ?c0 ?k0 ?a1 ?l1 ?c1 ?k1 ?a2 ?l2 ?c2 ?k2 ?a3 ?l3 ?c3 ?k3 ?a4 ?l4 ?c4 ?k4 ?a5 ?l5 ?c5 ?k5 ?a6 ?l6 ?c6 ?k6 ?a7 ?l7 ?c7 ?k7 ?a8 ?l8 ?c8 ?k8 ?a9 ?l9 ?c9 ?k9 ?a10 ?l10 ?c10 ?k10 ?a11 ?l11 ?c11 ?k11 ?a12 ?l12 ?c12 ?k12 ?a13 ?l13 ?c13 ?k13 ?a14 ?l14 ?c14 ?k14 ?a15 ?l15 ?c15 ?k15 ?a16 ?l16 ?c16 ?k16 ?a17 ?l17 ?c17 ?k17 ?a18 ?l18 ?c18 ?k18 ?a19 ?l19 ?c19 ?k19 ?a20 ?l20 ?c20 ?k20 ?a21 ?l21 ?c21 ?k21 ?a22 ?l22 ?c22 ?k22 ?a23 ?l23 ?c23 ?k23 ?a24 ?l24 ?c24 ?k24 ?a25 ?l25 ?c25 ?k25 ?a26 ?l26 ?c26 ?k26 ?a27 ?l27 ?c27 ?k27 ?a28 ?l28 ?c28 ?k28 ?a29 ?l29 ?c29 ?k29 ?a30 ?l30 ?c30 ?k30 ?a31 ?l31 ?c31 ?k31 ?a32 ?l32 ?c32 ?k32 ?cst0 ?cst1 ?cst2 ?cst3 ?cst4 ?cst5 ?cst6 ?cst7 ?cst8 ?cst9 ?cst10 ?z0 ?z1 ?z2 ?z3 ?z4 ?z5 ?z6 ?z7 ?z8 ?z9 ?z10 ?z11 ?z12 ?z13 ?z14 ?z15 ?z16
  any_goals (show _=_;k_is)
