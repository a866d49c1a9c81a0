import PyProof.Rows.All
import Wide.All
import OpenK.AllK
import Wide.FinOn
import Lean
import PyProof.EqAt
import PyProof.EqKinds
import PyProof.TupleCall
import PySem.SetOps
import PyProof.ZipIter
import PyProof.CollectWalk
import PyProof.Rows.SetFrom
import PyProof.Rows.SortShell
import KE.KRevIter
import PyProof.MaxThree
import KE.KDictList
import PyProof.Rows.Chain
import PyProof.Rows.CountFlat
import KE.KSortAsk
import KE.KItemsList
import KE.KSortTup
import PyProof.Rows.SortRev
import PyProof.Rows.SortWalk
import PyProof.Rows.CallKwBuiltin
import PyProof.WalkInts
import KE.KMinBuiltin
import PySem.Challenge.RW_evenquay_k42_whole_no_hours_are_evener
-- CHANGE: your row's module here, as the last of these rows
set_option compiler.extract_closed false
def PySem.W.Fast.tw4885106409926704203:=()
def PySem.W.Fast.tw15032983050941495451:=()
def PySem.W.Fast.tw1428813276595825148:=()
def PySem.W.Fast.tw13144046767164789921:=()
def PySem.W.Fast.tw9690196696922062802:=()
def PySem.W.Fast.tw7161068971168337579:=()
def PySem.W.Fast.tw4032806735189846968:=()
def PySem.W.Fast.tw3977685182916507996:=()
def PySem.W.Fast.tw15464924817906026774:=()
def PySem.W.Fast.tw1453711087874468254:=()
def PySem.W.Fast.tw6580522487567446830:=()
def PySem.W.Fast.tw8004070389413121654:=()
def PySem.W.Fast.tw5689714625741309233:=()
def PySem.W.Fast.tw8484325467967238189:=()
def PySem.W.Fast.tw8343009263224706756:=()
def PySem.W.Fast.tw2022659717057731433:=()
namespace QA
theorem a0 (h:True:=by first | exact .inl rfl | exact .inr rfl | assumption):True:=h
theorem a1 (h:True:=by decide):True:=h
theorem a2 (h:True:=by first | exact nobehind _ (by decide) (by decide) | rfl):True:=h
theorem a3 (h:True:=by intro _;rfl):True:=h
theorem a4 (h:True:=by rfl):True:=h
theorem a5 (h:True:=by intros;rfl):True:=h
theorem a6 (h:True:=by with_unfolding_all rfl):True:=h
theorem a7 (h:True:=by first | exact fun _=>Or.inl rfl | exact fun _=>Or.inr (Or.inl rfl) | exact fun _=>Or.inr (Or.inr rfl)):True:=h
theorem a8 (h:True:=by exact fun _ _=>rfl):True:=h
theorem a9 (h:True:=by first | exact nomark _ | rfl):True:=h
theorem a10 (h:True:=by intro _ _;rfl):True:=h
theorem a11 (h:True:=by exact fun _=>PassesOwn.never):True:=h
theorem a12 (h:True:=by first | exact fun _ _=>rfl | intros;rfl):True:=h
end QA
set_option genInjectivity false
local macro_rules | `(tactic| omega)=>`(tactic| first | lia | omega (config:={}))
set_option Elab.async false
set_option linter.all false
set_option maxRecDepth 100000
noncomputable section
section
open PySem PySem.Spec PySem.W PySem.Calls PyProof.Rows PyProof.V
abbrev Ya:=@List.getD_eq_getElem?_getD
abbrev Yb:=@List.getElem?_eq_getElem
abbrev Yc:=@wpAny_bind
abbrev Yd:=@List.length_map
abbrev Ye:=@List.mem_cons_self
abbrev Yf:=@Bool.false_ne_true
abbrev Yg:=@Heap.get?_push_of_some
abbrev Yh:=@wpAny_pure
abbrev Yi:=@List.getElem?_eq_some_iff
abbrev Yj:=@Nat.lt_of_lt_of_le
abbrev Yk:=@List.mem_cons_of_mem
abbrev Yl:=@List.mem_cons
abbrev Ym:=@Int.toNat_natCast
abbrev Yn:=@Nat.le_refl
abbrev Yp:=@PySem.W.mg_of
abbrev Yq:=@List.mem_singleton
abbrev Yr:=@Nat.ne_of_lt
abbrev Ys:=@List.mem_append_left
abbrev Yt:=@Option.bind_some
abbrev Yu:=@Heap.lt_size
abbrev Yv:=@Heap.get?_push_size
abbrev Yw:=@List.getElem?_append_left
abbrev Yx:=@Option.map_some
abbrev Yy:=@List.getElem?_append_right
abbrev Yz:=@List.mem_of_getElem?
abbrev YA:=@List.size_toArray
abbrev YB:=@List.mem_append_right
abbrev YC:=@List.getElem?_eq_none
abbrev YD:=@List.length_append
abbrev YE:=@List.not_mem_nil
abbrev YF:=@List.map_map
abbrev YG:=@List.length_cons
abbrev YH:=@Array.getElem?_eq_getElem
abbrev YI:=@PySem.W.mg_none_of
abbrev YJ:=@List.pairwise_cons
abbrev YK:=@List.lookup_cons
abbrev YL:=@List.mem_append
abbrev YM:=@List.getElem?_set_ne
abbrev YN:=@PyProof.Rows.callWith_type1
abbrev YO:=@List.mem_map
abbrev YQ:=@List.getElem?_zip_eq_some
abbrev YR:=@List.getElem?_eq_none_iff
abbrev YS:=@Heap.get?_update_self
abbrev YT:=@List.map_append
abbrev YU:=@Array.length_toList
abbrev YV:=@Nat.lt_irrefl
abbrev YW:=@Nat.lt_or_ge
abbrev YX:=@decide_eq_true
abbrev YY:=@decide_eq_false
abbrev YZ:=@Nat.le_trans
abbrev Y0:=@Bool.false_eq_true
abbrev Y1:=@List.replicate_succ
abbrev Y2:=@List.getElem?_set_self
abbrev Y3:=@Int.emod_lt_of_pos
abbrev Y4:=@Int.le_of_lt
abbrev Y5:=@Heap.size_push
abbrev Y6:=@wpAny_setState_of
abbrev Y7:=@wpAny_holding
abbrev Y8:=@Nat.ne_of_gt
abbrev Y9:=@List.zip_cons_cons
abbrev ye:=@wpAny_mono
abbrev yf:=@Array.getElem?_eq_none
abbrev yg:=@PySem.W.kia_one
abbrev yh:=@List.nodup_cons
abbrev yi:=@List.length_nil
abbrev yj:=@List.getElem?_range
abbrev yk:=@wpAny_truthy_bool
abbrev ym:=@if_false
abbrev yn:=@wpAny_setField_rec
abbrev yo:=@Int.emod_nonneg
abbrev yp:=@wpAny_call_entry
abbrev yq:=@Nat.le_add_right
abbrev yr:=@List.filter_cons
abbrev yt:=@List.mem_map_of_mem
abbrev yu:=@List.getElem_of_mem
abbrev yv:=@PySem.boot_len
abbrev yw:=@wpAny_updateSeq
abbrev yx:=@Int.mul_le_mul_of_nonneg_right
abbrev yy:=@Array.getElem?_toList
abbrev yz:=@Nat.lt_of_le_of_lt
abbrev yA:=@Nat.zero_le
abbrev yB:=@Around.under_plainId
abbrev yC:=@if_true
abbrev yD:=@PyProof.Rows.F.plain_set_update_loop
abbrev yE:=@Nat.lt_trans
abbrev yF:=@Nat.le_of_lt
abbrev yG:=@Nat.lt_succ_of_lt
abbrev yH:=@wpAny_specialOf
abbrev yI:=@PySem.F.slot_enumerate_iter
abbrev yJ:=@List.replicate_zero
abbrev yK:=@List.append_nil
abbrev yL:=@Nat.lt_succ_self
abbrev yM:=@plainId_quiet
abbrev yN:=@builtinLookup_eq_fast
abbrev yO:=@List.set_cons_succ
abbrev yP:=@List.map_nil
abbrev yQ:=@PySem.F.plain_extend_loop
abbrev yR:=@List.pairwise_iff_getElem
abbrev yS:=@Int.le_refl
abbrev yT:=@wpAny_passesOwn
abbrev yU:=@wpAny_ite_split
abbrev yV:=@of_decide_eq_true
abbrev yX:=@codeAny_builtin
abbrev yY:=@List.of_mem_zip
abbrev yZ:=@List.length_zip
abbrev y0:=@List.append_assoc
abbrev y9:=@decide_false
abbrev Ka:=@Nat.sub_self
abbrev Kb:=@wpAny_callSpecial?_slot
abbrev Kc:=@PySem.mem_of_lookup
abbrev Kd:=@List.map_congr_left
abbrev Ke:=@List.filterMap_cons
abbrev Kf:=@List.cons_append
abbrev Kg:=@tupleKind_room_in1
abbrev Kh:=@or_false
abbrev Ki:=@List.set_cons_zero
abbrev Kj:=@PySem.F.slot_dict_get
abbrev Kk:=@Nat.zero_add
abbrev Kl:=@Nat.not_lt_zero
abbrev Km:=@List.nil_append
abbrev Kn:=@List.find?_cons
abbrev Ko:=@Array.getD_eq_getD_getElem?
abbrev Kp:=@wpAny_newObj_type
abbrev Kq:=@List.getElem?_nil
abbrev Kr:=@List.flatten_cons
abbrev Ks:=@List.ext_getElem?
abbrev Kt:=@wpAny_seqItems
abbrev Ku:=@PyProof.Rows.F.entry_set_update_loop
abbrev Kv:=@List.tail_cons
abbrev Kw:=@List.drop_eq_getElem_cons
abbrev Kx:=@Int.mul_nonneg
abbrev Ky:=@Bool.and_eq_true
abbrev Kz:=@decide_true
abbrev KA:=@beq_eq_false_iff_ne
abbrev KB:=@Array.getElem?_push
abbrev KC:=@Int.add_zero
abbrev KD:=@typeLookup_type
abbrev KF:=@boot_sum
abbrev KG:=@PySem.F.args_dict_get_2
abbrev KH:=@List.mem_filter
abbrev KI:=@List.length_set
abbrev KJ:=@Calls.spliced_cons
abbrev KL:=@wpAny_nextOf_list_item
abbrev KM:=@PySem.F.entry_dict_get
abbrev KN:=@List.drop_eq_nil_of_le
abbrev KO:=@PySem.sizeLine_eq
abbrev KP:=@Nat.lt_trichotomy
abbrev KQ:=@List.length_range
abbrev KR:=@Calls.spliced_nil
abbrev KS:=@Int.zero_add
abbrev KU:=@wpAny_isInstance
abbrev KW:=@wpAny_askSetting
abbrev KY:=@Option.getD_some
abbrev KZ:=@List.length_take
abbrev K0:=@List.getElem_mem
abbrev K1:=@wpAny_field
abbrev K2:=@wpAny_execs_nil
abbrev K3:=@pushCells_keeps
abbrev K4:=@List.sum_append
abbrev K5:=@F.slot_zip_next
abbrev K6:=@F.plain_extend_loop
abbrev K7:=@Bool.eq_iff_iff
abbrev ka:=@codeAny_mono
abbrev kb:=@Nat.min_self
abbrev kd:=@boot_list
end
set_option hygiene false
local macro_rules | `(‹"a"›)=>`(fun _=>Or.inl rfl)
local macro_rules | `(‹"b"›)=>`(X.blk (Lc++F) scope C s H fp)
local macro_rules | `(‹"c"›)=>`(model X.prog X.w)
local macro_rules | `(‹"d"›)=>`(.lst (tm.map ji))
local macro_rules | `(‹"e"›)=>`(jj (jj rfl rfl (qM (by decide) (by decide))) rfl (jL (by decide)))
local macro_rules | `(‹"f"›)=>`(.lst (tu.map D.int))
local macro_rules | `(‹"g"›)=>`(fun _=>hr.mono (by decide))
local macro_rules | `(‹"h"›)=>`(qp (jgr (jh (jj (jj rfl (jj rfl rfl (jL (by decide))) (Jl (Int.lt_of_lt_of_le (by decide) (qd x (show (0:Int)<17 by decide)).1) (Int.lt_trans (qd x (show (0:Int)<17 by decide)).2 (by decide)))) rfl (qM (by decide) (by decide))) (jh (jj rfl (jj rfl rfl jP) (jL (by omega))) (jh (jw (jh rfl (jh (jj rfl rfl (jL (by decide))) rfl)) rfl) (jh rfl rfl)))) (show 4<16777216 by decide)))
local macro_rules | `(‹"i"›)=>`(fun _=>Or.inr rfl)
local macro_rules | `(‹"j"›)=>`(.lst (tw.map ji))
local macro_rules | `(‹"k"›)=>`(fun _=>some true)
local macro_rules | `(‹"l"›)=>`(jM 3 (js zr (js qX (js qV (js zr (ja 0) (eC (.int 1103515245))) (eC (.int 2147483647))) (js Qu (eC (.int 10)) (eC (.int 9)))) (js Qu (eC (.int 10)) (eC (.int 5)))))
local macro_rules | `(‹"m"›)=>`(.ListComp elt [⟨tg,iter,ifs,0⟩] scope pos)
local macro_rules | `(‹"n"›)=>`(fun _=>show List.Nodup (["ship"]:List Str) from by decide +kernel)
local macro_rules | `(‹"o"›)=>`(.lst (cells.map D.int))
local macro_rules | `(‹"p"›)=>`(x == ("__debug__":Str))
local macro_rules | `(‹"q"›)=>`(fun i=>tu.getD i 0)
local macro_rules | `(‹"r"›)=>`(.ListComp e [⟨tg,iter,ifs,0⟩] scope pos)
local macro_rules | `(‹"s"›)=>`(.lst (fl.map jt))
local macro_rules | `(‹"t"›)=>`(.int (jI (need-jq (fun j=>if M.getD j false=true then 0 else rs.getD j 0) rs.length)))
local macro_rules | `(‹"u"›)=>`([.sh (ji A),.sh (ji B),.sh (qq M),.ow (((List.range j).map (jv M A B)).map D.int),.sh (.int j),.sh (.bl (M.getD j false)),z])
local macro_rules | `(‹"v"›)=>`(k == NameKind.free && env.scope.kind == .function && env.kindOf n == some .cell)
local macro_rules | `(‹"w"›)=>`(ZI (qR (ja 6)) (ZI (qR (js dLt (ja 8) (js jZ (js jZ (ja 1) (ja 4)) (ja 7)))) (qR (js (jah true) (ja 7) (ja 3)))))
local macro_rules | `(‹"x"›)=>`(.tup [.int (qU P0 n),.lst (P0.map ji),.lst (M0.map D.bl)])
local macro_rules | `(‹"y"›)=>`(j5 I q (by simp))
local macro_rules | `(‹"z"›)=>`(fun s=>tD.getD s 0)
local macro_rules | `(‹"A"›)=>`(pushCells (G.push { cls:=.type "dict",data:=.dict #[] }) scope.names)
local macro_rules | `(‹"B"›)=>`(Nat×Option Nat×Nat)
local macro_rules | `(‹"C"›)=>`(X.fn x=true\/X.env.scope.names.lookup x=some .local)
local macro_rules | `(‹"D"›)=>`(jM 4 (js qL (js qL (ja 3) (eC (.int 1))) (js qV (js Zj (ja 0) (eC (.int 6))) (eC (.int 5)))))
local macro_rules | `(‹"E"›)=>`(j8 (jO (jj (jj rfl rfl (jL (by decide))) rfl ql)))
local macro_rules | `(‹"F"›)=>`(fun _=>hr.mono (by omega))
local macro_rules | `(‹"G"›)=>`(.dic (kI ks) ds)
local macro_rules | `(‹"H"›)=>`(.lst (tH.map D.int))
local macro_rules | `(‹"I"›)=>`(fun s=>tE.getD s false)
local macro_rules | `(‹"J"›)=>`(.Call (.Name x p) (e::es) [] pos)
local macro_rules | `(‹"K"›)=>`(jk QD (jc (jr 0) (jc (jr 1) (jc (jr 6) (jc (jr 7) jl)))))
local macro_rules | `(‹"L"›)=>`(s.heap.push { cls:=.type "range",data:=.fields #[.int lo t,.int hi u,.int 1 v] })
local macro_rules | `(‹"M"›)=>`(qR (JK dLe dLt (js jZ (ja 3) (eC (.int 0))) (ja 1) (js jZ (ja 3) (eC (.int 1)))))
local macro_rules | `(‹"N"›)=>`(.lst (tD.map D.int))
local macro_rules | `(‹"O"›)=>`(.lst (P.map ji))
local macro_rules | `(‹"P"›)=>`(M.blk (Lc++Fn) scope)
local macro_rules | `(‹"Q"›)=>`(s.heap.push { cls:=.type "set",dict:=none,data:=.set #[] 0 (.fresh 0 0 led) })
local macro_rules | `(‹"R"›)=>`(Za (by rw [M.hN j];exact hN) (hv j) hd hcd)
local macro_rules | `(‹"S"›)=>`(qt (hb tf s1 σ H1 _ I1 q1) fun u s2 ⟨y,H2,I2,r2,q2⟩=>qt (ho tf s2 σ H2 x y v u _ I2 r1 r2 q2) fun d s3 ⟨z,H3,I3,r3,k,e,q3⟩=>?_)
local macro_rules | `(‹"T"›)=>`(envOfC qual scope s.heap.objs.size f cd)
local macro_rules | `(‹"U"›)=>`(PySem.W.fnOf x qual (jK st) (jF st) (jd st) .none kV doc pm an cdv ct)
local macro_rules | `(‹"V"›)=>`(s.heap.push { cls:=.type "list",data:=.seq ([]:List Value).toArray })
local macro_rules | `(‹"W"›)=>`(ha tf s σ H _ I h)
local macro_rules | `(‹"X"›)=>`(intKind prog w)
local macro_rules | `(‹"Y"›)=>`(fun _=>show List.Nodup (["share"]:List Str) from by decide +kernel)
local macro_rules | `(‹"Z"›)=>`(qt (ha pos tf s σ H _ I h) fun us s1 zz=>?_)
local macro_rules | `(‹"0"›)=>`(QR (jnB (l:=[.int b,.int e,.int n,.int m]) (jh rfl (jh rfl (jh rfl (jh rfl rfl)))) (show 4<16777216 by decide)))
local macro_rules | `(‹"1"›)=>`(.lst (p.map qh))
local macro_rules | `(‹"2"›)=>`(wpAny_attempt (Kb (name:=Str.ofString "__next__") hT K5 (yp K5 hT F.entry_zip_next ?_ (F.args_zip_next_1 _))))
local macro_rules | `(‹"3"›)=>`(.sh (.lst (r.map D.int)))
local macro_rules | `(‹"4"›)=>`(jM 3 (js qX (js qV (ja 0) (eC (.int 50))) (eC (.int 25))))
local macro_rules | `(‹"5"›)=>`(by simpa using hi)
local macro_rules | `(‹"6"›)=>`(wpAny_attempt (Kb (name:=Str.ofString "__next__") hT slot_setit_next (yp slot_setit_next hT Qf ?_ (QV _))))
local macro_rules | `(‹"7"›)=>`(.ow (Dr.map D.int))
local macro_rules | `(‹"8"›)=>`(jM 3 (js qX (js qV (ja 0) (eC (.int 6))) (eC (.int 2))))
local macro_rules | `(‹"9"›)=>`(eh (zm tP (fun _=>rfl) (fun _=>T.tP) yv (jm (jb 0) jD)))
local macro_rules | `(‹"aa"›)=>`(SetTable.grown es1.size)
local macro_rules | `(‹"ab"›)=>`(.ow (fl.map jt))
local macro_rules | `(‹"ac"›)=>`(((Q.getD i []).map D.int).set s (.int (g (jW Q i s) v)))
local macro_rules | `(‹"ad"›)=>`(js jZ (ja 0) (eC (.int 0)))
local macro_rules | `(‹"ae"›)=>`(jk ZU (jc (eC (.int 0)) (jc (js qX (ja 0) (ja 1)) jl)))
local macro_rules | `(‹"af"›)=>`(∀a vs G' H',Ext G H G' H'->H a=none->G' a=none->H' a=some (.lst vs)->Reps G' vs ds->Q (.ref a) H')
local macro_rules | `(‹"ag"›)=>`(A.deeper (envOfC qual (jd st) s.heap.objs.size f cdv))
local macro_rules | `(‹"ah"›)=>`(by decide +kernel)
local macro_rules | `(‹"ai"›)=>`(assignEach es (M.X j).env)
local macro_rules | `(‹"aj"›)=>`(.dic (kI ks0) ds0)
local macro_rules | `(‹"ak"›)=>`((x1.trans x2).trans x3)
local macro_rules | `(‹"al"›)=>`(qt (h pos tf s σ H _ I hq) fun us s1 ⟨xs,H1,I1,r,z,q⟩=>⟨by rw [<-r.length];exact z,?_⟩)
local macro_rules | `(‹"am"›)=>`(fun i t=>tI i (pl (nt M) m t))
local macro_rules | `(‹"an"›)=>`(HT.sIx xs.length xs.length hi-HT.sIx xs.length 0 lo)
local macro_rules | `(‹"ao"›)=>`(qd (x/17) (show (0:Int)<4 by decide))
local macro_rules | `(‹"ap"›)=>`((List.range (min i1.toArray.size i2.toArray.size)).all e && i1.toArray.size == i2.toArray.size)
local macro_rules | `(‹"aq"›)=>`(zm tN (fun _=>rfl) (fun _=>T.tN) KF (jm (jb 0) jD))
local macro_rules | `(‹"ar"›)=>`(∃P tE,d=.tup [.int (qU P n),.lst (P.map ji),.lst (tE.map D.bl)]/\Fill n m tu tm tH P0 P tE)
local macro_rules | `(‹"as"›)=>`(qt (ha pos tf s σ H _ I h) fun us s1 ⟨vs,H1,I1,r1,q1⟩=>hc tf s1 σ H1 vs us Q I1 r1 q1)
local macro_rules | `(‹"at"›)=>`(js (jah false) (ja 7) (ja 3))
local macro_rules | `(‹"au"›)=>`(fun r s'=>r=.ok (.ret (.bool true))/\OldK s₁.heap s'.heap/\s'.os=s₁.os/\AllBare s'.gens)
local macro_rules | `(‹"av"›)=>`(Obj.mapSeq fun _=>(#[]:Array Value))
local macro_rules | `(‹"aw"›)=>`(c ρ=some true/\((∃ρ2 k2,B ρ=.next ρ2/\k2<k/\P k2 ρ2)\/∃d,B ρ=.ret d/\R (.ret d)))
local macro_rules | `(‹"ax"›)=>`(eh (qo (fun _=>rfl) (fun _=>T.wk)))
local macro_rules | `(‹"ay"›)=>`(zm jgM (fun _=>rfl) (fun _=>T.rp) boot_max (jm (eh jy) (jm (eh (zq (jb 0) (jb 1))) jD)))
local macro_rules | `(‹"az"›)=>`(fun b hb=>⟨(hf b hb).2.2.2.1,(hf b hb).2.1,(hf b hb).2.2.2.2.1,(hf b hb).2.2.2.2.2⟩)
local macro_rules | `(‹"aA"›)=>`(KL (h1.extBut s1.extBut D.i1z) (hl1.extBut s1.extBut D.l1z) hx fun g2 p2 s2=>Yh (Yh ?_))
local macro_rules | `(‹"aB"›)=>`(je (WO.toE (JV (sc:=jd jG) (Lc:=["share"]) (Fn:=["marks"]) (ix:=[3]) (fun _=>rfl) (show LcOk (jd jG) ["needs","rooms","hours","marks","inside","outside","high","low"] _ ["marks"] [3] from by decide +kernel) (j2 (jb 1)) (jY (i:=0) (fun _=>show List.Nodup (["share","marks"]:List Str) from by decide +kernel) rfl (by decide) ‹"a"› ‹"i"›) jS (WO.toE (qI (fun _=>jbY T) ‹"F"› (fun _=>rfl) (fun _=>T.vZ) (fun _=>T.vN.kp) (fun _=>T.v5) (je (jo 0) (je (jo 1) (je jeQ ju))))))) (je (WO.toE (qI (fun _=>jbY T) ‹"F"› (fun _=>rfl) (fun _=>T.vZ) (fun _=>T.vN.kp) (fun _=>T.v5) (je (jo 2) (je (jo 3) (je jeQ ju))))) ju))
local macro_rules | `(‹"aC"›)=>`(jm (eh (WO.toE (JV (sc:=jd zM) (Lc:=["ship"]) (Fn:=[]) (ix:=[]) (fun _=>rfl) (show LcOk (jd zM) ["script","cell","fleet","k","cells","first","last","drawn","i","row","h","at","plan","told"] _ [] [] from by decide +kernel) (j2 (jb 2)) (jY (i:=0) ‹"n"› rfl (by decide) ‹"a"› ‹"i"›) jS (jR (jb 0) (eh jy))))) jD)
local macro_rules | `(‹"aD"›)=>`(WO.toE (qI (fun _=>Qp T) ‹"g"› (fun _=>rfl) (fun _=>T.uC) (fun _=>T.ui.kp) (fun _=>T.ux) (je (jo 0) ju)))
local macro_rules | `(‹"aE"›)=>`([.sh (jt s),.sh ‹"o"›,.sh (.int st),.sh (.int s.b),.sh (.int s.e),.sh (.int s.n),.sh (.int s.m),.sh (.int left),.ow (R.map D.int),.sh (.int (j:Int)),z10,z11,.sh (.int (a:Int)),.sh (.int x)])
local macro_rules | `(‹"aF"›)=>`(jO (jj (qp (jgr (jh rfl (jh rfl (jh rfl (jh rfl (jh (jj rfl rfl jed) (jh (jj rfl ‹"e"› jP) (jh rfl (jh rfl rfl)))))))) (show 8<16777216 by decide))) (jj rfl rfl (jL (by decide))) em))
local macro_rules | `(‹"aG"›)=>`([.sh ‹"d"›,.sh ‹"j"›,a,.od (kI ks) ds,.ow (nI ks),t,.sh (.int off),.sh (.int on),x8])
local macro_rules | `(‹"aH"›)=>`([.sh ‹"f"›,.sh ‹"d"›,.sh ‹"N"›,.sh (.int lv),.sh ‹"x"›,.un])
local macro_rules | `(‹"aI"›)=>`([.sh ‹"f"›,.sh ‹"d"›,.sh ‹"N"›,.sh (.int lv),.sh ‹"x"›,.sh (.tup [.int (qU P1 n),.lst (P1.map ji),.lst (M1.map D.bl)])])
local macro_rules | `(‹"aJ"›)=>`([.sh ‹"f"›,.sh ‹"d"›,.sh ‹"H"›,.sh ‹"O"›,x4,x5,x6,x7,x8])
local macro_rules | `(‹"aK"›)=>`(QM ns c (.sh ‹"s"›) (.sh (.int k)) cells F L ‹"7"› z8 z9 z10 z11 (.sh (.lst (E.map ji))) (.sh (.lst (Tl.map D.int))))
local macro_rules | `(‹"aL"›)=>`(jO (jj (jj rfl rfl jP) ‹"e"› jP))
local macro_rules | `(‹"aM"›)=>`(jY (i:=0) (fun _=>show List.Nodup (["many","level"]:List Str) from by decide +kernel) rfl (by decide) ‹"a"› ‹"i"›)
local macro_rules | `(‹"aN"›)=>`(jY (i:=0) (fun _=>show List.Nodup (["many","k"]:List Str) from by decide +kernel) rfl (by decide) ‹"a"› ‹"i"›)
local macro_rules | `(‹"aO"›)=>`(fun v s₁=>wpAny ‹"c"› X.A (eval b X.env) (fun u s₂=>wpAny ‹"c"› X.A (f v u) Q X.xe s₂) X.xe s₁)
local macro_rules | `(‹"aP"›)=>`([.sh ‹"G"›,.sh (.int s0),.ow (suf.reverse.map qh),.sh d])
local macro_rules | `(‹"aQ"›)=>`(jY (i:=0) ‹"Y"› rfl (by decide) ‹"a"› ‹"i"›)
local macro_rules | `(‹"aR"›)=>`([.sh ‹"f"›,.sh ‹"d"›,.sh ‹"H"›,.sh ‹"O"›,.sh ‹"G"›,.sh (.lst (nI fr)),x6,x7,x8])
local macro_rules | `(‹"aS"›)=>`([.sh ‹"d"›,.sh ‹"j"›,.sh ‹"aj"›,.od (kI ks) ds,.ow (nI ks),.sh (.int (t:Int)),x6,x7,x8])
local macro_rules | `(‹"aT"›)=>`(jH (i:=3) (zq (eh (zL (jb 0) (eh jy))) (eh jy)) (fun _=>tK.nd) rfl ‹"a"› ‹"a"›)
local macro_rules | `(‹"aU"›)=>`(jY (i:=0) ‹"n"› rfl (by decide) ‹"a"› ‹"i"›)
namespace L2
open PySem PySem.Spec PyProof.Rows
abbrev ze:=Sum Int Str
def Q2:ze->Value->Bool
 | .inl k,v=>Value.isInt k v
 | .inr x,v=>Value.isStrOf x v
def jrG (w:World):ze->Int
 | .inl k=>hashInt k
 | .inr x=>hashStr w x
theorem j1:∀{k:ze} {v:Value},Q2 k v=true->(∃i t,k=Sum.inl i/\v=Value.int i t)\/(∃x t,k=Sum.inr x/\v=Value.str x t)
 | .inl i,v,h=>by obtain ⟨t,e⟩:=Value.isInt_shape (k:=i) (v:=v) h;exact .inl ⟨i,t,rfl,e⟩
 | .inr x,v,h=>by obtain ⟨t,e⟩:=Value.isStrOf_shape (x:=x) (v:=v) h;exact .inr ⟨x,t,rfl,e⟩
theorem ji8 (i:Int) (t:Tok):Q2 (.inl i) (.int i t)=true:=by simp [Q2,Value.isInt]
theorem jjk (x:Str) (t:Tok):Q2 (.inr x) (.str x t)=true:=by simp [Q2,Value.isStrOf]
theorem joG (a b:Int):decide ((Sum.inl a:ze)=Sum.inl b)=(a == b):=by
 by_cases e:a=b
 . subst e;simp
 . have h:¬(Sum.inl a:ze)=Sum.inl b:=fun q=>e (Sum.inl.inj q);rw [YY h];exact (KA.mpr e).symm
theorem jpP (a b:Str):decide ((Sum.inr a:ze)=Sum.inr b)=decide (a=b):=by
 by_cases e:a=b
 . subst e;simp
 . have h:¬(Sum.inr a:ze)=Sum.inr b:=fun q=>e (Sum.inr.inj q);rw [YY h,YY e]
theorem jor (a:Int) (b:Str):decide ((Sum.inl a:ze)=Sum.inr b)=false:=YY (fun q=>nomatch q)
theorem jon (a:Str) (b:Int):decide ((Sum.inr a:ze)=Sum.inl b)=false:=YY (fun q=>nomatch q)
def jX (prog:Program) (w:World):PySem.KeyKind prog w ze where
 is:=Q2
 hash:=jrG w
 inj:=fun v a b ha hb=>by
   rcases j1 ha with ⟨i,t,rfl,rfl⟩ | ⟨x,t,rfl,rfl⟩
   . rcases j1 hb with ⟨j,u,rfl,e⟩ | ⟨y,u,rfl,e⟩
     . injection e with e1 _;rw [e1]
     . exact nomatch e
   . rcases j1 hb with ⟨j,u,rfl,e⟩ | ⟨y,u,rfl,e⟩
     . exact nomatch e
     . injection e with e1 _;rw [e1]
 byValue:=fun k v h=>by rcases j1 h with ⟨i,t,rfl,rfl⟩ | ⟨x,t,rfl,rfl⟩ <;> rfl
 pyHash:=fun hv h=>by
   rcases j1 hv with ⟨i,t,rfl,rfl⟩ | ⟨x,t,rfl,rfl⟩
   . exact wpAny_pyHash_int h
   . exact wpAny_pyHash_str h
 eqBool:=fun hu hv h=>by
   rcases j1 hu with ⟨i,t,rfl,rfl⟩ | ⟨x,t,rfl,rfl⟩
   . rcases j1 hv with ⟨j,u,rfl,rfl⟩ | ⟨y,u,rfl,rfl⟩
     . rw [joG] at h;exact wpAny_eqBool_int h
     . rw [jor] at h;exact SeqAt.EqAt.int_str i t y u _ _ _ _ h
   . rcases j1 hv with ⟨j,u,rfl,rfl⟩ | ⟨y,u,rfl,rfl⟩
     . rw [jon] at h;exact SeqAt.EqAt.str_int x t j u _ _ _ _ h
     . rw [jpP] at h;exact wpAny_eqBool_str h
 «strs»:=fun k x t v h=>by
   rcases j1 h with ⟨i,u,rfl,e⟩ | ⟨y,u,rfl,e⟩
   . exact nomatch e
   . injection e with e1 _;subst e1;cases v <;> rfl
theorem jfr (prog:Program) (w:World) (i:Int) (t:Tok):(jX prog w).is (.inl i) (.int i t)=true:=ji8 i t
theorem jgg (prog:Program) (w:World) (x:Str) (t:Tok):(jX prog w).is (.inr x) (.str x t)=true:=jjk x t
end L2
namespace L2
open PySem PySem.Spec PyProof.Rows
set_option genInjectivity true in
inductive V where
 | non | bl (b:Bool) | int (i:Int) | str (x:Str) | byt (b:Array UInt8) | flt (b:UInt64) | ref (a:Addr) | ty (n:String)
 deriving DecidableEq
def RelV:V->Value->Prop
 | .non,u=>u=Value.none
 | .bl b,u=>u=Value.bool b
 | .int i,u=>∃t,u=Value.int i t
 | .str x,u=>∃t,u=Value.str x t
 | .byt b,u=>∃t,u=Value.bytes b t
 | .flt b,u=>∃t,u=Value.float b t
 | .ref a,u=>u=Value.ref a
 | .ty n,u=>u=Value.type n
abbrev Vals:List V->List Value->Prop:=Paired RelV
theorem Vals.length {xs:List V} {us:List Value} (r:Vals xs us):xs.length=us.length:=Paired.length r
theorem Vals.get:∀{xs:List V} {us:List Value} {i:Nat} {x:V},Vals xs us->xs[i]?=some x->∃u,us[i]?=some u/\RelV x u
 | _,_,_,_,.nil,e=>by simp at e
 | _,_,0,_,.cons r _,e=>by simp at e;subst e;exact ⟨_,rfl,r⟩
 | _,_,i+1,x,.cons _ t,e=>by obtain ⟨u,h1,h2⟩:=Vals.get (i:=i) (x:=x) t (by simpa using e);exact ⟨u,by simpa using h1,h2⟩
theorem Vals.set {x:V} {u:Value} (r:RelV x u):∀{xs:List V} {us:List Value} (i:Nat),Vals xs us->Vals (xs.set i x) (us.set i u)
 | _,_,_,.nil=>.nil
 | _,_,0,.cons _ t=>.cons r t
 | _,_,i+1,.cons q t=>.cons q (Vals.set r i t)
theorem Vals.append:∀{xs ys:List V} {us ws:List Value},Vals xs us->Vals ys ws->Vals (xs++ys) (us++ws):=fun h s=>by
 induction h with
 | nil=>exact s
 | cons r _ ih=>exact .cons r ih
theorem Vals.take:∀{xs:List V} {us:List Value} (n:Nat),Vals xs us->Vals (xs.take n) (us.take n)
 | _,_,0,_=>.nil
 | _,_,_+1,.nil=>.nil
 | _,_,n+1,.cons r t=>.cons r (Vals.take n t)
theorem Vals.drop:∀{xs:List V} {us:List Value} (n:Nat),Vals xs us->Vals (xs.drop n) (us.drop n)
 | _,_,0,r=>r
 | _,_,_+1,.nil=>.nil
 | _,_,n+1,.cons _ t=>Vals.drop n t
def RelO:Option V->Option Value->Prop
 | some v,some u=>RelV v u
 | none,none=>True
 | _,_=>False
def KV {κ:Type}:List (κ×V)->List (κ×Value)->Prop:=Paired fun (p:κ×V) (q:κ×Value)=>p.1=q.1/\RelV p.2 q.2
def kV:ze->V
 | .inl i=>.int i
 | .inr x=>.str x
set_option genInjectivity true in
inductive HO where
 /-- a list -/
 | lst (xs:List V)
 /-- a tuple (never changes) -/
 | tup (xs:List V)
 /-- a dict whose keys are ints and texts; one whose keys are tuples of ints and texts (the empty one is both) -/
 | dK (kvs:List (ze×V)) | dT (kvs:List (List ze×V))
 /-- a set of ints: tF members, tF size -/
 | set (S:Int->Bool) (n:Nat)
 /-- an instance of the class at C, tF dict at dx, tF attributes -/
 | ins (C dx:Addr) (fs:List (Str×V))
 /-- the dict of the instance at x -/
 | own (x:Addr)
 /-- the dict of an exception -/
 | xd (fs:List (Str×V))
 /-- a bound method, f of x -/
 | met (f x:Addr)
 /-- a range object lo, lo + 1, .. below hi -/
 | rng (lo hi:Int)
 /-- a thing that is known to the object (the script; a dict while a loop walks it): read, never written while it is so -/
 | frz (o:Obj) (u:HO)
 /-- a code object's table -/
 | tbl (ps:Array Value)
 /-- any other thing, by what is true of tF one object (a def of one's own: SetO a S n := HO.ext fun h => ..) -/
 | ext (φ:Heap->Prop)
abbrev Hp:=Addr->Option HO
def upd (H:Hp) (a:Addr) (o:HO):Hp:=fun b=>if b=a then some o else H b
theorem jC {H:Hp} {a:Addr} {o:HO}:upd H a o a=some o:=by unfold upd;rw [if_pos rfl]
theorem jA {H:Hp} {a b:Addr} {o:HO} (h:b≠a):upd H a o b=H b:=by unfold upd;rw [if_neg h]
theorem jrg {H:Hp} {a b:Addr} {o u:HO} (h:H a=some o) (h':H b=some u) (d:o≠u):a≠b:=by intro e;subst e;rw [h] at h';exact d (Option.some.inj h')
theorem jE {H:Hp} {a b:Addr} {o:HO} (h:H a=some o) (h':H b=none):a≠b:=by intro e;subst e;rw [h] at h';cases h'
section
variable (P:Program) (w:World)
def ObjOk (H:Hp) (h:Heap) (a:Addr):HO->Prop
 | .lst xs=>xs.length ≤ sizeLine ∧ ∃(tF:List Value) (n:Nat),Vals xs tF ∧ h.get? a=some { cls:=.type "list",data:=.seq tF.toArray n }
 | .tup xs=>xs.length<=sizeLine/\∃tF:List Value,Vals xs tF/\IsTup h a tF.toArray
 | .dK kvs=>kvs.length<=sizeLine/\(a == sysModules)=false/\∃vs,KV kvs vs/\h.DictOf (jX P w) a vs
 | .dT kvs=>kvs.length<=sizeLine/\(a == sysModules)=false/\∃xs:List (List ze×Addr×Value),
  Paired (fun (p:List ze×V) (q:List ze×Addr×Value)=>p.1=q.1/\H q.2.1=some (.tup (p.1.map kV))/\RelV p.2 q.2.2) kvs xs /\
  ∃o es ep,h.get? a=some o/\o.ExactDict/\o.data=.dict es ep/\es.toList=xs.map (entryOfKey (tupleKind (jX P w)))/\(xs.map (·.1)).Nodup
 | .set S n=>h.SetOf (intKind P w) a S n
 | .ins C dx fs=>H dx=some (.own a)/\fs.length<=1000/\dx≠a/\h.get? a=some (PySem.W.instObj C dx) /\
  ∃mA,h.Ns1 dx mA/\(∀f,RelO (fs.lookup f) (mA f))/\PySem.Within mA (fs.map (·.1))
 | .own _=>∃o,h.get? a=some o
 | .xd fs=>∃mA,h.Ns1 a mA/\∀f,RelO (fs.lookup f) (mA f)
 | .rng lo hi=>∃t u v,h.get? a=some { cls:=.type "range",data:=.fields #[.int lo t,.int hi u,.int 1 v] }
 | .frz o u=>h.get? a=some o/\ObjOk H h a u
 | .tbl ps=>h.get? a=some { cls:=.none,data:=.fields ps }
 | .met f x=>h.get? a=some (PySem.W.methodObj (.ref f) (.ref x))
 | .ext φ=>φ h/\(∃o,h.get? a=some o)/\∀h1 h2:Heap,φ h1->(∀o,h1.get? a=some o->h2.get? a=some o)->φ h2
def HOk (H:Hp) (h:Heap):Prop:=∀a o,H a=some o->ObjOk P w H h a o
end
section
variable {P:Program} {w:World} {H H':Hp} {h h':Heap} {a:Addr} {o:HO}
theorem ObjOk.lt (x:ObjOk P w H h a o):a<h.objs.size:=by
 cases o with
 | lst xs=>obtain ⟨_,_,_,_,e⟩:=x;exact Yu e
 | tup xs=>obtain ⟨_,_,_,p⟩:=x;exact p.lt
 | dK kvs=>obtain ⟨_,_,_,_,o,_,_,e,_⟩:=x;exact Yu e
 | dT kvs=>obtain ⟨_,_,_,_,o,_,_,e,_⟩:=x;exact Yu e
 | set S n=>obtain ⟨o,_,_,_,e,_⟩:=x;exact Yu e
 | ins C dx fs=>obtain ⟨_,_,_,e,_⟩:=x;exact Yu e
 | own y=>obtain ⟨_,e⟩:=x;exact Yu e
 | xd fs=>obtain ⟨_,⟨_,_,_,e,_⟩,_⟩:=x;exact Yu e
 | rng lo hi=>obtain ⟨_,_,_,e⟩:=x;exact Yu e
 | frz ob u=>obtain ⟨e,_⟩:=x;exact Yu e
 | tbl ps=>exact Yu (show h.get? a=some _ from x)
 | met f y=>exact Yu (show h.get? a=some _ from x)
 | ext φ=>obtain ⟨_,⟨_,e⟩,_⟩:=x;exact Yu e
theorem Paired.mapP {α β:Type} {F G:α->β->Prop}:∀{l₁:List α} {l₂:List β},Paired F l₁ l₂->(∀a b,F a b->G a b)->Paired G l₁ l₂:=fun h f=>by
 induction h with
 | nil=>exact .nil
 | cons r _ ih=>exact .cons (f _ _ r) ih
theorem ObjOk.stay (x:ObjOk P w H h a o) (k:∀b u,(b=a\/H b=some (.own a))->h.get? b=some u->h'.get? b=some u)
 (ho:∀b,H b=some (.own a)->H' b=some (.own a)) (ht:∀b xs,H b=some (.tup xs)->H' b=some (.tup xs)):ObjOk P w H' h' a o:=by
 induction o with
 | lst xs=>obtain ⟨z,tF,n,r,e⟩:=x;exact ⟨z,tF,n,r,k _ _ (.inl rfl) e⟩
 | tup xs=>obtain ⟨z,tF,r,ob,e,c⟩:=x;exact ⟨z,tF,r,ob,k _ _ (.inl rfl) e,c⟩
 | dK kvs=>obtain ⟨z,y,vs,r,ob,es,ep,e,c⟩:=x;exact ⟨z,y,vs,r,ob,es,ep,k _ _ (.inl rfl) e,c⟩
 | dT kvs=>obtain ⟨z,y,xs,r,ob,es,ep,e,c⟩:=x;exact ⟨z,y,xs,Paired.mapP r fun p q z=>⟨z.1,ht _ _ z.2.1,z.2.2⟩,ob,es,ep,k _ _ (.inl rfl) e,c⟩
 | set S n=>obtain ⟨ob,es,ep,t,e,c⟩:=x;exact ⟨ob,es,ep,t,k _ _ (.inl rfl) e,c⟩
 | ins C dx fs=>obtain ⟨d,z,ne,e,mA,⟨od,es,ep,e2,c⟩,r⟩:=x;exact ⟨ho _ d,z,ne,k _ _ (.inl rfl) e,mA,⟨od,es,ep,k _ _ (.inr d) e2,c⟩,r⟩
 | own y=>obtain ⟨ob,e⟩:=x;exact ⟨ob,k _ _ (.inl rfl) e⟩
 | xd fs=>obtain ⟨mA,⟨od,es,ep,e,c⟩,r⟩:=x;exact ⟨mA,⟨od,es,ep,k _ _ (.inl rfl) e,c⟩,r⟩
 | rng lo hi=>obtain ⟨t,u,v,e⟩:=x;exact ⟨t,u,v,k _ _ (.inl rfl) e⟩
 | frz ob u ih=>obtain ⟨e,q⟩:=x;exact ⟨k _ _ (.inl rfl) e,ih q⟩
 | tbl ps=>have e:h.get? a=some { cls:=.none,data:=.fields ps }:=x;show h'.get? a=some { cls:=.none,data:=.fields ps };exact k a _ (.inl rfl) e
 | met f y=>have e:h.get? a=some (PySem.W.methodObj (.ref f) (.ref y)):=x;show h'.get? a=some (PySem.W.methodObj (.ref f) (.ref y));exact k a _ (.inl rfl) e
 | ext φ=>obtain ⟨p,⟨o,e⟩,st⟩:=x;exact ⟨st _ _ p fun o q=>k _ _ (.inl rfl) q,⟨o,k _ _ (.inl rfl) e⟩,st⟩
theorem HOk.lt (x:HOk P w H h) (e:H a=some o):a<h.objs.size:=(x a o e).lt
theorem HOk.fresh (x:HOk P w H h) (e:h.objs.size<=a):H a=none:=by
 cases q:H a with
 | none=>rfl
 | some u=>exact absurd (Yj (x.lt q) e) (YV _)
theorem HOk.kept (x:HOk P w H h) (k:∀b u,h.get? b=some u->h'.get? b=some u):HOk P w H h':=fun a o e=>(x a o e).stay (fun b u _ q=>k b u q) (fun _ q=>q) fun _ _ q=>q
theorem HOk.laid (x:HOk P w H h) (k:∀b u,h.get? b=some u->h'.get? b=some u) (hp:h.objs.size<=a) (new:ObjOk P w (upd H a o) h' a o):HOk P w (upd H a o) h':=fun b u e=>by
 have hn:=x.fresh hp;by_cases hb:b=a
 . subst hb;rw [jC] at e;cases e;exact new
 . rw [jA hb] at e;exact (x b u e).stay (fun c v _ q=>k c v q) (fun c q=>by rw [jA (jE q hn)];exact q) fun c xs q=>by rw [jA (jE q hn)];exact q
end
def Rd (H:Hp) (a:Addr) (u:HO):Prop:=H a=some u\/∃o,H a=some (.frz o u)
theorem Rd.ok {P:Program} {w:World} {H:Hp} {h:Heap} {a:Addr} {u:HO} (r:Rd H a u) (x:HOk P w H h):ObjOk P w H h a u:=by
 rcases r with r | ⟨o,r⟩
 . exact x a u r
 . obtain ⟨_,q⟩:=x a _ r;exact q
def Mut:Option HO->Prop
 | some (.lst _)=>True
 | some (.dK _)=>True
 | some (.dT _)=>True
 | some (.set _ _)=>True
 | some (.ins _ _ _)=>True
 | some (.ext _)=>True
 | _=>False
section
variable {P:Program} {w:World} {H:Hp} {h h':Heap} {x e:Addr} {o':HO}
theorem HOk.write (ok:HOk P w H h) (mu:Mut (H x)) (he:e=x\/H e=some (.own x)) (k:∀b u,b≠e->h.get? b=some u->h'.get? b=some u) (heo:∃u,h'.get? e=some u)
 (new:ObjOk P w (upd H x o') h' x o'):HOk P w (upd H x o') h':=fun b u q=>by
 have nown:∀c y,H c=some (.own y)->c≠x:=fun c y r z=>by subst z;rw [r] at mu;exact mu
 have ntup:∀c xs,H c=some (.tup xs)->c≠x:=fun c xs r z=>by subst z;rw [r] at mu;exact mu
 by_cases hb:b=x
 . subst hb;rw [jC] at q;cases q;exact new
 . rw [jA hb] at q;by_cases hbe:b=e
   . have q':H b=some (.own x):=by
       rcases he with z | z
       . exact absurd (hbe.trans z) hb
       . rw [hbe];exact z
     rw [q] at q';cases q';obtain ⟨v,hv⟩:=heo;exact ⟨v,by rw [hbe];exact hv⟩
   . refine (ok b u q).stay (fun c v hc r=>k c v ?_ r) (fun c r=>by rw [jA (nown c b r)];exact r) fun c xs r=>by rw [jA (ntup c xs r)];exact r
     rcases hc with rfl | hc
     . exact hbe
     . rintro rfl;rcases he with z | z
       . exact nown c b hc z
       . rw [hc] at z;cases z;exact hb rfl
end
structure Un (fs ex:List Addr) (H H':Hp) (h h':Heap):Prop where
 keep:∀b o,h.get? b=some o->H b=none->b∉fs->b∉ex->h'.get? b=some o
 slot:∀b o,h.get? b=some o->H b=none->b∈fs->b∉ex->∃sl,h'.get? b=some { o with slots:=sl }
 free:∀b o,h.get? b=some o->H b=none->b∉ex->H' b=none
 there:∀b o,h.get? b=some o->b∉ex->∃o',h'.get? b=some o'
 tups:∀b xs,H b=some (.tup xs)->H' b=some (.tup xs)
 frzs:∀b o u,H b=some (.frz o u)->H' b=some (.frz o u)
 tbls:∀b ps,H b=some (.tbl ps)->∃more,H' b=some (.tbl (ps++more))
section
variable {fs fs' ex ex':List Addr} {H H1 H2:Hp} {h h1 h2 h':Heap} {a x e:Addr} {o:HO}
theorem Un.any (u:Un fs ex H H1 h h1) {b:Addr} {ob:Obj} (q:h.get? b=some ob) (n:H b=none) (hx:b∉ex):∃sl,h1.get? b=some { ob with slots:=sl }:=by
 by_cases hb:b∈fs
 . exact u.slot b ob q n hb hx
 . exact ⟨ob.slots,u.keep b ob q n hb hx⟩
theorem Un.trans (a:Un fs ex H H1 h h1) (b:Un fs ex H1 H2 h1 h2):Un fs ex H H2 h h2 where
 keep:=fun c ob q n hc hx=>b.keep c ob (a.keep c ob q n hc hx) (a.free c ob q n hx) hc hx
 slot:=fun c ob q n hc hx=>by obtain ⟨sl,e1⟩:=a.slot c ob q n hc hx;obtain ⟨sl',e2⟩:=b.slot c _ e1 (a.free c ob q n hx) hc hx;exact ⟨sl',e2⟩
 free:=fun c ob q n hx=>by obtain ⟨o',e1⟩:=a.there c ob q hx;exact b.free c o' e1 (a.free c ob q n hx) hx
 there:=fun c ob q hx=>by obtain ⟨o',e1⟩:=a.there c ob q hx;exact b.there c o' e1 hx
 tups:=fun c xs q=>b.tups c xs (a.tups c xs q)
 frzs:=fun c ob xs q=>b.frzs c ob xs (a.frzs c ob xs q)
 tbls:=fun c ps q=>by obtain ⟨m1,e1⟩:=a.tbls c ps q;obtain ⟨m2,e2⟩:=b.tbls c _ e1;exact ⟨m1++m2,by rw [e2,Array.append_assoc]⟩
theorem Un.kept (k:∀b u,h.get? b=some u->h'.get? b=some u):Un fs ex H H h h':=⟨fun b ob q _ _ _=>k b ob q,fun b ob q _ _ _=>⟨ob.slots,k b ob q⟩,fun _ _ _ n _=>n,fun b ob q _=>⟨ob,k b ob q⟩,fun _ _ q=>q,fun _ _ _ q=>q,fun _ ps q=>⟨#[],by rw [q];simp⟩⟩
theorem Un.refl:Un fs ex H H h h:=Un.kept fun _ _ q=>q
theorem Un.laid (k:∀b u,h.get? b=some u->h'.get? b=some u) (hp:h.objs.size<=a) (hn:H a=none):Un fs ex H (upd H a o) h h' where
 keep:=fun b u q _ _ _=>k b u q
 slot:=fun b u q _ _ _=>⟨u.slots,k b u q⟩
 free:=fun b u q n _=>by rw [jA (Yr (Yj (Yu q) hp))];exact n
 there:=fun b u q _=>⟨u,k b u q⟩
 tups:=fun b xs q=>by rw [jA (jE q hn)];exact q
 frzs:=fun b u xs q=>by rw [jA (jE q hn)];exact q
 tbls:=fun b ps q=>⟨#[],by rw [jA (jE q hn),q];simp⟩
theorem Un.write (mu:Mut (H x)) (he:e=x\/H e=some (.own x)) (k:∀b u,b≠e->h.get? b=some u->h'.get? b=some u) (heo:∃u,h'.get? e=some u):Un fs ex H (upd H x o) h h':=by
 have hx:∀b,H b=none->b≠x:=fun b n z=>by subst z;rw [n] at mu;exact mu
 have hb:∀b,H b=none->b≠e:=fun b n z=>by
  subst z;rcases he with r | r
  . exact hx b n r
  . rw [n] at r;cases r
 have hm:∀b u,H b=some u->¬Mut (some u)->b≠x:=fun b u q nm z=>by subst z;rw [q] at mu;exact nm mu
 refine ⟨fun b u q n _ _=>k b u (hb b n) q,fun b u q n _ _=>⟨u.slots,k b u (hb b n) q⟩,fun b u q n _=>by rw [jA (hx b n)];exact n,fun b u q _=>?_,
  fun b xs q=>by rw [jA (hm b _ q fun z=>z)];exact q,fun b u xs q=>by rw [jA (hm b _ q fun z=>z)];exact q,fun b ps q=>⟨#[],by rw [jA (hm b _ q fun z=>z),q];simp⟩⟩
 by_cases hbe:b=e
 . subst hbe;exact heo
 . exact ⟨u,k b u hbe q⟩
theorem Un.mono (u:Un fs ex H H1 h h1) (hs:∀b∈fs,b∈fs') (hx:∀b∈ex,b∈ex'):Un fs' ex' H H1 h h1:=⟨fun b ob q n hb he=>u.keep b ob q n (fun z=>hb (hs b z)) fun z=>he (hx b z),fun _ _ q n _ he=>u.any q n fun z=>he (hx _ z),fun b ob q n he=>u.free b ob q n fun z=>he (hx b z),fun b ob q he=>u.there b ob q fun z=>he (hx b z),u.tups,u.frzs,u.tbls⟩
end
def trk (h:Heap) (H:Hp):List Addr:=(List.range h.objs.size).filter fun a=>(H a).isSome
def jeR (h:Heap) (H:Hp):Heap:=PySem.W.hideAll h (trk h H)
theorem jiY (h:Heap) (H:Hp):(jeR h H).objs.size=h.objs.size:=PySem.W.hideAll_size _ _
theorem jlf {h:Heap} {H:Hp} {b:Addr} {o:Obj} (e:h.get? b=some o) (n:H b=none):(jeR h H).get? b=some o:=
 PySem.W.hideAll_get _ e fun hm=>by have q:(H b).isSome=true:=(KH.mp hm).2;rw [n] at q;simp at q
theorem jmF {h:Heap} {H:Hp} {b:Addr} {o:Obj} (e:(jeR h H).get? b=some o):h.get? b=some o/\H b=none:=by
 have e':h.get? b=some o:=PySem.W.of_hideAll (trk h H) e;refine ⟨e',?_⟩;cases q:H b with
 | none=>rfl
 | some x=>have hm:b∈trk h H:=KH.mpr ⟨List.mem_range.mpr (Yu e'),by simp [q]⟩;have z:(jeR h H).get? b=none:=PySem.W.hideAll_none (trk h H) hm;rw [z] at e;cases e
def jlW (g h:Heap) (L:Addr):List (Addr×Obj):=(List.range h.objs.size).filterMap fun a=>if a=L\/(g.get? a).isSome=true then none else (h.get? a).map fun o=>(a,o)
def rest (g h:Heap) (L d:Addr):List (Addr×Obj):=(jlW g h L).filter fun p=>decide (p.1≠d)
end L2
namespace L2
open PySem PySem.Spec PyProof.Rows
structure Mod (K:PySem.W.Frag) (mg:Str->Option Value) (base:Heap):Prop where
 kin:K.In base
 glob:base.Ns mainGlobals mg
 blt:∃mb,base.Ns builtinsNs mb ∧ ∀x:Str,x ≠ "__name__" → mb x=bootBuiltins x
 nolimit:base.NoLimit
/-- the context: a def's body (or a comprehension's block) running. base: fixed through the whole law; s₀, H₀: the entry; outer: the frames whose slots others may change (a def's callers); stack: all frames that run;
 ex: iterators that were made ahead of the entry and are walked here (a comprehension's);fn: the names whose cells were made at the entry (a def: all;a comprehension's block: tF own);calm: not within an except suite;pn: tf that every state bears;xe: what is wanted of an exception that leaves the code -/
structure Cx where
 prog:Program
 w:World
 K:PySem.W.Frag
 mg:Str->Option Value
 base:Heap
 A:Around
 N:List Str
 s₀:Shared
 H₀:Hp
 env:Env
 outer:List Env
 stack:List Env
 ex:List Addr
 fn:Str->Bool
 calm:Bool
 pn:List (Addr×Obj)
 xe:Value->Shared->Prop
def frs (l:List Env):List Addr:=l.filterMap (·.frame)
abbrev Cx.fs (X:Cx):List Addr:=frs X.outer
def Vis (sc:Scope) (x:Str):Prop:=sc.names.lookup x=some .local\/sc.names.lookup x=some .cell\/sc.names.lookup x=some .free
def Loc (sc:Scope) (x:Str):Prop:=sc.names.lookup x=some .local\/sc.names.lookup x=some .cell
def jsm (env:Env) (h:Heap) (m:Str->Option Value) (x:Str) (u:Value):Prop:=(env.kindOf x=some .local/\m x=some u)\/((env.kindOf x=some .cell\/env.kindOf x=some .free)/\∃c,env.cells.lookup x=some c/\h.IsCell c (some u))
structure Cx.Ok (X:Cx):Prop where
 mod:Mod X.K X.mg X.base
 kind:X.env.scope.kind=.function
 glob:X.env.globals=mainGlobals
 blt:X.env.builtins=builtinsNs
 above:X.s₀.heap.objs.size<=X.env.locals
 inj:∀x y c,X.env.cells.lookup x=some c->X.env.cells.lookup y=some c->x=y
 has:∀x,(X.env.kindOf x=some .cell\/X.env.kindOf x=some .free)->∃c,X.env.cells.lookup x=some c
 cab:∀x c,X.fn x=true->X.env.cells.lookup x=some c->X.s₀.heap.objs.size<=c
 hd:X.calm=true->X.A.handled=none
 frames:X.A.frames=some X.stack
 stk:X.stack=X.outer\/(X.stack=X.env::X.outer/\X.env.frame=some X.env.locals)
 exf:∀b∈X.ex,b≠X.env.locals/\∀x c,X.env.cells.lookup x=some c->c≠b
 bs:∀b o,X.base.get? b=some o->X.s₀.heap.get? b=some o/\X.H₀ b=none
 bsz:X.base.objs.size<=X.s₀.heap.objs.size
 noex:∀b o,X.base.get? b=some o->b∉X.ex
 exfs:∀b∈X.ex,b∉X.fs
 funs:X.s₀.heap.FunFrames X.base X.outer
 frf:∀b∈X.fs,X.H₀ b=none
structure Inv (X:Cx) (tf:List (Addr×Obj)) (σ:List (Option V)) (H:Hp) (s:Shared):Prop where
 ok:X.Ok
 os:s.os=X.s₀.os
 bare:AllBare s.gens
 base:Un X.fs X.ex X.H₀ H X.s₀.heap s.heap
 loc:∃m,s.heap.Ns X.env.locals m/\∀(i:Nat) (x:Str) (v:V),X.N[i]?=some x->σ[i]?=some (some v)->Vis X.env.scope x->∃u,RelV v u/\jsm X.env s.heap m x u
 cell:∀x c,X.env.cells.lookup x=some c->∃v,s.heap.IsCell c v
 free:H X.env.locals=none
 freeC:∀x c,X.env.cells.lookup x=some c->H c=none
 pin:∀p∈X.pn++tf,s.heap.get? p.1=some p.2/\H p.1=none/\p.1≠X.env.locals/\p.1∉X.fs/\∀v,p.2.data≠.cell v
 hok:HOk X.prog X.w H s.heap
 len:σ.length=X.N.length
section
variable {X:Cx} {tf:List (Addr×Obj)} {σ:List (Option V)} {H H':Hp} {s:Shared} {h':Heap}
theorem Cx.Ok.nofr (ok:X.Ok) {b:Addr} {o:Obj} (e:X.base.get? b=some o):b∉X.fs:=fun hb=>by have:=(ok.funs.mem hb).1;rw [e] at this;cases this
theorem Inv.bs (I:Inv X tf σ H s):∀b o,X.base.get? b=some o->s.heap.get? b=some o/\H b=none:=fun b o e=>⟨I.base.keep b o (I.ok.bs b o e).1 (I.ok.bs b o e).2 (I.ok.nofr e) (I.ok.noex b o e),I.base.free b o (I.ok.bs b o e).1 (I.ok.bs b o e).2 (I.ok.noex b o e)⟩
theorem Inv.bk (I:Inv X tf σ H s):∀b o,X.base.get? b=some o->s.heap.get? b=some o:=fun b o e=>(I.bs b o e).1
theorem Inv.mod (I:Inv X tf σ H s):Mod X.K X.mg X.base:=I.ok.mod
theorem Inv.kIn (I:Inv X tf σ H s):X.K.In s.heap:=I.ok.mod.kin.keeps I.bk
theorem Inv.fr (I:Inv X tf σ H s):∃m,Fr X.base X.env.locals s.heap m:=
 let ⟨m,hn,_⟩:=I.loc
 ⟨m,hn,I.bk,YZ I.ok.bsz I.ok.above⟩
theorem Inv.lt (I:Inv X tf σ H s):X.env.locals<s.heap.objs.size:=let ⟨_,hn,_⟩:=I.loc;hn.lt
theorem Inv.sz (I:Inv X tf σ H s):X.s₀.heap.objs.size<=s.heap.objs.size:=YZ I.ok.above (yF I.lt)
theorem Inv.nofs (I:Inv X tf σ H s) {a:Addr} (h:s.heap.objs.size<=a):a∉X.fs:=fun hb=>by obtain ⟨_,o,ho,_⟩:=I.ok.funs.mem hb;exact absurd (Yj (Yu ho) (YZ I.sz h)) (YV _)
theorem Inv.cne (I:Inv X tf σ H s):∀x c,X.env.cells.lookup x=some c->c≠X.env.locals:=fun x c e z=>by obtain ⟨v,o,ho,hd⟩:=I.cell x c e;obtain ⟨m,⟨o',es,ep,ho',hd',_⟩,_⟩:=I.loc;rw [z,ho'] at ho;cases ho;rw [hd'] at hd;cases hd
theorem Inv.funs (I:Inv X tf σ H s):s.heap.FunFrames X.base X.outer:=by
 have all:∀(l:List Env),(∀b∈frs l,b∈X.fs)->X.s₀.heap.FunFrames X.base l->s.heap.FunFrames X.base l:=by
  intro l;induction l with
  | nil=>intro _ _;trivial
  | cons env r ih=>intro hs hl;obtain ⟨hk,⟨L,o,hf,hn,ho,hd⟩,hr⟩:=hl;have hL:L∈X.fs:=hs L (by unfold frs;rw [Ke,hf];exact Ye);obtain ⟨sl,e⟩:=I.base.slot L o ho (I.ok.frf L hL) hL fun z=>I.ok.exfs L z hL;exact ⟨hk,⟨L,_,hf,hn,e,hd⟩,ih (fun b hb=>hs b (by unfold frs;rw [Ke,hf];exact Yk _ hb)) hr⟩
 exact all X.outer (fun _ hb=>hb) I.ok.funs
theorem Inv.stack (I:Inv X tf σ H s):s.heap.FunFrames X.base X.stack:=by
 rcases I.ok.stk with e | ⟨e,hf⟩
 . rw [e];exact I.funs
 . rw [e];obtain ⟨m,hn,_⟩:=I.loc;refine .cons (by rw [I.ok.kind];decide) hf hn ?_ I.funs;exact Heap.get?_none_of_le (YZ I.ok.bsz I.ok.above)
theorem Inv.stkSub (I:Inv X tf σ H s):∀b∈frs X.stack,b∈X.env.locals::X.fs:=fun b hb=>by
 rcases I.ok.stk with e | ⟨e,hf⟩
 . rw [e] at hb;exact Yk _ hb
 . rw [e] at hb;unfold frs at hb;rw [Ke,hf] at hb;exact hb
theorem Inv.stkFree (I:Inv X tf σ H s):∀b∈frs X.stack,H b=none:=fun b hb=>by
 rcases Yl.mp (I.stkSub b hb) with e | hb
 . rw [e];exact I.free
 . obtain ⟨_,o,ho,_⟩:=I.ok.funs.mem hb;exact I.base.free b o ho (I.ok.frf b hb) fun z=>I.ok.exfs b z hb
theorem Inv.step {g':Array GenState} {t':Nat} {d':Drawn} {ch:List Addr} (I:Inv X tf σ H s)
 (hch:∀b∈ch,(b∈X.ex\/X.s₀.heap.objs.size<=b)/\b≠X.env.locals/\(∀x c,X.env.cells.lookup x=some c->c≠b)/\∀p∈X.pn++tf,p.1≠b)
 (keep:∀b o,b≠X.env.locals->b∉X.fs->b∉ch->s.heap.get? b=some o->H b=none->h'.get? b=some o)
 (slot:∀b o,b≠X.env.locals->b∈X.fs->b∉ch->s.heap.get? b=some o->H b=none->∃sl,h'.get? b=some { o with slots:=sl }) (free:∀b o,b∉ch->s.heap.get? b=some o->H b=none->H' b=none)
 (there:∀b o,b∉ch->s.heap.get? b=some o->∃o',h'.get? b=some o')
 (tups:∀b xs,H b=some (.tup xs)->H' b=some (.tup xs)) (frzs:∀b o u,H b=some (.frz o u)->H' b=some (.frz o u)) (tbls:∀b ps,H b=some (.tbl ps)->∃more,H' b=some (.tbl (ps++more)))
 (ns:∀m,s.heap.Ns X.env.locals m->h'.Ns X.env.locals m) (hok:HOk X.prog X.w H' h') (hg:AllBare g') :
 Inv X tf σ H' { s with heap:=h',gens:=g',drawn:=d',toks:=t' }:=by
 have neL:∀b o,X.s₀.heap.get? b=some o->b≠X.env.locals:=fun b o e=>Yr (Yj (Yu e) I.ok.above);have neC:∀b o,X.s₀.heap.get? b=some o->b∉X.ex->b∉ch:=fun b o e hx hb=>by
  rcases (hch b hb).1 with z | z
  . exact hx z
  . exact absurd (Yj (Yu e) z) (YV _)
 have cellK:∀x c,X.env.cells.lookup x=some c->∀v,s.heap.IsCell c v->h'.IsCell c v:=fun x c e v ⟨o,ho,hd⟩=>by
  have nch:c∉ch:=fun z=>(hch c z).2.2.1 x c e rfl;by_cases hc:c∈X.fs
  . obtain ⟨sl,q⟩:=slot c o (I.cne x c e) hc nch ho (I.freeC x c e);exact ⟨_,q,hd⟩
  . exact ⟨o,keep c o (I.cne x c e) hc nch ho (I.freeC x c e),hd⟩
 refine ⟨I.ok,I.os,hg,⟨fun b o e n hb hx=>?_,fun b o e n hb hx=>?_,fun b o e n hx=>?_,fun b o e hx=>?_,fun b xs e=>tups b xs (I.base.tups b xs e),fun b o xs e=>frzs b o xs (I.base.frzs b o xs e),fun b ps e=>?_⟩,?_,fun x c e=>?_,?_,fun x c e=>?_,fun p hp=>?_,hok,I.len⟩
 . exact keep b o (neL b o e) hb (neC b o e hx) (I.base.keep b o e n hb hx) (I.base.free b o e n hx)
 . obtain ⟨sl,e1⟩:=I.base.slot b o e n hb hx;obtain ⟨sl',e2⟩:=slot b _ (neL b o e) hb (neC b o e hx) e1 (I.base.free b o e n hx);exact ⟨sl',e2⟩
 . obtain ⟨o',e1⟩:=I.base.there b o e hx;exact free b o' (neC b o e hx) e1 (I.base.free b o e n hx)
 . obtain ⟨o',e1⟩:=I.base.there b o e hx;exact there b o' (neC b o e hx) e1
 . obtain ⟨m1,e1⟩:=I.base.tbls b ps e;obtain ⟨m2,e2⟩:=tbls b _ e1;exact ⟨m1++m2,by rw [e2,Array.append_assoc]⟩
 . obtain ⟨m,hn,hl⟩:=I.loc;refine ⟨m,ns m hn,fun i x v e1 e2 e3=>?_⟩;obtain ⟨u,r,l⟩:=hl i x v e1 e2 e3;refine ⟨u,r,?_⟩;rcases l with l | ⟨k,c,e,z⟩
   . exact .inl l
   . exact .inr ⟨k,c,e,cellK x c e _ z⟩
 . obtain ⟨v,z⟩:=I.cell x c e;exact ⟨v,cellK x c e v z⟩
 . obtain ⟨m,⟨o,_,_,ho,_⟩,_⟩:=I.loc;exact free _ o (fun z=>(hch _ z).2.1 rfl) ho I.free
 . obtain ⟨v,o,ho,hd⟩:=I.cell x c e;exact free c o (fun z=>(hch c z).2.2.1 x c e rfl) ho (I.freeC x c e)
 . obtain ⟨e,n,ne,nf,d⟩:=I.pin p hp;have nch:p.1∉ch:=fun z=>(hch p.1 z).2.2.2 p hp rfl;exact ⟨keep p.1 p.2 ne nf nch e n,free p.1 p.2 nch e n,ne,nf,d⟩
theorem Inv.un {t':Nat} (I:Inv X tf σ H s) (u:Un X.fs [] H H' s.heap h') (hok:HOk X.prog X.w H' h'):Inv X tf σ H' { s with heap:=h',toks:=t' }:=by
 obtain ⟨m,⟨o,es,ep,ho,r⟩,_⟩:=id I.loc;obtain ⟨sl,hL⟩:=u.any ho I.free (by simp);exact I.step (g':=s.gens) (d':=s.drawn) (ch:=[]) (fun _ z=>nomatch z) (fun b o _ hb _ e n=>u.keep b o e n hb (by simp)) (fun b o _ hb _ e n=>u.slot b o e n hb (by simp)) (fun b o _ e n=>u.free b o e n (by simp)) (fun b o _ e=>u.there b o e (by simp)) u.tups u.frzs u.tbls (fun m' hm=>by obtain ⟨o',es',ep',ho',r'⟩:=hm;rw [ho] at ho';cases ho';exact ⟨_,es',ep',hL,r'⟩) hok I.bare
theorem Inv.call {g':Array GenState} {t':Nat} {d':Drawn} {ch:List Addr} (I:Inv X tf σ H s) (u:Un (frs X.stack) ch H H' s.heap h') (hok:HOk X.prog X.w H' h') (hg:AllBare g')
 (hch:∀b∈ch,(b∈X.ex\/X.s₀.heap.objs.size<=b)/\b≠X.env.locals/\(∀x c,X.env.cells.lookup x=some c->c≠b)/\∀p∈X.pn++tf,p.1≠b) :
 Inv X tf σ H' { s with heap:=h',gens:=g',drawn:=d',toks:=t' }:=by
 obtain ⟨m,⟨o,es,ep,ho,r⟩,_⟩:=id I.loc;obtain ⟨sl,hL⟩:=u.any ho I.free fun z=>(hch _ z).2.1 rfl;exact I.step (ch:=ch) hch (fun b o hL hb hc e n=>u.keep b o e n (fun z=>(Yl.mp (I.stkSub b z)).elim hL hb) hc) (fun b o _ _ hc e n=>u.any e n hc) (fun b o hc e n=>u.free b o e n hc) (fun b o hc e=>u.there b o e hc) u.tups u.frzs u.tbls (fun m' hm=>by obtain ⟨o',es',ep',ho',r'⟩:=hm;rw [ho] at ho';cases ho';exact ⟨_,es',ep',hL,r'⟩) hok hg
theorem Inv.turned {t':Nat} {it:Addr} (I:Inv X tf σ H s) (k:∀b o,b≠it->s.heap.get? b=some o->h'.get? b=some o) (hn:H it=none) (hL:it≠X.env.locals)
 (h1:it∈X.ex\/X.s₀.heap.objs.size<=it) (h2:∀x c,X.env.cells.lookup x=some c->c≠it) (h3:∀p∈X.pn++tf,p.1≠it):Inv X tf σ H { s with heap:=h',toks:=t' }:=by
 have nit:∀b u,H b=some u->b≠it:=fun b u e z=>by rw [z,hn] at e;cases e
 refine I.step (g':=s.gens) (d':=s.drawn) (ch:=[it]) (fun b hb=>?_) (fun b o _ _ hc e _=>k b o (fun z=>hc (by simp [z])) e) (fun b o _ _ hc e _=>⟨o.slots,k b o (fun z=>hc (by simp [z])) e⟩) (fun _ _ _ _ n=>n)
  (fun b o hc e=>⟨o,k b o (fun z=>hc (by simp [z])) e⟩) (fun _ _ e=>e) (fun _ _ _ e=>e) (fun b ps e=>⟨#[],by rw [e];simp⟩) (fun m hm=>?_) (fun b u e=>?_) I.bare
 . have e:b=it:=by simpa using hb
   subst e;exact ⟨h1,hL,h2,h3⟩
 . obtain ⟨o,es,ep,ho,r⟩:=hm;exact ⟨o,es,ep,k _ o (Ne.symm hL) ho,r⟩
 . refine (I.hok b u e).stay (fun c v hc q=>k c v ?_ q) (fun _ q=>q) fun _ _ q=>q;rcases hc with z | z
   . rw [z];exact nit b u e
   . exact nit c _ z
theorem Inv.tok (I:Inv X tf σ H s) (t:Nat):Inv X tf σ H { s with toks:=t }:=I.un (h':=s.heap) (t':=t) Un.refl I.hok
theorem Inv.kept {t':Nat} (I:Inv X tf σ H s) (k:∀b u,s.heap.get? b=some u->h'.get? b=some u):Inv X tf σ H { s with heap:=h',toks:=t' }:=I.un (Un.kept k) (I.hok.kept k)
theorem Inv.laid {a:Addr} {o:HO} {t':Nat} (I:Inv X tf σ H s) (k:∀b u,s.heap.get? b=some u->h'.get? b=some u) (hp:s.heap.objs.size<=a) (new:ObjOk X.prog X.w (upd H a o) h' a o) :
 Inv X tf σ (upd H a o) { s with heap:=h',toks:=t' }:=I.un (Un.laid k hp (I.hok.fresh hp)) (I.hok.laid k hp new)
theorem Inv.write {x e:Addr} {o:HO} {t':Nat} (I:Inv X tf σ H s) (mu:Mut (H x)) (he:e=x\/H e=some (.own x)) (k:∀b u,b≠e->s.heap.get? b=some u->h'.get? b=some u) (heo:∃u,h'.get? e=some u)
 (new:ObjOk X.prog X.w (upd H x o) h' x o):Inv X tf σ (upd H x o) { s with heap:=h',toks:=t' }:=I.un (Un.write mu he k heo) (I.hok.write mu he k heo new)
theorem Inv.weak {σ':List (Option V)} (I:Inv X tf σ H s) (hl:σ'.length=σ.length) (w:∀(i:Nat) v,σ'[i]?=some (some v)->σ[i]?=some (some v)):Inv X tf σ' H s:=⟨I.ok,I.os,I.bare,I.base,let ⟨m,hn,hl'⟩:=I.loc;⟨m,hn,fun i x v e1 e2 e3=>hl' i x v e1 (w i v e2) e3⟩,I.cell,I.free,I.freeC,I.pin,I.hok,hl.trans I.len⟩
theorem Inv.pins_of {pins':List (Addr×Obj)} (I:Inv X tf σ H s) (h:∀p∈pins',s.heap.get? p.1=some p.2/\H p.1=none/\p.1≠X.env.locals/\p.1∉X.fs/\∀v,p.2.data≠.cell v):Inv X pins' σ H s:=⟨I.ok,I.os,I.bare,I.base,I.loc,I.cell,I.free,I.freeC,fun p hp=>(YL.mp hp).elim (fun z=>I.pin p (Ys _ z)) (h p),I.hok,I.len⟩
theorem Qe {N:List Str} (hN:N.Nodup) {i j:Nat} {x:Str} (a:N[i]?=some x) (b:N[j]?=some x):i=j:=by obtain ⟨h1,e1⟩:=Yi.mp a;obtain ⟨h2,e2⟩:=Yi.mp b;exact (List.getElem_inj hN).mp (e1.trans e2.symm)
theorem jdS {M:Model} {A:Around} {E:Value->Shared->Prop} {i:Nat} {x:Str} {v:V} {u:Value} {Q:Unit->Shared->Prop} (I:Inv X tf σ H s) (hN:X.N.Nodup) (hi:X.N[i]?=some x) (hx:Loc X.env.scope x) (r:RelV v u)
 (h:∀s',Inv X tf (σ.set i (some v)) H s'->(∃a,Heap.SameBut a s.heap s'.heap/\(a=X.env.locals\/X.env.cells.lookup x=some a))->Q () s') (hf:autoParam ‹"C"› QA.a0._auto_1):wpAny M A (storeName X.env x u) Q E s:=by
 obtain ⟨m,hn,hl⟩:=id I.loc;have hcls:(X.env.scope.kind == .class || (X.env.scope.kind == .module && X.env.locals != X.env.globals))=false:=by rw [I.ok.kind];rfl
 have hiσ:i<σ.length:=by rw [I.len];exact (Yi.mp hi).1
 have cne:=I.cne;have tracked:∀{a:Addr} {h':Heap},(∃o,s.heap.get? a=some o/\H a=none)->Heap.SameBut a s.heap h'->HOk X.prog X.w H h':=fun {a h'} ha hs b ob e=>by
  obtain ⟨_,_,hfree⟩:=ha;refine (I.hok b ob e).stay (fun c w' hc q=>(hs.2 c ?_).trans q) (fun _ q=>q) fun _ _ q=>q;rintro rfl;rcases hc with rfl | hc
  . rw [hfree] at e;cases e
  . rw [hfree] at hc;cases hc
 rcases hx with hk | hk
 . refine wpAny_storeName_local hk hn (fun h' hn' hs=>?_) hcls;obtain ⟨oL,_,_,hoL,_⟩:=id hn;refine h _ ⟨I.ok,I.os,I.bare,⟨fun b o e n hb hx=>?_,fun b o e n hb hx=>?_,I.base.free,fun b o e hx=>?_,I.base.tups,I.base.frzs,I.base.tbls⟩,⟨_,hn',fun j y v' e1 e2 e3=>?_⟩,fun y c e=>?_,I.free,I.freeC,fun p hp=>?_,tracked ⟨oL,hoL,I.free⟩ hs,by simpa using I.len⟩ ⟨_,hs,.inl rfl⟩
   . exact (hs.2 b (Yr (Yj (Yu e) I.ok.above))).trans (I.base.keep b o e n hb hx)
   . obtain ⟨sl,e1⟩:=I.base.slot b o e n hb hx;exact ⟨sl,(hs.2 b (Yr (Yj (Yu e) I.ok.above))).trans e1⟩
   . obtain ⟨o',e1⟩:=I.base.there b o e hx;exact ⟨o',(hs.2 b (Yr (Yj (Yu e) I.ok.above))).trans e1⟩
   . by_cases hj:j=i
     . subst hj;rw [hi] at e1;cases e1;rw [Y2 hiσ] at e2;cases e2;exact ⟨u,r,.inl ⟨hk,by simp⟩⟩
     . rw [YM (Ne.symm hj)] at e2;obtain ⟨u',r',q⟩:=hl j y v' e1 e2 e3;refine ⟨u',r',?_⟩;rcases q with ⟨k,e⟩ | ⟨k,c,e,z⟩
       . refine .inl ⟨k,?_⟩;have:y≠x:=fun e=>hj (Qe hN e1 (e ▸ hi));simp [this,e]
       . exact .inr ⟨k,c,e,z.sameBut hs (cne y c e)⟩
   . obtain ⟨w',z⟩:=I.cell y c e;exact ⟨w',z.sameBut hs (cne y c e)⟩
   . obtain ⟨e,n,ne,nf,d⟩:=I.pin p hp;exact ⟨(hs.2 p.1 ne).trans e,n,ne,nf,d⟩
 . have hfn:X.fn x=true:=by
    rcases hf with z | z
    . exact z
    . rw [z] at hk;cases hk
   obtain ⟨c,hc⟩:=I.ok.has x (.inl hk);obtain ⟨w',z⟩:=I.cell x c hc;refine wpAny_storeName_cell I.ok.kind hk hc z (fun h' hc' hs=>?_);obtain ⟨oc,hoc,hocd⟩:=id z;refine h { s with heap:=h' } ⟨I.ok,I.os,I.bare,⟨fun b o e n hb hx=>?_,fun b o e n hb hx=>?_,I.base.free,fun b o e hx=>?_,I.base.tups,I.base.frzs,I.base.tbls⟩,⟨m,hn.sameBut hs (Ne.symm (cne x c hc)),fun j y v' e1 e2 e3=>?_⟩,fun y c' e=>?_,I.free,I.freeC,fun p hp=>?_,tracked ⟨oc,hoc,I.freeC x c hc⟩ hs,by simpa using I.len⟩ ⟨c,hs,.inr hc⟩
   . exact (hs.2 b (Yr (Yj (Yu e) (I.ok.cab x c hfn hc)))).trans (I.base.keep b o e n hb hx)
   . obtain ⟨sl,e1⟩:=I.base.slot b o e n hb hx;exact ⟨sl,(hs.2 b (Yr (Yj (Yu e) (I.ok.cab x c hfn hc)))).trans e1⟩
   . obtain ⟨o',e1⟩:=I.base.there b o e hx;exact ⟨o',(hs.2 b (Yr (Yj (Yu e) (I.ok.cab x c hfn hc)))).trans e1⟩
   . by_cases hj:j=i
     . subst hj;rw [hi] at e1;cases e1;rw [Y2 hiσ] at e2;cases e2;exact ⟨u,r,.inr ⟨.inl hk,c,hc,hc'⟩⟩
     . rw [YM (Ne.symm hj)] at e2;obtain ⟨u',r',q⟩:=hl j y v' e1 e2 e3;refine ⟨u',r',?_⟩;rcases q with q | ⟨k,c',e,z'⟩
       . exact .inl q
       . refine .inr ⟨k,c',e,z'.sameBut hs ?_⟩;rintro rfl;exact hj (Qe hN e1 (I.ok.inj _ _ _ e hc ▸ hi))
   . by_cases hcc:c'=c
     . subst hcc;exact ⟨_,hc'⟩
     . obtain ⟨w2,z2⟩:=I.cell y c' e;exact ⟨w2,z2.sameBut hs hcc⟩
   . obtain ⟨e,n,ne,nf,d⟩:=I.pin p hp;refine ⟨(hs.2 p.1 ?_).trans e,n,ne,nf,d⟩;intro q;rw [q,hoc] at e;have q':oc=p.2:=Option.some.inj e;exact d w' (by rw [<-q'];exact hocd)
theorem jdb {M:Model} {A:Around} {E:Value->Shared->Prop} {i:Nat} {x:Str} {v:V} {u:Value} {Q:Unit->Shared->Prop} (I:Inv X tf σ H s) (hN:X.N.Nodup) (hi:X.N[i]?=some x) (hx:Loc X.env.scope x) (r:RelV v u)
 (h:∀s',Inv X tf (σ.set i (some v)) H s'->Q () s') (hf:autoParam ‹"C"› QA.a0._auto_1):wpAny M A (storeName X.env x u) Q E s:=
 jdS I hN hi hx r (fun s' I' _=>h s' I') hf
theorem Inv.call' {s':Shared} {ch:List Addr} (I:Inv X tf σ H s) (ho:s'.os=s.os) (u:Un (frs X.stack) ch H H' s.heap s'.heap) (hok:HOk X.prog X.w H' s'.heap) (hg:AllBare s'.gens)
 (hch:∀b∈ch,(b∈X.ex\/X.s₀.heap.objs.size<=b)/\b≠X.env.locals/\(∀x c,X.env.cells.lookup x=some c->c≠b)/\∀p∈X.pn++tf,p.1≠b):Inv X tf σ H' s':=by
 obtain ⟨h',g',d',t',o'⟩:=s';have e:o'=s.os:=ho;subst e;exact I.call (g':=g') (t':=t') (d':=d') u hok hg hch
end
abbrev XK:=Value->Option Addr->Hp->Prop
abbrev St:=List (Option V)
abbrev VK:=V->Hp->Prop
abbrev TE:=St->Hp->VK->Prop
abbrev TT:=St->Hp->(Bool->Hp->Prop)->Prop
abbrev TA:=St->Hp->(List V->Hp->Prop)->Prop
structure Ends where
 nx:St->Hp->Prop
 rt:VK
 bk:St->Hp->Prop:=fun _ _=>False
 ct:St->Hp->Prop:=fun _ _=>False
abbrev TS:=Ends->St->Hp->Prop
def EP (X:Cx) (tf:List (Addr×Obj)) (σ:St) (Q:VK) (u:Value) (s':Shared):Prop:=∃v H',Inv X tf σ H' s'/\RelV v u/\Q v H'
def TP (X:Cx) (tf:List (Addr×Obj)) (σ:St) (Q:Bool->Hp->Prop) (b:Bool) (s':Shared):Prop:=∃H',Inv X tf σ H' s'/\Q b H'
def AP (X:Cx) (tf:List (Addr×Obj)) (σ:St) (Q:List V->Hp->Prop) (us:List Value) (s':Shared):Prop:=∃vs H',Inv X tf σ H' s'/\Vals vs us/\Q vs H'
def SP (X:Cx) (tf:List (Addr×Obj)) (D:Ends) (f:Flow) (s':Shared):Prop:=
 match f with
 | .next=>∃σ' H',Inv X tf σ' H' s'/\D.nx σ' H'
 | .brk=>∃σ' H',Inv X tf σ' H' s'/\D.bk σ' H'
 | .cont=>∃σ' H',Inv X tf σ' H' s'/\D.ct σ' H'
 | .ret u=>∃v σ' H',Inv X tf σ' H' s'/\RelV v u/\D.rt v H'
def PE (X:Cx) (e:Expr) (t:TE):Prop:=∀(tf:List (Addr×Obj)) (s:Shared) (σ:St) (H:Hp) (Q:VK),Inv X tf σ H s->t σ H Q->wpAny ‹"c"› X.A (eval e X.env) (EP X tf σ Q) X.xe s
def PT (X:Cx) (e:Expr) (t:TT):Prop:=∀(tf:List (Addr×Obj)) (s:Shared) (σ:St) (H:Hp) (Q:Bool->Hp->Prop),Inv X tf σ H s->t σ H Q->wpAny ‹"c"› X.A (isTrue e X.env (eval e X.env)) (TP X tf σ Q) X.xe s
def PW (X:Cx) (e:Expr) (t:TT):Prop:=∀(whole:Sem Value) (tf:List (Addr×Obj)) (s:Shared) (σ:St) (H:Hp) (Q:Bool->Hp->Prop),Inv X tf σ H s->t σ H Q->wpAny ‹"c"› X.A (isTrue e X.env whole) (TP X tf σ Q) X.xe s
theorem PW.pt {X:Cx} {e:Expr} {t:TT} (h:PW X e t):PT X e t:=h _
def PA (X:Cx) (es:List Expr) (t:TA):Prop:=∀(pos:Pos) (tf:List (Addr×Obj)) (s:Shared) (σ:St) (H:Hp) (Q:List V->Hp->Prop),Inv X tf σ H s->t σ H Q->wpAny ‹"c"› X.A (spliced (backTo pos (starEach es X.env))) (AP X tf σ Q) X.xe s
def PS (X:Cx) (st:Stmt) (t:TS):Prop:=∀(tf:List (Addr×Obj)) (s:Shared) (σ:St) (H:Hp) (D:Ends),Inv X tf σ H s->t D σ H->wpAny ‹"c"› X.A (exec st X.env) (SP X tf D) X.xe s
def PSs (X:Cx) (st:List Stmt) (t:TS):Prop:=∀(tf:List (Addr×Obj)) (s:Shared) (σ:St) (H:Hp) (D:Ends),Inv X tf σ H s->t D σ H->wpAny ‹"c"› X.A (execs st X.env) (SP X tf D) X.xe s
theorem qt {α:Type} {t:Sem α} {Q Q':α->Shared->Prop} {M:Model} {A:Around} {E:Value->Shared->Prop} {s:Shared} (h:wpAny M A t Q E s) (hQ:∀a s,Q a s->Q' a s):wpAny M A t Q' E s:=ye h hQ fun _ _ x=>x
end L2
namespace L2
open PySem PySem.Spec PyProof.Rows
section
variable {X:Cx}
theorem bin {a b:Expr} {ta tb:TE} (ha:PE X a ta) (hb:PE X b tb) {tf:List (Addr×Obj)} {s:Shared} {σ:St} {H:Hp} {R:V->V->Hp->Prop} (I:Inv X tf σ H s) (h:ta σ H fun x H1=>tb σ H1 fun y H2=>R x y H2)
 {α:Type} {Q:α->Shared->Prop} {f:Value->Value->Sem α}
 (hf:∀v u s2 x y H2,Inv X tf σ H2 s2->RelV x v->RelV y u->R x y H2->wpAny ‹"c"› X.A (f v u) Q X.xe s2) :
 wpAny ‹"c"› X.A (eval a X.env) ‹"aO"› X.xe s:=by
 refine qt ‹"W"› fun v s1 zz=>?_;obtain ⟨x,H1,I1,r1,q1⟩:=zz;refine qt (hb tf s1 σ H1 _ I1 q1) fun u s2 zz=>?_;obtain ⟨y,H2,I2,r2,q2⟩:=zz;exact hf v u s2 x y H2 I2 r1 r2 q2
def je1 (i:Nat):TE:=fun σ H Q=>∃v,σ[i]?=some (some v)/\Q v H
def tC (v:V):TE:=fun _ H Q=>Q v H
theorem Za {i:Nat} {x:Str} {pos:Pos} (hN:X.N[i]?=some x) (hv:Vis X.env.scope x) (hd:‹"p"›=false:=by decide) (hcd:(x == ("__classdict__":Str))=false:=by decide):PE X (.Name x pos) (je1 i):=by
 intro tf s σ H Q I h;obtain ⟨v,e,h⟩:=h;obtain ⟨m,hn,hl⟩:=I.loc;obtain ⟨u,r,l⟩:=hl i x v hN e hv;have fin:EP X tf σ Q u s:=⟨v,H,I,r,h⟩;rcases l with ⟨hk,hm⟩ | ⟨hk,c,hc,hcell⟩
 . exact wpAny_Name (wpAny_loadName_local I.ok.kind hk hn hm fin) hd
 . rcases hk with hk | hk
   . exact wpAny_Name (wpAny_loadName_cell I.ok.kind hk hc hcell fin) hd
   . exact wpAny_Name (wpAny_loadName_free I.ok.kind hk hc hcell fin hcd) hd
theorem joQ {i j pos}:PE X (.Constant (.int i) j pos) (tC (.int i)):=fun _ _ _ H _ I h=>wpAny_Constant_int ⟨.int i,H,I.tok _,⟨_,rfl⟩,h⟩
theorem jqy {b j pos}:PE X (.Constant (.bool b) j pos) (tC (.bl b)):=fun _ _ _ H _ I h=>Constant_bool ⟨.bl b,H,I,rfl,h⟩
theorem jpK {j pos}:PE X (.Constant .none j pos) (tC .non):=fun _ _ _ H _ I h=>Constant_none ⟨.non,H,I,rfl,h⟩
def Gl (X:Cx) (x:Str):Prop:=X.env.kindOf x=some .globalImplicit
theorem jhY {E:Value->Shared->Prop} {tf:List (Addr×Obj)} {s:Shared} {σ:St} {H:Hp} {x:Str} {u:Value} {pos:Pos} {Q:Value->Shared->Prop} (I:Inv X tf σ H s) (hg:Gl X x) (hm:X.mg x=some u) (h:Q u s)
 (hd:‹"p"›=false:=by decide):wpAny ‹"c"› X.A (eval (.Name x pos) X.env) Q E s:=
 Calls.Name_function_global I.ok.kind hg (Calls.loadGlobal_global (by rw [I.ok.glob];exact I.mod.glob.keeps I.bk) hm h) hd
theorem JR {E:Value->Shared->Prop} {tf:List (Addr×Obj)} {s:Shared} {σ:St} {H:Hp} {x:Str} {u:Value} {pos:Pos} {Q:Value->Shared->Prop} (I:Inv X tf σ H s) (hg:Gl X x) (hm:X.mg x=none) (hv:bootBuiltins x=some u) (h:Q u s)
 (hn:x ≠ "__name__":=by decide) (hd:‹"p"›=false:=by decide):wpAny ‹"c"› X.A (eval (.Name x pos) X.env) Q E s:=by
 obtain ⟨mb,h1,h2⟩:=I.mod.blt;exact Calls.Name_function_global I.ok.kind hg (Calls.loadGlobal_builtin (by rw [I.ok.glob];exact I.mod.glob.keeps I.bk) hm (by rw [I.ok.blt];exact h1.keeps I.bk) ((h2 x hn).trans hv) h) hd
theorem jmI {x:Str} {v:V} {u:Value} {pos:Pos} (hg:Gl X x) (hm:X.mg x=some u) (r:RelV v u) (hd:‹"p"›=false:=by decide):PE X (.Name x pos) (tC v):=fun _ _ _ H _ I h=>jhY I hg hm ⟨v,H,I,r,h⟩ hd
theorem jmO {x:Str} {v:V} {u:Value} {pos:Pos} (hg:Gl X x) (hm:X.mg x=none) (hv:bootBuiltins x=some u) (r:RelV v u) (hn:x ≠ "__name__":=by decide) (hd:‹"p"›=false:=by decide):PE X (.Name x pos) (tC v):=fun _ _ _ H _ I h=>JR I hg hm hv ⟨v,H,I,r,h⟩ hn hd
variable {a b:Expr} {ta tb:TE} {pos:Pos}
def PC (X:Cx) (op:CmpOp) (a b:Expr) (t:TE):Prop:=
 ∀(tf:List (Addr×Obj)) (s:Shared) (σ:St) (H:Hp) (Q:VK),Inv X tf σ H s->t σ H Q->
   wpAny ‹"c"› X.A (eval a X.env) (fun v s₁=>wpAny ‹"c"› X.A (eval b X.env) (fun u s₂=>wpAny ‹"c"› X.A (compareOp op v u) (EP X tf σ Q) X.xe s₂) X.xe s₁) X.xe s
theorem nobehind (b:Expr) {op:CmpOp} (h:op≠.In) (h2:op≠.NotIn):behindInMarks op b=false:=by
 have e1:(op == CmpOp.In)=false:=by cases op <;> first | rfl | exact absurd rfl h
 have e2:(op == CmpOp.NotIn)=false:=by cases op <;> first | rfl | exact absurd rfl h2
 cases b <;> simp [behindInMarks,e1,e2]
def jq6 (ta:TE):TE:=fun σ H Q=>ta σ H fun x H1=>Q (.bl (decide (x=.non))) H1
def jnz (ta:TE):TE:=fun σ H Q=>ta σ H fun x H1=>Q (.bl (!decide (x=.non))) H1
theorem RelV.none_iff {x:V} {v:Value} (r:RelV x v):(v == Value.none)=decide (x=.non):=by
 cases x with
 | non=>cases r;rfl
 | bl _=>cases r;rfl
 | int _=>obtain ⟨t,rfl⟩:=r;rfl
 | str _=>obtain ⟨t,rfl⟩:=r;rfl
 | byt _=>obtain ⟨t,rfl⟩:=r;rfl
 | flt _=>obtain ⟨t,rfl⟩:=r;rfl
 | ref _=>cases r;rfl
 | ty _=>cases r;rfl
theorem jpO {j pos'} (ha:PE X a ta):PC X .Is a (.Constant .none j pos') (jq6 ta):=by intro tf s σ H Q I h;refine qt ‹"W"› fun v s1 zz=>?_;obtain ⟨x,H1,I1,r1,q1⟩:=zz;exact Constant_none (is_none_gen ⟨.bl _,H1,I1,by rw [r1.none_iff];rfl,q1⟩)
theorem jme {j pos'} (ha:PE X a ta):PC X .IsNot a (.Constant .none j pos') (jnz ta):=by intro tf s σ H Q I h;refine qt ‹"W"› fun v s1 zz=>?_;obtain ⟨x,H1,I1,r1,q1⟩:=zz;exact Constant_none (isnot_none_gen ⟨.bl _,H1,I1,by rw [r1.none_iff];rfl,q1⟩)
def tB (t:TE):TT:=fun σ H Q=>t σ H fun x H1=>∃c,x=.bl c/\Q c H1
theorem jlt {op:CmpOp} {t:TE} (h:PC X op a b t) (h1:autoParam (behindInMarks op b=false) QA.a2._auto_1):PT X (.Compare a [op] [b] pos) (tB t):=by intro tf s σ H Q I hw;refine wpAny_isTrue_Compare1 (qt (h tf s σ H _ I hw) fun v s1 h1=>qt h1 fun u s2 h2=>qt h2 fun c s3 zz=>?_) h1;obtain ⟨x,H1,I1,r1,q1⟩:=zz;obtain ⟨d,rfl,q⟩:=q1;cases r1;exact yk ⟨H1,I1,q⟩
theorem jpf {e:Expr} {t:TE} (h:PE X e t) (he:∀whole,isTrue e X.env whole=(do let v <- whole;standAt e.pos;holding [v] (truthy v)):=by intro _;rfl):PT X e (tB t):=by intro tf s σ H Q I hw;refine isTrue_plain (qt (h tf s σ H _ I hw) fun v s1 zz=>?_) (he _);obtain ⟨x,H1,I1,r1,q1⟩:=zz;obtain ⟨d,rfl,q⟩:=q1;cases r1;exact yk ⟨H1,I1,q⟩
variable {tA tB':TT} {rest:List Expr}
def jqJ (t u:TT):TT:=fun σ H Q=>t σ H fun c H1=>if c=true then u σ H1 Q else Q false H1
def tOr (t u:TT):TT:=fun σ H Q=>t σ H fun c H1=>if c=true then Q true H1 else u σ H1 Q
def jqd (t:TT):TT:=fun σ H Q=>t σ H fun c H1=>Q (!c) H1
theorem jmS (ha:PT X a tA):PW X (.BoolOp .And [a] pos) tA:=by
 intro wh tf s σ H Q I h;refine isTrue_and (qt (ha tf s σ H Q I h) fun c s1 e=>?_);cases c with
 | true=>exact isTrue_and_nil e
 | false=>exact e
theorem jpe (ha:PT X a tA):PW X (.BoolOp .Or [a] pos) tA:=by
 intro wh tf s σ H Q I h;refine isTrue_or (qt (ha tf s σ H Q I h) fun c s1 e=>?_);cases c with
 | false=>exact isTrue_or_nil e
 | true=>exact e
theorem jo6 (ha:PT X a tA) (hb:PW X (.BoolOp .And (b::rest) pos) tB'):PW X (.BoolOp .And (a::b::rest) pos) (jqJ tA tB'):=by
 intro wh tf s σ H Q I h;refine isTrue_and (qt ‹"W"› fun c s1 zz=>?_);obtain ⟨H1,I1,q1⟩:=zz;cases c with
 | true=>exact hb wh tf s1 σ H1 Q I1 q1
 | false=>exact ⟨H1,I1,q1⟩
theorem jrD (ha:PT X a tA) (hb:PW X (.BoolOp .Or (b::rest) pos) tB'):PW X (.BoolOp .Or (a::b::rest) pos) (tOr tA tB'):=by
 intro wh tf s σ H Q I h;refine isTrue_or (qt ‹"W"› fun c s1 zz=>?_);obtain ⟨H1,I1,q1⟩:=zz;cases c with
 | true=>exact ⟨H1,I1,q1⟩
 | false=>exact hb wh tf s1 σ H1 Q I1 q1
theorem joO (ha:PT X a tA):PT X (.UnaryOp .Not a pos) (jqd tA):=by intro tf s σ H Q I h;exact isTrue_not (ha tf s σ H (fun c H1=>Q (!c) H1) I h)
def jnp (ta tb:TE):TE:=fun σ H Q=>ta σ H fun x H1=>∃c,x=.bl c/\if c=true then tb σ H1 Q else Q (.bl false) H1
def jnM (ta:TE):TE:=fun σ H Q=>ta σ H fun x H1=>∃c,x=.bl c/\Q (.bl (!c)) H1
theorem jpN {op} {t:TE} (h:PE X a t):PE X (.BoolOp op [a] pos) t:=fun tf s σ H Q I hw=>BoolOp_one (h tf s σ H Q I hw)
theorem jpc (ha:PE X a ta) (hb:PE X (.BoolOp .And (b::rest) pos) tb):PE X (.BoolOp .And (a::b::rest) pos) (jnp ta tb):=by
 intro tf s σ H Q I h;refine BoolOp_and (qt ‹"W"› fun v s1 zz=>?_);obtain ⟨x,H1,I1,r1,q1⟩:=zz;obtain ⟨c,rfl,q1⟩:=q1;cases r1;refine yk ?_;cases c with
 | true=>exact hb tf s1 σ H1 Q I1 q1
 | false=>exact ⟨.bl false,H1,I1,rfl,q1⟩
theorem jpi (ha:PE X a ta):PE X (.UnaryOp .Not a pos) (jnM ta):=by intro tf s σ H Q I h;refine UnaryOp_ (qt ‹"W"› fun v s1 zz=>?_);obtain ⟨x,H1,I1,r1,q1⟩:=zz;obtain ⟨c,rfl,q1⟩:=q1;cases r1;exact not_of (yk ⟨.bl (!c),H1,I1,rfl,q1⟩)
def tIf (t:TT) (ta tb:TE):TE:=fun σ H Q=>t σ H fun c H1=>if c=true then ta σ H1 Q else tb σ H1 Q
theorem jlp {c:Expr} (hc:PT X c tA) (ha:PE X a ta) (hb:PE X b tb):PE X (.IfExp c a b pos) (tIf tA ta tb):=by
 intro tf s σ H Q I h;refine wpAny_IfExp (qt (hc tf s σ H _ I h) fun d s1 zz=>?_);obtain ⟨H1,I1,q1⟩:=zz;cases d with
 | true=>exact ha tf s1 σ H1 Q I1 q1
 | false=>exact hb tf s1 σ H1 Q I1 q1
end
end L2
namespace L2
open PySem PySem.Spec PyProof.Rows
def Jc (K:PySem.W.Frag) (H:Hp) (a:Addr) (xs:List V):Prop:=
 Rd H a (.lst xs) \/
   ∃(o:Obj) (tF:Array Value) (n:Nat),K.lookup a=some o ∧ o.cls=.type "list" ∧ o.dict=none ∧ o.data=.seq tF n ∧ tF.size ≤ sizeLine ∧ Vals xs tF.toList
def SqT (K:PySem.W.Frag) (H:Hp) (a:Addr) (xs:List V):Prop:=
 Rd H a (.tup xs) \/
   ∃(o:Obj) (tF:Array Value) (n:Nat),K.lookup a=some o ∧ o.cls=.type "tuple" ∧ o.data=.seq tF n ∧ tF.size ≤ sizeLine ∧ Vals xs tF.toList
def jsg:Value->Option V
 | .none=>some .non
 | .bool b=>some (.bl b)
 | .int i _=>some (.int i)
 | .str x _=>some (.str x)
 | .bytes b _=>some (.byt b)
 | .float b _=>some (.flt b)
 | .ref a=>some (.ref a)
 | .type n=>some (.ty n)
 | _=>none
theorem RelV.abs {x:V} {u:Value} (r:RelV x u):jsg u=some x:=by
 cases x with
 | non=>cases r;rfl
 | bl _=>cases r;rfl
 | int _=>obtain ⟨t,rfl⟩:=r;rfl
 | str _=>obtain ⟨t,rfl⟩:=r;rfl
 | byt _=>obtain ⟨t,rfl⟩:=r;rfl
 | flt _=>obtain ⟨t,rfl⟩:=r;rfl
 | ref _=>cases r;rfl
 | ty _=>cases r;rfl
theorem RelV.inj {x y:V} {u:Value} (r:RelV x u) (q:RelV y u):x=y:=Option.some.inj (r.abs.symm.trans q.abs)
theorem Vals.inj:∀{xs ys:List V} {us:List Value},Vals xs us->Vals ys us->xs=ys:=fun {xs ys us} h=>by
 induction h generalizing ys with
 | nil=>intro h;cases h;rfl
 | cons r _ ih=>intro h;cases h with | cons q t=>rw [r.inj q,ih t]
section
variable {X:Cx} {tf:List (Addr×Obj)} {σ:St} {H:Hp} {s:Shared} {a:Addr} {xs ys:List V}
theorem SqT.of {K:PySem.W.Frag} (h:H a=some (.tup xs)):SqT K H a xs:=.inl (.inl h)
theorem Inv.list (I:Inv X tf σ H s) (h:Jc X.K H a xs):∃tF:List Value,Vals xs tF/\PlainL s.heap a tF.toArray/\xs.length<=sizeLine:=by
 rcases h with h | ⟨o,tF,n,hk,hc,hd,hs,hz,r⟩
 . obtain ⟨z,tF,n,r,e⟩:=h.ok I.hok;exact ⟨tF,r,⟨_,n,e,rfl,rfl,rfl⟩,z⟩
 . refine ⟨tF.toList,r,⟨o,n,I.kIn a o hk,hc,hd,by simpa using hs⟩,?_⟩;have e:=r.length;simp only [YU] at e;omega
theorem Inv.tuple (I:Inv X tf σ H s) (h:SqT X.K H a xs):∃tF:List Value,Vals xs tF/\IsTup s.heap a tF.toArray/\xs.length<=sizeLine:=by
 rcases h with h | ⟨o,tF,n,hk,hc,hs,hz,r⟩
 . obtain ⟨z,tF,r,p⟩:=h.ok I.hok;exact ⟨tF,r,p,z⟩
 . refine ⟨tF.toList,r,⟨o,I.kIn a o hk,hc,n,by simpa using hs⟩,?_⟩;have e:=r.length;simp only [YU] at e;omega
theorem Inv.list_inj (I:Inv X tf σ H s) (h:Jc X.K H a xs) (h':Jc X.K H a ys):xs=ys:=by
 obtain ⟨tF,r,⟨o,n,e,_,_,d⟩,_⟩:=I.list h;obtain ⟨its',r',⟨o',n',e',_,_,d'⟩,_⟩:=I.list h';rw [e] at e';cases e';rw [d] at d';injection d' with d1 _;have:tF=its':=by simpa using congrArg Array.toList d1
 subst this;exact r.inj r'
theorem Inv.tuple_inj (I:Inv X tf σ H s) (h:SqT X.K H a xs) (h':SqT X.K H a ys):xs=ys:=by
 obtain ⟨tF,r,⟨o,e,_,n,d⟩,_⟩:=I.tuple h;obtain ⟨its',r',⟨o',e',_,n',d'⟩,_⟩:=I.tuple h';rw [e] at e';cases e';rw [d] at d';injection d' with d1 _;have:tF=its':=by simpa using congrArg Array.toList d1
 subst this;exact r.inj r'
end
abbrev Cx.wish (X:Cx) (E:Value->Shared->Prop):Cx:={ X with xe:=E }
abbrev Cx.nox (X:Cx):Cx:=X.wish fun _ _=>False
theorem Cx.Ok.wish {X:Cx} (ok:X.Ok) (E:Value->Shared->Prop):(X.wish E).Ok:=⟨ok.mod,ok.kind,ok.glob,ok.blt,ok.above,ok.inj,ok.has,ok.cab,ok.hd,ok.frames,ok.stk,ok.exf,ok.bs,ok.bsz,ok.noex,ok.exfs,ok.funs,ok.frf⟩
theorem Cx.Ok.unwish {X:Cx} {E:Value->Shared->Prop} (ok:(X.wish E).Ok):X.Ok:=⟨ok.mod,ok.kind,ok.glob,ok.blt,ok.above,ok.inj,ok.has,ok.cab,ok.hd,ok.frames,ok.stk,ok.exf,ok.bs,ok.bsz,ok.noex,ok.exfs,ok.funs,ok.frf⟩
section
variable {X:Cx} {tf:List (Addr×Obj)} {σ:St} {H:Hp} {s:Shared} {E:Value->Shared->Prop}
theorem Inv.wish (I:Inv X tf σ H s) (E:Value->Shared->Prop):Inv (X.wish E) tf σ H s:=⟨I.ok.wish E,I.os,I.bare,I.base,I.loc,I.cell,I.free,I.freeC,I.pin,I.hok,I.len⟩
theorem Inv.unwish (I:Inv (X.wish E) tf σ H s):Inv X tf σ H s:=⟨I.ok.unwish,I.os,I.bare,I.base,I.loc,I.cell,I.free,I.freeC,I.pin,I.hok,I.len⟩
theorem SP.unwish {D:Ends} {f:Flow} {s':Shared} (h:SP (X.wish E) tf D f s'):SP X tf D f s':=by
 cases f with
 | next=>obtain ⟨σ',H',I,q⟩:=h;exact ⟨σ',H',I.unwish,q⟩
 | brk=>obtain ⟨σ',H',I,q⟩:=h;exact ⟨σ',H',I.unwish,q⟩
 | cont=>obtain ⟨σ',H',I,q⟩:=h;exact ⟨σ',H',I.unwish,q⟩
 | ret u=>obtain ⟨v,σ',H',I,r,q⟩:=h;exact ⟨v,σ',H',I.unwish,r,q⟩
theorem PSs.nox {st:List Stmt} {t:TS} (h:PSs X.nox st t):PSs X st t:=fun tf s σ H D I hw=>ye (h tf s σ H D (I.wish _) hw) (fun _ _ q=>q.unwish) fun _ _ z=>False.elim z
end
section
variable {X:Cx} {st:Stmt} {rest:List Stmt} {t u:TS} {e:Expr} {te:TE} {pos:Pos}
def jnt:TS:=fun D σ H=>D.nx σ H
def jqp (t u:TS):TS:=fun D σ H=>t { D with nx:=u D } σ H
theorem jmK:PSs X [] jnt:=fun _ _ σ H _ I h=>K2 ⟨σ,H,I,h⟩
theorem jj2 (h1:PS X st t) (h2:PSs X rest u):PSs X (st::rest) (jqp t u):=by
 intro tf s σ H D I h;refine wpAny_execs_cons (qt (h1 tf s σ H { D with nx:=u D } I h) fun f s1 q=>?_);cases f with
 | next=>obtain ⟨σ',H',I',q⟩:=q;exact h2 tf s1 σ' H' D I' q
 | ret v=>exact q
 | brk=>exact q
 | cont=>exact q
theorem jmB (h1:PS X st t):PSs X [st] t:=by
 intro tf s σ H D I h;refine wpAny_execs_cons (qt (h1 tf s σ H D I h) fun f s1 q=>?_);cases f with
 | next=>exact K2 q
 | ret v=>exact q
 | brk=>exact q
 | cont=>exact q
theorem Inv.quiet {tf:List (Addr×Obj)} {σ:St} {H:Hp} {s:Shared} (I:Inv X tf σ H s):interactive X.env=false:=by simp [interactive,I.ok.kind]
def jlc (te:TE):TS:=fun D σ H=>te σ H fun _ H1=>D.nx σ H1
theorem jhE (he:PE X e te) (hs:swapsWith e none pos.line X.env=pure false:=by rfl):PS X (.Expr e pos) (jlc te):=by intro tf s σ H D I h;exact wpAny_Expr_any (qt (he tf s σ H _ I h) fun v s1 ⟨x,H1,I1,r1,q1⟩=>⟨σ,H1,I1,q1⟩) I.quiet hs
def jmc (te:TE):TS:=fun D σ H=>te σ H D.rt
theorem jgx (he:PE X e te):PS X (.Return (some e) pos) (jmc te):=by intro tf s σ H D I h;exact wpAny_Return_some (qt (he tf s σ H _ I h) fun v s1 ⟨x,H1,I1,r1,q1⟩=>⟨x,σ,H1,I1,r1,q1⟩)
def jqV (c:TT) (t u:TS):TS:=fun D σ H=>c σ H fun b H1=>if b=true then t D σ H1 else u D σ H1
theorem jru {c:Expr} {a b:List Stmt} {tc:TT} (hc:PT X c tc) (ha:PSs X a t) (hb:PSs X b u):PS X (.If c a b pos) (jqV tc t u):=by
 intro tf s σ H D I h;refine wpAny_If (qt (hc tf s σ H _ I h) fun d s1 zz=>?_);obtain ⟨H1,I1,q1⟩:=zz;cases d with
 | true=>exact ha tf s1 σ H1 D I1 q1
 | false=>exact hb tf s1 σ H1 D I1 q1
end
abbrev TG:=V->St->Hp->(St->Hp->Prop)->Prop
abbrev TGs:=List V->St->Hp->(St->Hp->Prop)->Prop
def PG (X:Cx) (target:Expr) (t:TG):Prop:=
 ∀(tf:List (Addr×Obj)) (s:Shared) (σ:St) (H:Hp) (v:V) (u:Value) (Q:St->Hp->Prop),Inv X tf σ H s->RelV v u->t v σ H Q->
   wpAny ‹"c"› X.A (assign target X.env u) (fun _ s'=>∃σ' H',Inv X tf σ' H' s'/\Q σ' H') X.xe s
def PGs (X:Cx) (ts:List Expr) (t:TGs):Prop:=
 ∀(tf:List (Addr×Obj)) (s:Shared) (σ:St) (H:Hp) (vs:List V) (us:List Value) (Q:St->Hp->Prop),Inv X tf σ H s->Vals vs us->t vs σ H Q->
   wpAny ‹"c"› X.A (assignInOrder ((assignEach ts X.env).map (·.2)) us) (fun _ s'=>∃σ' H',Inv X tf σ' H' s'/\Q σ' H') X.xe s
abbrev jlF:=V->V->V->Hp->(Hp->Prop)->Prop
def jpT (X:Cx) (t:jlF):Prop:=
 ∀(tf:List (Addr×Obj)) (s:Shared) (σ:St) (H:Hp) (o i v:V) (ov iv u:Value) (Q:Hp->Prop),Inv X tf σ H s->RelV o ov->RelV i iv->RelV v u->t o i v H Q->
   wpAny ‹"c"› X.A (setItem ov iv u) (fun _ s'=>∃H',Inv X tf σ H' s'/\Q H') X.xe s
abbrev TIp:=V->V->Hp->VK->Prop
def PIp (X:Cx) (op:Operator) (t:TIp):Prop:=
 ∀(tf:List (Addr×Obj)) (s:Shared) (σ:St) (H:Hp) (x y:V) (v u:Value) (Q:VK),Inv X tf σ H s->RelV x v->RelV y u->t x y H Q->
   wpAny ‹"c"› X.A (inplaceOp op v u) (EP X tf σ Q) X.xe s
section
variable {X:Cx} {pos:Pos}
def ZK (i:Nat):TG:=fun v σ H Q=>Q (σ.set i (some v)) H
theorem jeA {i:Nat} {x:Str} (hN:X.N.Nodup) (hi:X.N[i]?=some x) (hx:Loc X.env.scope x) (hf:autoParam ‹"C"› QA.a0._auto_1):PG X (.Name x pos) (ZK i):=by intro tf s σ H v u Q I r h;exact wpAny_assign_Name (jdb I hN hi hx r (fun s' I'=>⟨_,H,I',h⟩) hf)
def jpn:TGs:=fun vs σ H Q=>vs=[]/\Q σ H
def jn0 (t:TG) (u:TGs):TGs:=fun vs σ H Q=>∃v r,vs=v::r/\t v σ H fun σ' H'=>u r σ' H' Q
theorem jh0:PGs X [] jpn:=by intro tf s σ H vs us Q I r h;obtain ⟨e,h⟩:=h;subst e;cases r;exact assignInOrder_nil ⟨σ,H,I,h⟩
theorem jfN {e:Expr} {es:List Expr} {t:TG} {u:TGs} (h1:PG X e t) (h2:PGs X es u)
 (hs:(assignEach (e::es) X.env).map (·.2)=assign e X.env::(assignEach es X.env).map (·.2):=by rfl):PGs X (e::es) (jn0 t u):=by
 intro tf s σ H vs us Q I r h;obtain ⟨v,vr,e1,h⟩:=h;subst e1;cases r with
 | cons r rr=>rw [hs];refine assignInOrder_cons (qt (h1 tf s σ H _ _ _ I r h) fun _ s1 zz=>?_);obtain ⟨σ1,H1,I1,q1⟩:=zz;exact h2 tf s1 σ1 H1 _ _ Q I1 rr q1
def jm5 (K:PySem.W.Frag) (n:Nat) (t:TGs):TG:=fun v σ H Q=>∃a xs,v=.ref a/\SqT K H a xs/\xs.length=n/\t xs σ H Q
theorem jkZ {es:List Expr} {k:Nat} {t:TGs} {n:Nat} (hc:X.calm=true) (h:PGs X es t)
 (hn:(assignEach es X.env).length=n:=by rfl) (hst:(assignEach es X.env).findIdx? (·.1)=none:=by rfl):PG X (.Tuple es k pos) (jm5 X.K n t):=by
 intro tf s σ H v u Q I r hw;obtain ⟨a,xs,e1,hq,hl,hw⟩:=hw;subst e1;cases r;obtain ⟨tF,rv,ht,hz⟩:=I.tuple hq;refine assign_Tuple_tuple (I.ok.hd hc) ht (by simp [hn,<- hl,rv.length]) hst fun h' hx=>?_;have I1:Inv X tf σ H { s with heap:=h' }:=I.kept (t':=s.toks) fun b o e=>hx b o (Yr (Yu e)) e;exact h tf _ σ H xs _ Q I1 (by simpa using rv) hw
def jqr (to ti:TE) (t:jlF):TG:=fun v σ H Q=>to σ H fun o H1=>ti σ H1 fun i H2=>t o i v H2 fun H3=>Q σ H3
theorem jpb {o i:Expr} {to ti:TE} {t:jlF} (ho:PE X o to) (hi:PE X i ti) (hs:jpT X t)
 (ha:autoParam (∀v,assign (.Subscript o i pos) X.env v=(do
  let ov <- holding [v] (eval o X.env)
  let iv <- holding [v,ov] (eval i X.env)
  standAt pos
  holding [v,ov,iv] (setItem ov iv v)
  release [v,ov,iv] [])) QA.a3._auto_1):PG X (.Subscript o i pos) (jqr to ti t):=by
 intro tf s σ H v u Q I r h;rw [ha];refine Yc (Y7 (qt (ho tf s σ H _ I h) fun ov s1 zz=>?_));obtain ⟨x,H1,I1,r1,q1⟩:=zz;refine Yc (Y7 (qt (hi tf s1 σ H1 _ I1 q1) fun iv s2 zz=>?_));obtain ⟨y,H2,I2,r2,q2⟩:=zz;refine Yc (wpAny_standAt (Yc (Y7 (qt (hs tf s2 σ H2 x y v ov iv u _ I2 r1 r2 r q2) fun _ s3 zz=>?_))));obtain ⟨H3,I3,q3⟩:=zz;exact wpAny_release ⟨σ,H3,I3,q3⟩
def jdA (te:TE) (g:TG):TS:=fun D σ H=>te σ H fun x H1=>g x σ H1 D.nx
theorem jlG {tg e:Expr} {te:TE} {g:TG} (he:PE X e te) (hg:PG X tg g) (hs:swapsWithSole [tg] e pos.line X.env=pure false:=by rfl) (hw:swappedStores [tg] e X.env=pure none:=by rfl)
 (h1:(assignEach [tg] X.env).map (·.2)=[assign tg X.env]:=by rfl):PS X (.Assign [tg] e pos) (jdA te g):=by
 intro tf s σ H D I h;refine wpAny_Assign_stores (qt (he tf s σ H _ I h) fun v s1 zz=>?_) hs hw;obtain ⟨x,H1,I1,r1,q1⟩:=zz;rw [h1];exact qt (hg tf s1 σ H1 x v _ I1 r1 q1) fun _ s2 q=>q
theorem jgO {i:Nat} {x:Str} {e:Expr} {te:TE} {pos':Pos} (hN:X.N.Nodup) (hi:X.N[i]?=some x) (hx:Loc X.env.scope x) (he:PE X e te) (hs:swapsWith e (some (.Name x pos')) pos.line X.env=pure false:=by rfl) (hf:autoParam ‹"C"› QA.a0._auto_1) :
 PS X (.Assign [.Name x pos'] e pos) (jdA te (ZK i)):=by
 intro tf s σ H D I h;refine wpAny_Assign_Name (qt (he tf s σ H _ I h) fun v s1 zz=>?_) hs;obtain ⟨y,H1,I1,r1,q1⟩:=zz;exact jdb I1 hN hi hx r1 (fun s2 I2=>⟨_,H1,I2,q1⟩) hf
def jrs (i:Nat) (te:TE) (ti:TIp):TS:=fun D σ H=>∃x,σ[i]?=some (some x)/\te σ H fun y H1=>ti x y H1 fun z H2=>D.nx (σ.set i (some z)) H2
theorem jov {i:Nat} {x:Str} {e:Expr} {te:TE} {op:Operator} {ti:TIp} {pos':Pos} (hN:X.N.Nodup) (hi:X.N[i]?=some x) (hx:Loc X.env.scope x) (he:PE X e te) (ho:PIp X op ti) (hf:autoParam ‹"C"› QA.a0._auto_1) :
 PS X (.AugAssign (.Name x pos') op e pos) (jrs i te ti):=by
 intro tf s σ H D I h;obtain ⟨v,e1,h⟩:=h;obtain ⟨m,hn,hl⟩:=I.loc;have vis:Vis X.env.scope x:=by rcases hx with k | k;exact .inl k;exact .inr (.inl k)
 obtain ⟨u,r,l⟩:=hl i x v hi e1 vis;refine wpAny_AugAssign_Name ?_;have go:wpAny ‹"c"› X.A (eval e X.env) (fun w s₂=>wpAny ‹"c"› X.A (inplaceOp op u w) (fun r s₃=>wpAny ‹"c"› X.A (storeName X.env x r) (fun _=>SP X tf D .next) X.xe s₃) X.xe s₂) X.xe s:=by refine qt (he tf s σ H _ I h) fun w s1 zz=>?_;obtain ⟨y,H1,I1,r1,q1⟩:=zz;refine qt (ho tf s1 σ H1 v y u w _ I1 r r1 q1) fun z s2 zz=>?_;obtain ⟨zv,H2,I2,r2,q2⟩:=zz;exact jdb I2 hN hi hx r2 (fun s3 I3=>⟨_,H2,I3,q2⟩) hf
 rcases l with ⟨hk,hm⟩ | ⟨hk,c,hc,hcell⟩
 . exact wpAny_loadName_local I.ok.kind hk hn hm go
 . rcases hk with hk | hk
   . exact wpAny_loadName_cell I.ok.kind hk hc hcell go
   . rcases hx with k | k
     . have:X.env.scope.names.lookup x=some .free:=hk;rw [k] at this;cases this
     . have:X.env.scope.names.lookup x=some .free:=hk;rw [k] at this;cases this
def jnG (to ti te:TE) (tget:V->V->Hp->VK->Prop) (tip:TIp) (tset:jlF):TS:=fun D σ H=>to σ H fun o H1=>ti σ H1 fun i H2=>tget o i H2 fun x H3=>te σ H3 fun y H4=>tip x y H4 fun z H5=>tset o i z H5 fun H6=>D.nx σ H6
def jqU (X:Cx) (t:V->V->Hp->VK->Prop):Prop:=
 ∀(tf:List (Addr×Obj)) (s:Shared) (σ:St) (H:Hp) (o i:V) (ov iv:Value) (Q:VK),Inv X tf σ H s->RelV o ov->RelV i iv->t o i H Q->
   wpAny ‹"c"› X.A (getItem ov iv) (EP X tf σ Q) X.xe s
theorem jmq {o i e:Expr} {to ti te:TE} {tget:V->V->Hp->VK->Prop} {tip:TIp} {tset:jlF} {op:Operator} {tpos:Pos} (ho:PE X o to) (hi:PE X i ti) (hg:jqU X tget) (he:PE X e te) (hp:PIp X op tip) (hs:jpT X tset)
 (ha:∀ov iv new,augStore i ov iv new=(do holding [new,ov,iv] (setItem ov iv new);release [new,ov,iv] [];pure .next):=by intros;rfl):PS X (.AugAssign (.Subscript o i tpos) op e pos) (jnG to ti te tget tip tset):=by
 intro tf s σ H D I h;refine wpAny_AugAssign_SubscriptAny (qt (ho tf s σ H _ I h) fun ov s1 zz=>?_) ha;obtain ⟨x1,H1,I1,r1,q1⟩:=zz;refine qt (hi tf s1 σ H1 _ I1 q1) fun iv s2 zz=>?_;obtain ⟨x2,H2,I2,r2,q2⟩:=zz;refine qt (hg tf s2 σ H2 x1 x2 ov iv _ I2 r1 r2 q2) fun old s3 zz=>?_;obtain ⟨x3,H3,I3,r3,q3⟩:=zz;refine qt (he tf s3 σ H3 _ I3 q3) fun v s4 zz=>?_;obtain ⟨x4,H4,I4,r4,q4⟩:=zz;refine qt (hp tf s4 σ H4 x3 x4 old v _ I4 r3 r4 q4) fun new s5 zz=>?_;obtain ⟨x5,H5,I5,r5,q5⟩:=zz;exact qt (hs tf s5 σ H5 x1 x2 x5 ov iv new _ I5 r1 r2 r5 q5) fun _ s6 ⟨H6,I6,q6⟩=>⟨σ,H6,I6,q6⟩
def ipI (f:Int->Int->Int):TIp:=fun x y H Q=>∃i j,x=.int i/\y=.int j/\Q (.int (f i j)) H
theorem jpA:PIp X .Add (ipI fun i j=>i+j):=by intro tf s σ H x y v u Q I r1 r2 h;obtain ⟨i,j,e1,e2,q⟩:=h;subst e1;subst e2;obtain ⟨t,rfl⟩:=r1;obtain ⟨t',rfl⟩:=r2;exact iadd_int ⟨.int _,H,I.tok _,⟨_,rfl⟩,q⟩
theorem jpm:PIp X .Sub (ipI fun i j=>i-j):=by intro tf s σ H x y v u Q I r1 r2 h;obtain ⟨i,j,e1,e2,q⟩:=h;subst e1;subst e2;obtain ⟨t,rfl⟩:=r1;obtain ⟨t',rfl⟩:=r2;exact isub_int ⟨.int _,H,I.tok _,⟨_,rfl⟩,q⟩
end
section
variable {X:Cx} {pos:Pos}
def jgv (c:TT) (tb:TS):TS:=fun D σ H=>∃W:Nat->St->Hp->Prop,(∃m,W m σ H)/\∀m σ H,W m σ H->
 c σ H fun b H1=>if b=true then ∃N:St->Hp->Prop,(∀σ' H',N σ' H'->∃m',m'<m/\W m' σ' H')/\tb { D with nx:=N,ct:=N,bk:=D.nx } σ H1 else D.nx σ H1
theorem jk8 {c:Expr} {body:List Stmt} {tc:TT} {tb:TS} (hp:PassesOwn ‹"c"› X.A X.env X.xe) (hc:PT X c tc) (hb:PSs X body tb):PS X (.While c body [] pos) (jgv tc tb):=by
 intro tf s σ H D I h;obtain ⟨W,⟨m0,w0⟩,turn⟩:=h;refine wpAny_While (codeAny_whileLoop (fun n s'=>∃σ' H',Inv X tf σ' H' s'/\W n σ' H') ?_ m0 ⟨σ,H,I,w0⟩);rintro n s1 ⟨σ1,H1,I1,w1⟩;refine yT hp (qt (hc tf s1 σ1 H1 _ I1 (turn n σ1 H1 w1)) fun b s2 zz=>?_);obtain ⟨H2,I2,q2⟩:=zz;cases b with
 | true=>
   obtain ⟨N,hN,q2⟩:=q2;rw [if_pos rfl];refine yT hp (qt (hb tf s2 σ1 H2 _ I2 q2) fun f s3 q3=>?_);cases f with
   | next=>obtain ⟨σ3,H3,I3,n3⟩:=q3;obtain ⟨m',hm,w3⟩:=hN σ3 H3 n3;exact ⟨m',hm,σ3,H3,I3,w3⟩
   | cont=>obtain ⟨σ3,H3,I3,n3⟩:=q3;obtain ⟨m',hm,w3⟩:=hN σ3 H3 n3;exact ⟨m',hm,σ3,H3,I3,w3⟩
   | brk=>exact q3
   | ret v=>exact q3
 | false=>rw [if_neg Yf];exact K2 ⟨σ1,H2,I2,q2⟩
end
structure It where
 go:Nat->Hp->Prop
 yld:Nat->Hp->V->Hp->Prop
 stop:Nat->Hp->Prop
def jct (X:Cx) (tf:List (Addr×Obj)) (H:Hp) (b:Addr):Prop:=H b=none/\b≠X.env.locals/\b∉X.fs/\(b∈X.ex\/X.s₀.heap.objs.size<=b)/\(∀x c,X.env.cells.lookup x=some c->c≠b)/\∀p∈X.pn++tf,p.1≠b
theorem Inv.fpOk {X:Cx} {tf:List (Addr×Obj)} {σ:St} {H H':Hp} {s:Shared} {b:Addr} (I:Inv X tf σ H s) (hb:s.heap.objs.size<=b) (hn:H' b=none):jct X tf H' b:=by
 refine ⟨hn,Y8 (Yj I.lt hb),I.nofs hb,.inr (YZ I.sz hb),fun x c e z=>?_,fun p hp z=>?_⟩
 . obtain ⟨v,q⟩:=I.cell x c e;exact absurd (Yj q.lt (by rw [z];exact hb)) (YV _)
 . exact absurd (Yj (Yu (I.pin p hp).1) (by rw [z];exact hb)) (YV _)
structure Turn (P:Program) (w:World) (K:PySem.W.Frag) (tg:Expr) (J:It) (fp:List Addr) (it:Addr) (tn:Nat->Heap->Prop):Prop where
 mem:it∈fp
 obj:∀i h,tn i h->∀b∈fp,∃o,h.get? b=some o/\∀v,o.data≠.cell v
 keep:∀i h h',tn i h->(∀b∈fp,∀o,h.get? b=some o->h'.get? b=some o)->tn i h'
 item:∀(X:Cx),X.prog=P->X.w=w->X.K=K->X.calm=true->∀(i:Nat) (tf:List (Addr×Obj)) (s:Shared) (σ:St) (H:Hp) (E:Value->Shared->Prop),Inv X tf σ H s->(∀b∈fp,jct X tf H b)->tn i s.heap->J.go i H->
  wpAny (model P w) X.A (pyNext (.ref it)) (fun r s1=>∃u,r=some u /\
   wpAny (model P w) X.A (letOwnedTupleGo tg (.ref it) u) (fun _ s2=>∃x H',Inv X tf σ H' s2/\RelV x u/\J.yld i H x H'/\tn (i+1) s2.heap/\∀b∈fp,H' b=none) E s1) E s
 done:∀(X:Cx),X.prog=P->X.w=w->X.K=K->X.calm=true->∀(i:Nat) (tf:List (Addr×Obj)) (s:Shared) (σ:St) (H:Hp) (E:Value->Shared->Prop),Inv X tf σ H s->(∀b∈fp,jct X tf H b)->tn i s.heap->J.stop i H->
  wpAny (model P w) X.A (pyNext (.ref it)) (fun r s1=>r=none/\Inv X tf σ H s1) E s
 self:∀(A:Around) (i:Nat) (s:Shared) (Q:Value->Shared->Prop) (E:Value->Shared->Prop),tn i s.heap->Q (.ref it) s->wpAny (model P w) A (pyIter (.ref it)) Q E s
abbrev TI:=St->Hp->(It->Hp->Prop)->Prop
def PIE (X:Cx) (tf:List (Addr×Obj)) (σ:St) (tg:Expr) (R:It->Hp->Prop) (itv:Value) (s2:Shared):Prop:=∃(it:Addr) (fp:List Addr) (tn:Nat->Heap->Prop) (J:It) (H':Hp),itv=.ref it/\Inv X tf σ H' s2/\Turn X.prog X.w X.K tg J fp it tn/\tn 0 s2.heap/\(∀b∈fp,jct X tf H' b)/\R J H'
def PI (X:Cx) (tg iter:Expr) (wi:TI):Prop:=
 ∀(tf:List (Addr×Obj)) (s:Shared) (σ:St) (H:Hp) (R:It->Hp->Prop),Inv X tf σ H s->wi σ H R->
   wpAny ‹"c"› X.A (eval iter X.env) (fun v s1=>wpAny ‹"c"› X.A (pyIter v) (PIE X tf σ tg R) X.xe s1) X.xe s
theorem jhV {M:Model} {A:Around} {E:Value->Shared->Prop} {s:Shared} {tg:Expr} {it:Addr} {u:Value} {o:Obj} {n:String} {vs:Array Value} {Q:Unit->Shared->Prop} (ho:s.heap.get? it=some o) (hc:o.cls=.type n) (hd:o.data=.fields vs)
 (hn:["enumerate","zip","dict_itemiterator","dict_reverseitemiterator","odict_iterator","itertools.zip_longest","itertools.pairwise"].contains n=false) (hQ:Q () s):wpAny M A (letOwnedTupleGo tg (.ref it) u) Q E s:=by
 unfold letOwnedTupleGo;cases tg <;> first
  | exact Yh hQ
  | (cases u <;> first
      | exact Yh hQ
      | (refine Yc (wpAny_load ho ?_)
         rw [hc,hd];show wpAny M A (if (["enumerate","zip","dict_itemiterator","dict_reverseitemiterator","odict_iterator","itertools.zip_longest","itertools.pairwise"].contains n && vs[0]? == some (rawInt _))=true then _ else _) Q E s;rw [if_neg (by intro h;rw [hn,Bool.false_and] at h;cases h)];exact Yh hQ))
def Itl (K:PySem.W.Frag) (a:Addr):It:=⟨fun i H=>∃xs x,Jc K H a xs/\xs[i]?=some x,fun i H x H'=>H'=H/\∀xs,Jc K H a xs->xs[i]?=some x,fun i H=>∃xs,Jc K H a xs/\xs.length<=i⟩
def Itt (K:PySem.W.Frag) (a:Addr):It:=⟨fun i H=>∃xs x,SqT K H a xs/\xs[i]?=some x,fun i H x H'=>H'=H/\∀xs,SqT K H a xs->xs[i]?=some x,fun i H=>∃xs,SqT K H a xs/\xs.length<=i⟩
def Itr (lo:Int) (n:Nat):It:=⟨fun i _=>i<n,fun i H x H'=>H'=H/\x=.int (lo+i),fun i _=>n<=i⟩
theorem jiZ {P:Program} {w:World} {K:PySem.W.Frag} {tg:Expr} (a it:Addr):Turn P w K tg (Itl K a) [it] it (fun i h=>h.IsListIter it a i) where
 mem:=by simp
 obj:=fun i h st b hb=>by
  have e:b=it:=by simpa using hb
  subst e;obtain ⟨o,e,c,d⟩:=st;exact ⟨o,e,fun v z=>by rw [d] at z;cases z⟩
 keep:=fun i h h' st k=>st.at fun o e=>k it (by simp) o e
 item:=by intro X hP hw hK hc i tf s σ H E I hf st hg;subst hP hw hK;obtain ⟨xs,x,hq,hx⟩:=hg;obtain ⟨tF,rv,p,hz⟩:=I.list hq;obtain ⟨u,hu,ru⟩:=rv.get hx;obtain ⟨f0,f1,f2,f3,f4,f5⟩:=hf it (by simp);refine wpAny_pyNext_list_item st p.isList (x:=u) (by simpa using hu) fun h' st' sb=>?_;have I1:Inv X tf σ H { s with heap:=h' }:=I.turned (t':=s.toks) (fun b o hb e=>(sb.2 b hb).trans e) f0 f1 f3 f4 f5;obtain ⟨o,e,c,d⟩:=id st';exact ⟨u,rfl,jhV (s:={ s with heap:=h' }) e c d (by decide) ⟨x,H,I1,ru,⟨rfl,fun ys hy=>by rw [I.list_inj hy hq];exact hx⟩,st',fun b hb=>(hf b hb).1⟩⟩
 done:=by intro X hP hw hK hc i tf s σ H E I hf st hg;subst hP hw hK;obtain ⟨xs,hq,hx⟩:=hg;obtain ⟨tF,rv,p,hz⟩:=I.list hq;obtain ⟨f0,f1,f2,f3,f4,f5⟩:=hf it (by simp);have hl:=rv.length;exact wpAny_pyNext_list_end (I.ok.hd hc) st p.isList (by simp;omega) fun h' eb=>⟨rfl,I.turned (t':=s.toks) (fun b o hb e=>eb b o hb e) f0 f1 f3 f4 f5⟩
 self:=fun _ _ _ _ _ st h=>wpAny_pyIter_listiter st h
theorem jgz {P:Program} {w:World} {K:PySem.W.Frag} {tg:Expr} (a it:Addr):Turn P w K tg (Itt K a) [it] it (fun i h=>h.IsTupleIter it a i) where
 mem:=by simp
 obj:=fun i h st b hb=>by
  have e:b=it:=by simpa using hb
  subst e;obtain ⟨o,e,c,d⟩:=st;exact ⟨o,e,fun v z=>by rw [d] at z;cases z⟩
 keep:=fun i h h' st k=>st.at fun o e=>k it (by simp) o e
 item:=by intro X hP hw hK hc i tf s σ H E I hf st hg;subst hP hw hK;obtain ⟨xs,x,hq,hx⟩:=hg;obtain ⟨tF,rv,p,hz⟩:=I.tuple hq;obtain ⟨u,hu,ru⟩:=rv.get hx;obtain ⟨f0,f1,f2,f3,f4,f5⟩:=hf it (by simp);refine wpAny_pyNext_tuple_item st (show s.heap.IsTuple a tF.toArray from p) (x:=u) (by simpa using hu) fun h' st' sb=>?_;have I1:Inv X tf σ H { s with heap:=h' }:=I.turned (t':=s.toks) (fun b o hb e=>(sb.2 b hb).trans e) f0 f1 f3 f4 f5;obtain ⟨o,e,c,d⟩:=id st';exact ⟨u,rfl,jhV (s:={ s with heap:=h' }) e c d (by decide) ⟨x,H,I1,ru,⟨rfl,fun ys hy=>by rw [I.tuple_inj hy hq];exact hx⟩,st',fun b hb=>(hf b hb).1⟩⟩
 done:=by intro X hP hw hK hc i tf s σ H E I hf st hg;subst hP hw hK;obtain ⟨xs,hq,hx⟩:=hg;obtain ⟨tF,rv,p,hz⟩:=I.tuple hq;obtain ⟨f0,f1,f2,f3,f4,f5⟩:=hf it (by simp);have hl:=rv.length;exact wpAny_pyNext_tuple_end (I.ok.hd hc) st (show s.heap.IsTuple a tF.toArray from p) (by simp;omega) fun h' eb=>⟨rfl,I.turned (t':=s.toks) (fun b o hb e=>eb b o hb e) f0 f1 f3 f4 f5⟩
 self:=fun _ _ _ _ _ st h=>wpAny_pyIter_tupleiter st h
theorem jgT {P:Program} {w:World} {K:PySem.W.Frag} {tg:Expr} (it:Addr) (lo:Int) (n:Nat):Turn P w K tg (Itr lo n) [it] it (fun i h=>IsRangeIter h it (lo+(i:Nat)*1) ((n:Int)-(i:Nat)) 1) where
 mem:=by simp
 obj:=fun i h st b hb=>by
  have e:b=it:=by simpa using hb
  subst e;exact ⟨_,st,fun v z=>by have z':Data.fields _=Data.cell v:=z;cases z'⟩
 keep:=fun i h h' st k=>k it (by simp) _ st
 item:=by intro X hP hw hK hc i tf s σ H E I hf st hg;subst hP hw hK;obtain ⟨f0,f1,f2,f3,f4,f5⟩:=hf it (by simp);have W:=Walks.range (prog:=X.prog) (w:=X.w) (I.ok.hd hc) it lo 1 n;refine W.item i s _ _ hg st fun v h' tk hv st' kk=>?_;obtain ⟨t,rfl⟩:=hv;have I1:Inv X tf σ H { s with heap:=h',toks:=tk }:=I.turned (fun b o hb e=>kk b o (by simpa using hb) e) f0 f1 f3 f4 f5;refine ⟨_,rfl,jhV (s:={ s with heap:=h',toks:=tk }) (n := "range_iterator") st' rfl rfl (by decide) ⟨.int (lo+i),H,I1,⟨t,?_⟩,⟨rfl,rfl⟩,st',fun b hb=>(hf b hb).1⟩⟩;rw [Int.mul_one]
 done:=by intro X hP hw hK hc i tf s σ H E I hf st hg;subst hP hw hK;obtain ⟨f0,f1,f2,f3,f4,f5⟩:=hf it (by simp);exact wpAny_pyNext_range_end (I.ok.hd hc) st (by have:n<=i:=hg;omega) fun h' eb=>⟨rfl,I.turned (t':=s.toks) (fun b o hb e=>eb b o hb e) f0 f1 f3 f4 f5⟩
 self:=fun _ _ _ _ _ st h=>wpAny_pyIter_rangeiter st h
end L2
namespace L2
open PySem PySem.Spec PyProof.Rows
section
variable {X:Cx} {tg:Expr}
def jfP (K:PySem.W.Frag) (tl:TE):TI:=fun σ H R=>tl σ H fun x H1=>∃a,x=.ref a/\(∃xs,Jc K H1 a xs)/\R (Itl K a) H1
def joM (K:PySem.W.Frag) (tl:TE):TI:=fun σ H R=>tl σ H fun x H1=>∃a,x=.ref a/\(∃xs,SqT K H1 a xs)/\R (Itt K a) H1
theorem jix {l:Expr} {tl:TE} (hl:PE X l tl):PI X tg l (jfP X.K tl):=by
 intro tf s σ H R I h;refine qt (hl tf s σ H _ I h) fun v s1 zz=>?_;obtain ⟨x,H1,I1,r1,q1⟩:=zz;obtain ⟨a,e,⟨xs,hq⟩,q⟩:=q1;subst e;cases r1;obtain ⟨tF,rv,p,hz⟩:=I1.list hq;refine wpAny_pyIter_list p.isList ?_;refine ⟨s1.heap.objs.size,[s1.heap.objs.size],_,_,H1,rfl,I1.kept (t':=s1.toks) fun b o e=>Yg _ e,jiZ a _,⟨_,Yv _ rfl,rfl,rfl⟩,fun b hb=>?_,q⟩;have e:b=s1.heap.objs.size:=by simpa using hb
 subst e;exact I1.fpOk (Yn _) (I1.hok.fresh (Yn _))
theorem jpR {l:Expr} {tl:TE} (hl:PE X l tl):PI X tg l (joM X.K tl):=by
 intro tf s σ H R I h;refine qt (hl tf s σ H _ I h) fun v s1 zz=>?_;obtain ⟨x,H1,I1,r1,q1⟩:=zz;obtain ⟨a,e,⟨xs,hq⟩,q⟩:=q1;subst e;cases r1;obtain ⟨tF,rv,p,hz⟩:=I1.tuple hq;refine wpAny_pyIter_tuple (show s1.heap.IsTuple a tF.toArray from p) ?_;refine ⟨s1.heap.objs.size,[s1.heap.objs.size],_,_,H1,rfl,I1.kept (t':=s1.toks) fun b o e=>Yg _ e,jgz a _,⟨_,Yv _ rfl,rfl,rfl⟩,fun b hb=>?_,q⟩;have e:b=s1.heap.objs.size:=by simpa using hb
 subst e;exact I1.fpOk (Yn _) (I1.hok.fresh (Yn _))
theorem jgk {tf:List (Addr×Obj)} {σ:St} {H:Hp} {s:Shared} {R:It->Hp->Prop} {E:Value->Shared->Prop} {lo hi:Int} {t u v:Tok} {tk:Nat} (I:Inv X tf σ H s) (h1:-(2 ^ 62)<=lo) (h2:lo<2 ^ 62) (h3:-(2 ^ 62)<=hi) (h4:hi<2 ^ 62)
 (q:R (Itr lo (hi-lo).toNat) H):wpAny ‹"c"› X.A (pyIter (.ref s.heap.objs.size)) (PIE X tf σ tg R) E { s with heap:=s.heap.push { cls:=.type "range",data:=.fields #[.int lo t,.int hi u,.int 1 v] },toks:=tk }:=by
 refine wpAny_pyIter_range (IsRange.new ..) (small_one h1 h2 h3 h4) ?_;have I1:Inv X tf σ H { s with heap:=s.heap.push { cls:=.type "range",data:=.fields #[.int lo t,.int hi u,.int 1 v] },toks:=tk }:=I.kept fun b o e=>Yg _ e;refine ⟨‹"L"›.objs.size,[‹"L"›.objs.size],_,_,H,rfl,
  I1.kept (t':=tk) fun b o e=>Yg _ e,jgT _ lo (hi-lo).toNat,?_,fun b hb=>?_,q⟩
 . have e1:lo+((0:Nat):Int)*1=lo:=by simp
   have e2:(((hi-lo).toNat:Nat):Int)-((0:Nat):Int)=Builtin.Range.rangeSize lo hi 1:=by rw [rangeSize_one];split <;> omega
   show IsRangeIter _ _ (lo+((0:Nat):Int)*1) ((((hi-lo).toNat:Nat):Int)-((0:Nat):Int)) 1;rw [e1,e2];exact Yv _ rfl
 . have e:b=‹"L"›.objs.size:=by simpa using hb
   subst e;exact I1.fpOk (Yn _) (I1.hok.fresh (Yn _))
def jnU (ta:TA):TI:=fun σ H R=>ta σ H fun vs H1=>∃j:Int,vs=[.int j] /\ -(2 ^ 62)<=j/\j<2 ^ 62/\R (Itr 0 j.toNat) H1
def jnQ (ta:TA):TI:=fun σ H R=>ta σ H fun vs H1=>∃i j:Int,vs=[.int i,.int j]/\(-(2 ^ 62)<=i/\i<2 ^ 62 /\ -(2 ^ 62)<=j/\j<2 ^ 62)/\R (Itr i (j-i).toNat) H1
theorem ji4 {a:Expr} {ta:TA} {p pos:Pos} (hg:Gl X "range") (hm:X.mg "range"=none) (ha:PA X [a] ta) (hs:starEach [a] X.env=[(false,eval a X.env)]:=by rfl):PI X tg (.Call (.Name "range" p) [a] [] pos) (jnU ta):=by
 intro tf s σ H R I h;refine Call_ (JR I hg hm boot_range (YN ‹"Z"› hs rfl));obtain ⟨vs,H1,I1,r1,q1⟩:=zz;obtain ⟨j,e,q1,q2,q⟩:=q1;subst e;cases r1 with
 | cons r rr=>cases rr;obtain ⟨t,rfl⟩:=r;exact call_range_1 (jgk I1 (by omega) (by omega) q1 q2 (by simpa using q))
theorem jja {a b:Expr} {ta:TA} {p pos:Pos} (hg:Gl X "range") (hm:X.mg "range"=none) (ha:PA X [a,b] ta) (hs:starEach [a,b] X.env=[(false,eval a X.env),(false,eval b X.env)]:=by rfl) (hs2:starEach [b] X.env=[(false,eval b X.env)]:=by rfl) :
 PI X tg (.Call (.Name "range" p) [a,b] [] pos) (jnQ ta):=by
 intro tf s σ H R I h;refine Call_ (JR I hg hm boot_range (YN ‹"Z"› (by rw [hs,hs2]) (by rw [hs2];rfl)));obtain ⟨vs,H1,I1,r1,q1⟩:=zz;obtain ⟨i,j,e,⟨q1,q2,q3,q4⟩,q⟩:=q1;subst e;cases r1 with
 | cons r rr=>
   cases rr with
   | cons r' rr=>cases rr;obtain ⟨t,rfl⟩:=r;obtain ⟨t',rfl⟩:=r';exact call_range_2 (jgk I1 q1 q2 q3 q4 q)
def jrE (wi:TI) (g:TG) (tb:TS):TS:=fun D σ H=>wi σ H fun J H1=>∃W:Nat->Nat->St->Hp->Prop,(∃m,W 0 m σ H1)/\∀i m σ H,W i m σ H->
 (J.stop i H/\D.nx σ H)\/(J.go i H/\∃N:St->Hp->Prop,(∀σ' H',N σ' H'->∃m',m'<m/\W (i+1) m' σ' H')/\∀x H',J.yld i H x H'->g x σ H' fun σ2 H2=>tb { D with nx:=N,ct:=N,bk:=D.nx } σ2 H2)
def jcO (fp:List Addr) (h:Heap):List (Addr×Obj):=fp.filterMap fun b=>(h.get? b).map fun o=>(b,o)
theorem Qs {fp:List Addr} {h:Heap} {b:Addr} {o:Obj} (hb:b∈fp) (e:h.get? b=some o):(b,o)∈jcO fp h:=List.mem_filterMap.mpr ⟨b,hb,by rw [e];rfl⟩
theorem jjo {fp:List Addr} {h:Heap} {p:Addr×Obj} (hp:p∈jcO fp h):p.1∈fp/\h.get? p.1=some p.2:=by
 obtain ⟨b,hb,e⟩:=List.mem_filterMap.mp hp;cases q:h.get? b with
 | none=>rw [q] at e;cases e
 | some o=>rw [q] at e;have e':(b,o)=p:=Option.some.inj e;subst e';exact ⟨hb,q⟩
theorem Inv.pinned {tf:List (Addr×Obj)} {σ:St} {H:Hp} {s:Shared} {fp:List Addr} (I:Inv X tf σ H s) (hf:∀b∈fp,jct X tf H b) (ho:∀b∈fp,∃o,s.heap.get? b=some o/\∀v,o.data≠.cell v):Inv X (tf++jcO fp s.heap) σ H s:=
 I.pins_of fun p hp=>(YL.mp hp).elim (fun z=>I.pin p (YB _ z)) fun z=>by obtain ⟨hb,e⟩:=jjo z;obtain ⟨f0,f1,f2,_⟩:=hf p.1 hb;obtain ⟨o,e',d⟩:=ho p.1 hb;rw [e] at e';cases e';exact ⟨e,f0,f1,f2,d⟩
theorem Inv.unpinned {tf pl:List (Addr×Obj)} {σ:St} {H:Hp} {s:Shared} (I:Inv X (tf++pl) σ H s):Inv X tf σ H s:=I.pins_of fun p hp=>I.pin p (YB _ (Ys _ hp))
theorem jpD {iter:Expr} {body:List Stmt} {wi:TI} {g:TG} {tb:TS} {pos:Pos} (hp:PassesOwn ‹"c"› X.A X.env X.xe) (hc:X.calm=true) (hi:PI X tg iter wi) (hg:PG X tg g) (hb:PSs X body tb)
 (hs:∀x,foldedSetIterable iter X.env x=pure x:=by intro _;rfl):PS X (.For tg iter body [] pos) (jrE wi g tb):=by
 intro tf s σ H D I h;refine wpAny_For (qt (hi tf s σ H _ I h) fun v s1 h1=>qt h1 fun itv s2 h2=>?_) hs;obtain ⟨it,fp,tn,J,H2,e,I2,T,st2,f2,W,⟨m0,w0⟩,turn⟩:=h2;subst e
 -- what stays true of the iterator's objects through the loop
 have stat:∀{H':Hp},(∀b∈fp,H' b=none)->∀b∈fp,jct X tf H' b:=fun hn b hb=>⟨hn b hb,(f2 b hb).2⟩;refine codeAny_forLoop_any (fun n s'=>∃i σ' H',Inv X tf σ' H' s'/\tn i s'.heap/\(∀b∈fp,H' b=none)/\W i n σ' H') ?_ m0 ⟨0,σ,H2,I2,st2,fun b hb=>(f2 b hb).1,w0⟩;rintro n s3 ⟨i,σ3,H3,I3,st3,fr3,w3⟩;rcases turn i n σ3 H3 w3 with ⟨stop,qn⟩ | ⟨go,N,hN,step⟩
 . refine yT hp (qt (T.done X rfl rfl rfl hc i tf s3 σ3 H3 X.xe I3 (stat fr3) st3 stop) fun r s4 zz=>?_);obtain ⟨hr,I4⟩:=zz;subst hr;exact K2 ⟨σ3,H3,I4,qn⟩
 . refine yT hp (qt (T.item X rfl rfl rfl hc i tf s3 σ3 H3 X.xe I3 (stat fr3) st3 go) fun r s4 zz=>?_);obtain ⟨u,hr,h4⟩:=zz;subst hr;refine yT hp (qt h4 fun _ s5 zz=>?_);obtain ⟨x,H5,I5,r5,y5,st5,fr5⟩:=zz;have I5':=I5.pinned (stat fr5) (T.obj _ _ st5);refine yT hp (qt (hg _ s5 σ3 H5 x u _ I5' r5 (step x H5 y5)) fun _ s6 zz=>?_);obtain ⟨σ6,H6,I6,q6⟩:=zz;refine yT hp (qt (hb _ s6 σ6 H6 _ I6 q6) fun f s7 q7=>?_);have again:∀{σ7:St} {H7:Hp},Inv X (tf++jcO fp s5.heap) σ7 H7 s7->N σ7 H7->∃m,m<n/\∃i σ' H',Inv X tf σ' H' s7/\tn i s7.heap/\(∀b∈fp,H' b=none)/\W i m σ' H':=fun {σ7 H7} I7 n7=>by obtain ⟨m',hm,w7⟩:=hN σ7 H7 n7;refine ⟨m',hm,i+1,σ7,H7,I7.unpinned,T.keep _ _ _ st5 fun b hb o e=>(I7.pin (b,o) (YB _ (YB _ (Qs hb e)))).1,fun b hb=>?_,w7⟩;obtain ⟨o,e,d⟩:=T.obj _ _ st5 b hb;exact (I7.pin (b,o) (YB _ (YB _ (Qs hb e)))).2.1
   cases f with
   | next=>obtain ⟨σ7,H7,I7,n7⟩:=q7;exact again I7 n7
   | cont=>obtain ⟨σ7,H7,I7,n7⟩:=q7;exact again I7 n7
   | brk=>obtain ⟨σ7,H7,I7,q7⟩:=q7;exact ⟨σ7,H7,I7.unpinned,q7⟩
   | ret v=>obtain ⟨x7,σ7,H7,I7,r7,q7⟩:=q7;exact ⟨x7,σ7,H7,I7.unpinned,r7,q7⟩
end
theorem jcP {c:TT} {tb:TS} {D:Ends} {σ:St} {H:Hp} (Pv:St->Hp->Prop) (μ:St->Hp->Nat) (h0:Pv σ H)
 (hs:∀σ H,Pv σ H->c σ H fun b H1=>if b=true then tb { D with nx:=fun σ' H'=>Pv σ' H'/\μ σ' H'<μ σ H,ct:=fun σ' H'=>Pv σ' H'/\μ σ' H'<μ σ H,bk:=D.nx } σ H1 else D.nx σ H1)
 (mono:∀σ H Q Q',(∀b H1,Q b H1->Q' b H1)->c σ H Q->c σ H Q'):jgv c tb D σ H:=by
 refine ⟨fun m σ H=>m=μ σ H/\Pv σ H,⟨_,rfl,h0⟩,?_⟩;rintro m σ H ⟨rfl,p⟩;refine mono σ H _ _ (fun b H1 q=>?_) (hs σ H p);cases b with
 | true=>exact ⟨_,fun σ' H' ⟨p',l⟩=>⟨_,l,rfl,p'⟩,q⟩
 | false=>exact q
end L2
namespace L2
open PySem PySem.Spec PyProof.Rows
abbrev R2:=V->V->Hp->VK->Prop
def OpR (X:Cx) (f:Value->Value->Sem Value) (r:R2):Prop:=
 ∀(tf:List (Addr×Obj)) (s:Shared) (σ:St) (H:Hp) (x y:V) (v u:Value) (Q:VK),Inv X tf σ H s->RelV x v->RelV y u->r x y H Q->
   wpAny ‹"c"› X.A (f v u) (EP X tf σ Q) X.xe s
def CallR (X:Cx) (f:Value) (r:List V->Hp->VK->Prop):Prop:=
 ∀(tf:List (Addr×Obj)) (s:Shared) (σ:St) (H:Hp) (xs:List V) (us:List Value) (Q:VK),Inv X tf σ H s->Vals xs us->r xs H Q->
   wpAny ‹"c"› X.A (call f us) (EP X tf σ Q) X.xe s
def tOp (r:R2) (ta tb:TE):TE:=fun σ H Q=>ta σ H fun x H1=>tb σ H1 fun y H2=>r x y H2 Q
def rI (C:Int->Int->Prop) (g:Int->Int->V):R2:=fun x y H Q=>∃i j,x=.int i/\y=.int j/\C i j/\Q (g i j) H
def rI0 (g:Int->Int->V):R2:=fun x y H Q=>∃i j,x=.int i/\y=.int j/\Q (g i j) H
section
variable {X:Cx} {a b c:Expr} {ta tb tc:TE} {pos:Pos}
theorem jpg (ha:PE X a ta) (hb:PE X b tb) {tf:List (Addr×Obj)} {s:Shared} {σ:St} {H:Hp} {R:V->V->Hp->Prop} (I:Inv X tf σ H s)
 (h:ta σ H fun x H1=>tb σ H1 fun y H2=>R x y H2) {Q:Value->Shared->Prop} {f:Value->Value->Sem Value}
 (hf:∀v u s2 x y H2,Inv X tf σ H2 s2->RelV x v->RelV y u->R x y H2->wpAny ‹"c"› X.A (f v u) Q X.xe s2) :
 wpAny ‹"c"› X.A (eval a X.env) ‹"aO"› X.xe s:=by
 refine qt ‹"W"› fun v s1 zz=>?_;obtain ⟨x,H1,I1,r1,q1⟩:=zz;refine qt (hb tf s1 σ H1 _ I1 q1) fun u s2 zz=>?_;obtain ⟨y,H2,I2,r2,q2⟩:=zz;exact hf v u s2 x y H2 I2 r1 r2 q2
theorem jkr {op:Operator} {r:R2} (ho:OpR X (binaryOp op) r) (ha:PE X a ta) (hb:PE X b tb):PE X (.BinOp a op b pos) (tOp r ta tb):=by intro tf s σ H Q I h;exact wpAny_BinOp (jpg ha hb I h fun v u s2 x y H2 I2 rx ry q=>ho tf s2 σ H2 x y v u Q I2 rx ry q)
theorem opI {f:Value->Value->Sem Value} {C:Int->Int->Prop} {g:Int->Int->Int}
 (rule:∀(i j:Int) (t u:Tok) (s:Shared) (Q:Value->Shared->Prop) (E:Value->Shared->Prop),C i j->Q (.int (g i j) s.toks) { s with toks:=s.toks+1 }->wpAny ‹"c"› X.A (f (.int i t) (.int j u)) Q E s) :
 OpR X f (rI C fun i j=>.int (g i j)):=by
 intro tf s σ H x y v u Q I rx ry h;obtain ⟨i,j,rfl,rfl,hc,q⟩:=h;obtain ⟨t,rfl⟩:=rx;obtain ⟨t',rfl⟩:=ry;exact rule i j t t' s _ _ hc ⟨.int (g i j),H,I.tok _,⟨_,rfl⟩,q⟩
theorem jp5 {f:Value->Value->Sem Value} {g:Int->Int->Int}
 (rule:∀(i j:Int) (t u:Tok) (s:Shared) (Q:Value->Shared->Prop) (E:Value->Shared->Prop),Q (.int (g i j) s.toks) { s with toks:=s.toks+1 }->wpAny ‹"c"› X.A (f (.int i t) (.int j u)) Q E s) :
 OpR X f (rI0 fun i j=>.int (g i j)):=by
 intro tf s σ H x y v u Q I rx ry h;obtain ⟨i,j,rfl,rfl,q⟩:=h;obtain ⟨t,rfl⟩:=rx;obtain ⟨t',rfl⟩:=ry;exact rule i j t t' s _ _ ⟨.int (g i j),H,I.tok _,⟨_,rfl⟩,q⟩
theorem jnf {f:Value->Value->Sem Value} {g:Int->Int->Bool}
 (rule:∀(i j:Int) (t u:Tok) (s:Shared) (Q:Value->Shared->Prop) (E:Value->Shared->Prop),Q (.bool (g i j)) s->wpAny ‹"c"› X.A (f (.int i t) (.int j u)) Q E s) :
 OpR X f (rI0 fun i j=>.bl (g i j)):=by
 intro tf s σ H x y v u Q I rx ry h;obtain ⟨i,j,rfl,rfl,q⟩:=h;obtain ⟨t,rfl⟩:=rx;obtain ⟨t',rfl⟩:=ry;exact rule i j t t' s _ _ ⟨.bl (g i j),H,I,rfl,q⟩
def jds (i j:Int):Prop:=0<=j/\j<=1000000/\i.natAbs<2 ^ 64
def CMul (i j:Int):Prop:=(-(2 ^ 64)<i/\i<2 ^ 64)\/(-(2 ^ 64)<j/\j<2 ^ 64)
theorem CMul.ok {i j:Int} (h:CMul i j):IntMulOk i j:=by
 rcases h with ⟨h1,h2⟩ | ⟨h1,h2⟩
 . exact .of_left (intBits_le_64 h1 h2)
 . exact .of_right (intBits_le_64 h1 h2)
theorem jpo:OpR X (binaryOp .Add) (rI0 fun i j=>.int (i+j)):=jp5 fun _ _ _ _ _ _ _ q=>add_int q
theorem joW:OpR X (binaryOp .Sub) (rI0 fun i j=>.int (i-j)):=jp5 fun _ _ _ _ _ _ _ q=>sub_int q
theorem jpS:OpR X (binaryOp .Mod) (rI (fun _ j=>0<j) fun i j=>.int (i%j)):=opI fun i j _ _ _ _ _ hc q=>by have h1:(0:Int)<j:=hc;exact mod_int' (by omega) (by rw [Int.fmod_eq_emod_of_nonneg i (by omega)];exact q)
theorem jok:OpR X (binaryOp .Pow) (rI jds fun i j=>.int (i ^ j.toNat)):=opI fun _ _ _ _ _ _ _ hc q=>pow_int_small hc.1 hc.2.1 hc.2.2 q
end
def jn4:V->V->Bool
 | .non,.non=>true | .non,.int _=>true | .int _,.non=>true | .non,.bl _=>true | .bl _,.non=>true | .non,.str _=>true | .str _,.non=>true
 | .int _,.int _=>true | .bl _,.bl _=>true | .str _,.str _=>true | .byt _,.byt _=>true
 | .int _,.str _=>true | .str _,.int _=>true | .bl _,.str _=>true | .str _,.bl _=>true
 | _,_=>false
def rEq:R2:=fun x y H Q=>jn4 x y=true/\Q (.bl (decide (x=y))) H
def rNe:R2:=fun x y H Q=>jn4 x y=true/\Q (.bl (!decide (x=y))) H
theorem jil {i j:Int}:decide (V.int i=V.int j)=(i == j):=by rw [K7];simp
theorem jkE {i j:Bool}:decide (V.bl i=V.bl j)=(i == j):=by rw [K7];simp
theorem jhB {i j:Str}:decide (V.str i=V.str j)=(i == j):=by rw [K7];simp
theorem jim {i j:Array UInt8}:decide (V.byt i=V.byt j)=(i.toList == j.toList):=by rw [K7];cases i;cases j;simp
section
variable {X:Cx} {a b c:Expr} {ta tb tc:TE} {pos:Pos}
theorem j5 {tf:List (Addr×Obj)} {σ:St} {H:Hp} {s:Shared} {Q:VK} {k k':Bool} (I:Inv X tf σ H s) (q:Q (.bl k) H) (e:k=k'):EP X tf σ Q (.bool k') s:=by subst e;exact ⟨.bl k,H,I,rfl,q⟩
theorem jq4:OpR X (compareOp .Eq) rEq:=by
 intro tf s σ H x y v u Q I rx ry h;obtain ⟨hs,q⟩:=h;cases x with
 | non=>
   cases rx;cases y with
   | non=>cases ry;exact PySem.EqNone.eq_none_none ‹"y"›
   | bl j=>cases ry;exact PySem.EqNone.eq_none_bool ‹"y"›
   | int j=>obtain ⟨t',rfl⟩:=ry;exact PySem.EqNone.eq_none_int ‹"y"›
   | str j=>obtain ⟨t',rfl⟩:=ry;exact PySem.EqNone.eq_none_str ‹"y"›
   | _=>exact absurd (show false=true from hs) Yf
 | bl i=>
   cases rx;cases y with
   | non=>cases ry;exact PySem.EqNone.eq_bool_none ‹"y"›
   | bl j=>cases ry;exact eq_bool (j5 I q jkE)
   | str j=>obtain ⟨t',rfl⟩:=ry;exact PySem.EqMixed.eq_bool_str ‹"y"›
   | _=>exact absurd (show false=true from hs) Yf
 | int i=>
   obtain ⟨t,rfl⟩:=rx;cases y with
   | non=>cases ry;exact PySem.EqNone.eq_int_none ‹"y"›
   | int j=>obtain ⟨t',rfl⟩:=ry;exact eq_int (j5 I q jil)
   | str j=>obtain ⟨t',rfl⟩:=ry;exact PySem.EqMixed.eq_int_str ‹"y"›
   | _=>exact absurd (show false=true from hs) Yf
 | str i=>
   obtain ⟨t,rfl⟩:=rx;cases y with
   | non=>cases ry;exact PySem.EqNone.eq_str_none ‹"y"›
   | bl j=>cases ry;exact PySem.EqMixed.eq_str_bool ‹"y"›
   | int j=>obtain ⟨t',rfl⟩:=ry;exact PySem.EqMixed.eq_str_int ‹"y"›
   | str j=>obtain ⟨t',rfl⟩:=ry;exact eq_str (j5 I q jhB)
   | _=>exact absurd (show false=true from hs) Yf
 | byt i=>
   obtain ⟨t,rfl⟩:=rx;cases y with
   | byt j=>obtain ⟨t',rfl⟩:=ry;exact PySem.W.eq_bytes (j5 I q jim)
   | _=>exact absurd (show false=true from hs) Yf
 | _=>cases y <;> exact absurd (show false=true from hs) Yf
theorem jq7:OpR X (compareOp .NotEq) rNe:=by
 intro tf s σ H x y v u Q I rx ry h;obtain ⟨hs,q⟩:=h;cases x with
 | non=>
   cases rx;cases y with
   | non=>cases ry;exact PySem.EqNone.ne_none_none ‹"y"›
   | bl j=>cases ry;exact PySem.EqNone.ne_none_bool ‹"y"›
   | int j=>obtain ⟨t',rfl⟩:=ry;exact PySem.EqNone.ne_none_int ‹"y"›
   | str j=>obtain ⟨t',rfl⟩:=ry;exact PySem.EqNone.ne_none_str ‹"y"›
   | _=>exact absurd (show false=true from hs) Yf
 | bl i=>
   cases rx;cases y with
   | non=>cases ry;exact PySem.EqNone.ne_bool_none ‹"y"›
   | bl j=>cases ry;exact ne_bool (j5 I q (congrArg not jkE))
   | str j=>obtain ⟨t',rfl⟩:=ry;exact PySem.EqMixed.ne_bool_str ‹"y"›
   | _=>exact absurd (show false=true from hs) Yf
 | int i=>
   obtain ⟨t,rfl⟩:=rx;cases y with
   | non=>cases ry;exact PySem.EqNone.ne_int_none ‹"y"›
   | int j=>obtain ⟨t',rfl⟩:=ry;exact ne_int (j5 I q (congrArg not jil))
   | str j=>obtain ⟨t',rfl⟩:=ry;exact PySem.EqMixed.ne_int_str ‹"y"›
   | _=>exact absurd (show false=true from hs) Yf
 | str i=>
   obtain ⟨t,rfl⟩:=rx;cases y with
   | non=>cases ry;exact PySem.EqNone.ne_str_none ‹"y"›
   | bl j=>cases ry;exact PySem.EqMixed.ne_str_bool ‹"y"›
   | int j=>obtain ⟨t',rfl⟩:=ry;exact PySem.EqMixed.ne_str_int ‹"y"›
   | str j=>obtain ⟨t',rfl⟩:=ry;exact ne_str (j5 I q (congrArg not jhB))
   | _=>exact absurd (show false=true from hs) Yf
 | byt i=>
   obtain ⟨t,rfl⟩:=rx;cases y with
   | byt j=>obtain ⟨t',rfl⟩:=ry;exact PySem.W.ne_bytes (j5 I q (congrArg not jim))
   | _=>exact absurd (show false=true from hs) Yf
 | _=>cases y <;> exact absurd (show false=true from hs) Yf
theorem jrf:OpR X (compareOp .Lt) (rI0 fun i j=>.bl (decide (i<j))):=jnf fun _ _ _ _ _ _ _ q=>lt_int q
theorem jq3:OpR X (compareOp .LtE) (rI0 fun i j=>.bl (decide (i<=j))):=jnf fun _ _ _ _ _ _ _ q=>le_int q
theorem jqE:OpR X (compareOp .Gt) (rI0 fun i j=>.bl (decide (j<i))):=jnf fun _ _ _ _ _ _ _ q=>gt_int q
theorem jqg:OpR X (compareOp .GtE) (rI0 fun i j=>.bl (decide (j<=i))):=jnf fun _ _ _ _ _ _ _ q=>ge_int q
theorem nomark (b:Expr) {op:CmpOp} (h:op≠.In:=by decide) (h2:op≠.NotIn:=by decide):behindInMarks op b=false:=by
 have e1:(op == CmpOp.In)=false:=by cases op <;> first | rfl | exact absurd rfl h
 have e2:(op == CmpOp.NotIn)=false:=by cases op <;> first | rfl | exact absurd rfl h2
 cases b <;> simp [behindInMarks,e1,e2]
theorem jlX {op:CmpOp} {r:R2} (ho:OpR X (compareOp op) r) (ha:PE X a ta) (hb:PE X b tb) (hm:behindInMarks op b=false):PE X (.Compare a [op] [b] pos) (tOp r ta tb):=by intro tf s σ H Q I h;exact wpAny_Compare1 (jpg ha hb I h fun v u s2 x y H2 I2 rx ry q=>ho tf s2 σ H2 x y v u Q I2 rx ry q) hm
def jk0 (t:TE):TT:=fun σ H Q=>t σ H fun x H'=>∃k,x=.bl k/\Q k H'
theorem jl2 {op:CmpOp} {r:R2} (ho:OpR X (compareOp op) r) (ha:PE X a ta) (hb:PE X b tb) (hm:behindInMarks op b=false):PT X (.Compare a [op] [b] pos) (jk0 (tOp r ta tb)):=by
 intro tf s σ H Q I h;refine wpAny_isTrue_Compare1 (qt ‹"W"› fun v s1 ⟨x,H1,I1,r1,q1⟩=>qt (hb tf s1 σ H1 _ I1 q1) fun u s2 ⟨y,H2,I2,r2,q2⟩=>qt (ho tf s2 σ H2 x y v u _ I2 r1 r2 q2) fun c s3 ⟨z,H3,I3,r3,k,e,q3⟩=>?_) hm
 subst e;cases r3;exact yk ⟨H3,I3,q3⟩
def jhm (r r':R2) (ta tb tc:TE):TE:=fun σ H Q=>ta σ H fun x H1=>tb σ H1 fun y H2=>r x y H2 fun z H3=>∃k,z=.bl k /\
 (if k=true then tc σ H3 fun w' H4=>r' y w' H4 Q else Q (.bl false) H3)
theorem jkP {op op':CmpOp} {r r':R2} (ho:OpR X (compareOp op) r) (ho':OpR X (compareOp op') r') (ha:PE X a ta) (hb:PE X b tb) (hc:PE X c tc)
 (hm:autoParam (lastMarks [op,op'] [b,c]=false) QA.a6._auto_1):PE X (.Compare a [op,op'] [b,c] pos) (jhm r r' ta tb tc):=by
 intro tf s σ H Q I h;refine Compare_chain (qt ‹"W"› fun v s1 ⟨x,H1,I1,r1,q1⟩=>chain_link ‹"S"›) hm
 subst e;cases r3;refine yk ?_;cases k with
 | false=>exact ite_ff ⟨.bl false,H3,I3,rfl,q3⟩
 | true=>exact ite_tt (chain_last (qt (hc tf s3 σ H3 _ I3 q3) fun w' s4 ⟨z',H4,I4,r4,q4⟩=>ho' tf s4 σ H4 y z' u w' Q I4 r2 r4 q4))
theorem jjV {op op':CmpOp} {r r':R2} (ho:OpR X (compareOp op) r) (ho':OpR X (compareOp op') r') (ha:PE X a ta) (hb:PE X b tb) (hc:PE X c tc)
 (hm:autoParam (lastMarks [op,op'] [b,c]=false) QA.a6._auto_1):PT X (.Compare a [op,op'] [b,c] pos) (jk0 (jhm r r' ta tb tc)):=by
 intro tf s σ H Q I h;refine isTrue_chain (qt ‹"W"› fun v s1 ⟨x,H1,I1,r1,q1⟩=>test_link ‹"S"›) hm
 subst e;cases r3;refine yk ?_;cases k with
 | false=>obtain ⟨k',e',q'⟩:=q3;cases e';exact ite_ff ⟨H3,I3,q'⟩
 | true=>refine ite_tt (test_last (qt (hc tf s3 σ H3 _ I3 q3) fun w' s4 ⟨z',H4,I4,r4,q4⟩=>qt (ho' tf s4 σ H4 y z' u w' _ I4 r2 r4 q4) fun d' s5 zz=>?_));obtain ⟨z2,H5,I5,r5,k2,e2,q5⟩:=zz;subst e2;cases r5;exact yk ⟨H5,I5,q5⟩
theorem ZY:(sizeLine:Nat)<2 ^ 63:=by rw [sizeLine_eq];decide
theorem jbG {x:V} {us:List Value} (r:Vals [x] us):∃u,us=[u]/\RelV x u:=by
 cases r with
 | cons r1 r2=>cases r2;exact ⟨_,rfl,r1⟩
theorem jkb {x y:V} {us:List Value} (r:Vals [x,y] us):∃u w',us=[u,w']/\RelV x u/\RelV y w':=by
 cases r with
 | cons r1 r2=>
   cases r2 with
   | cons r3 r4=>cases r4;exact ⟨_,_,rfl,r1,r3⟩
theorem jjq (hc:X.calm=true):CallR X (.builtin "max") (fun xs H Q=>∃i j,xs=[.int i,.int j] ∧ Q (.int (if j>i then j else i)) H):=by
 intro tf s σ H xs us Q I r h;obtain ⟨i,j,rfl,q⟩:=h;obtain ⟨u,w',rfl,⟨t,rfl⟩,⟨t',rfl⟩⟩:=jkb r;refine max_two_ints (I.ok.hd hc) fun h' tk k=>⟨_,H,I.kept k,?_,q⟩;by_cases hj:j>i
 . rw [if_pos hj,if_pos hj];exact ⟨_,rfl⟩
 . rw [if_neg hj,if_neg hj];exact ⟨_,rfl⟩
theorem jjB (hc:X.calm=true):CallR X (.builtin "min") (fun xs H Q=>∃i j,xs=[.int i,.int j] ∧ Q (.int (if j<i then j else i)) H):=by
 intro tf s σ H xs us Q I r h;obtain ⟨i,j,rfl,q⟩:=h;obtain ⟨u,w',rfl,⟨t,rfl⟩,⟨t',rfl⟩⟩:=jkb r;refine min_two_ints (I.ok.hd hc) fun h' tk k=>⟨_,H,I.kept k,?_,q⟩;by_cases hj:j<i
 . rw [if_pos hj,if_pos hj];exact ⟨_,rfl⟩
 . rw [if_neg hj,if_neg hj];exact ⟨_,rfl⟩
theorem jiH:CallR X (.type "int") (fun xs H Q=>(∃i,xs=[.int i] ∧ Q (.int i) H) ∨ ∃k,xs=[.bl k] ∧ Q (.int (if k then 1 else 0)) H):=by
 intro tf s σ H xs us Q I r h;rcases h with ⟨i,rfl,q⟩ | ⟨k,rfl,q⟩
 . obtain ⟨u,rfl,t,rfl⟩:=jbG r;exact call_int_int ⟨.int i,H,I,⟨_,rfl⟩,q⟩
 . obtain ⟨u,rfl,r1⟩:=jbG r;cases r1;exact call_int_bool ⟨.int (if k then 1 else 0),H,I.tok _,⟨_,rfl⟩,q⟩
end
end L2
namespace L2
open PySem PySem.Spec PyProof.Rows
structure ObjM (h:Heap) (x dx C:Addr) (mA:Str->Option Value):Prop where
 obj:h.get? x=some (PySem.W.instObj C dx)
 ns:h.Ns1 dx mA
 ne:dx≠x
theorem jjn {h:Heap} {dx:Addr} {mA:Str->Option Value} (n:h.Ns1 dx mA):∃od,h.get? dx=some od/\∀name,PySem.W.lookIn name od=some (mA name):=by
 obtain ⟨o,es,ep,ho,hd,hk,_,hm⟩:=n;refine ⟨o,ho,fun name=>?_⟩;have e:=hm name;unfold nsFind findBy at e;rw [<-Array.find?_toList] at e;unfold PySem.W.lookIn;rw [hd];dsimp only;split
 . rename_i y q;rw [q] at e;exact congrArg some e
 . rename_i q;rw [q] at e;have a:es.toList.any (·.refKey)=false:=by rw [List.any_eq_false];intro y hy;obtain ⟨z,t,hkey⟩:=hk y (Array.mem_toList_iff.mp hy);simp [DictEntry.refKey,hkey]
   have a':¬es.toList.any (·.refKey)=true:=by rw [a];exact Yf
   rw [if_neg a'];exact congrArg some e
theorem ObjM.look {h:Heap} {x dx C:Addr} {mA:Str->Option Value} (I:ObjM h x dx C mA):∃od,PySem.W.InstAt h x (PySem.W.instObj C dx) C (some od)/\∀name,PySem.W.lookIn name od=some (mA name):=
 let ⟨od,ho,hl⟩:=jjn I.ns
 ⟨od,⟨I.obj,rfl,rfl,ho⟩,hl⟩
section
variable {prog:Program} {w:World} {A:Around} {E:Value->Shared->Prop} {s:Shared} {K:PySem.W.Frag} {x dx C f:Addr} {mA:Str->Option Value} {name:Str} {v:Value}
end
theorem RelO.some_of {v:V} {o:Option Value} (r:RelO (some v) o):∃u,o=some u/\RelV v u:=by
 cases o with
 | none=>exact (show False from r).elim
 | some u=>exact ⟨u,rfl,r⟩
section
variable {P:Program} {w:World} {H H':Hp} {h h':Heap} {a C dx:Addr} {fs fs':List (Str×V)}
theorem jl8 (hok:HOk P w H h) (e:H a=some (.ins C dx fs)):∃mA,ObjM h a dx C mA/\(∀f,RelO (fs.lookup f) (mA f))/\PySem.Within mA (fs.map (·.1))/\fs.length<=1000/\H dx=some (.own a):=by obtain ⟨d,z,ne,ob,mA,n,r,q⟩:=(show ObjOk P w H h a (.ins C dx fs) from hok a _ e);exact ⟨mA,⟨ob,n,ne⟩,r,q,z,d⟩
end
structure Cls (K:PySem.W.Frag) (C:Addr):Prop where
 pg:PySem.W.plainGet K C Str.empty=true
 hd:PySem.W.hasDictIn K C=true
 po:PySem.W.plainOver K C=true
 sa:PySem.W.findIn K (.ref C) "__setattr__"=some (some (.builtin "object.__setattr__"))
theorem Cls.get {K:PySem.W.Frag} {C:Addr} (c:Cls K C) (f:Str):PySem.W.plainGet K C f=true:=c.pg
section
variable {X:Cx} {tf:List (Addr×Obj)} {σ:St} {H:Hp} {s:Shared} {a C dx:Addr} {fs:List (Str×V)} {f:Str} {v:V} {A:Around} {E:Value->Shared->Prop}
end
section
variable {X:Cx} {o e value:Expr} {f:Str} {pos pos' tpos:Pos} {ta tv:TE}
end
section
variable {X:Cx} {tf:List (Addr×Obj)} {σ:St} {H:Hp} {s:Shared} {A:Around} {E:Value->Shared->Prop} {Q:Value->Shared->Prop} {c:Value} {b:Bool}
inductive TyOf (K:PySem.W.Frag) (H:Hp):V->Value->Prop where
 | non:TyOf K H .non (.type "NoneType")
 | bl (x:Bool):TyOf K H (.bl x) (.type "bool")
 | int (i:Int):TyOf K H (.int i) (.type "int")
 | str (x:Str):TyOf K H (.str x) (.type "str")
 | flt (x:UInt64):TyOf K H (.flt x) (.type "float")
 | lst {a:Addr} {xs:List V} (e:H a=some (.lst xs)):TyOf K H (.ref a) (.type "list")
 | frz {a:Addr} {o:Obj} {xs:List V} (e:H a=some (.frz o (.lst xs))):TyOf K H (.ref a) (.type "list")
 | tup {a:Addr} {xs:List V} (e:H a=some (.tup xs)):TyOf K H (.ref a) (.type "tuple")
 | dK {a:Addr} {kvs:List (ze×V)} (e:H a=some (.dK kvs)):TyOf K H (.ref a) (.type "dict")
 | dT {a:Addr} {kvs:List (List ze×V)} (e:H a=some (.dT kvs)):TyOf K H (.ref a) (.type "dict")
 | ins {a C dx:Addr} {fs:List (Str×V)} (e:H a=some (.ins C dx fs)) (cl:Cls K C) (ha:PySem.W.findIn K (.ref C) "__class__"=some (some (.builtin "object.__class__")))
  (hn:PySem.W.specialIn K (.builtin "object.__class__") "__get__"=some (some (.builtin "getset_descriptor.__get__"))) (htk:PySem.W.takesIn K (.builtin "object.__class__")=some true)
  (hm:PySem.W.mroIn K C (.type "object")=some true):TyOf K H (.ref a) (.ref C)
theorem jje {x:V} {u t:Value} (I:Inv X tf σ H s) (rx:RelV x u) (ty:TyOf X.K H x t) (e:PySem.W.kitOne X.K t c=some b) (h:∀tk,Q (.bool b) { s with toks:=tk }) :
 wpAny ‹"c"› A (call (.builtin "isinstance") [u,c]) Q E s:=by
 cases ty with
 | non=>cases (show u=Value.none from rx);exact yg PySem.W.kitx_none I.kIn True.intro e (fun z=>nomatch z) h
 | bl y=>cases (show u=Value.bool y from rx);exact yg PySem.W.kitx_bool I.kIn True.intro e (fun z=>nomatch z) h
 | int i=>obtain ⟨t,q⟩:=(show ∃t,u=Value.int i t from rx);cases q;exact yg PySem.W.kitx_int I.kIn True.intro e (fun z=>nomatch z) h
 | str y=>obtain ⟨t,q⟩:=(show ∃t,u=Value.str y t from rx);cases q;exact yg PySem.W.kitx_str I.kIn True.intro e (fun z=>nomatch z) h
 | flt y=>obtain ⟨t,q⟩:=(show ∃t,u=Value.float y t from rx);cases q;exact yg PySem.W.kitx_float I.kIn True.intro e (fun z=>nomatch z) h
 | @lst a xs ea=>cases (show u=Value.ref a from rx);obtain ⟨_,_,n,_,h1⟩:=(show ObjOk X.prog X.w H s.heap a (.lst xs) from I.hok a _ ea);exact yg PySem.W.kitx_list I.kIn ⟨_,h1,rfl⟩ e (fun z=>nomatch z) h
 | @frz a ob xs ea=>cases (show u=Value.ref a from rx);obtain ⟨_,_,_,n,_,h1⟩:=(show ObjOk X.prog X.w H s.heap a (.frz ob (.lst xs)) from I.hok a _ ea);exact yg PySem.W.kitx_list I.kIn ⟨_,h1,rfl⟩ e (fun z=>nomatch z) h
 | @tup a xs ea=>cases (show u=Value.ref a from rx);obtain ⟨_,_,_,p⟩:=(show ObjOk X.prog X.w H s.heap a (.tup xs) from I.hok a _ ea);obtain ⟨o,h1,h2,_⟩:=p;exact yg PySem.W.kitx_tuple I.kIn ⟨o,h1,h2⟩ e (fun z=>nomatch z) h
 | @dK a kvs ea=>cases (show u=Value.ref a from rx);obtain ⟨_,_,vs,_,p⟩:=(show ObjOk X.prog X.w H s.heap a (.dK kvs) from I.hok a _ ea);obtain ⟨o,es,ep,h1,h2,_⟩:=p;exact yg PySem.W.kitx_dict I.kIn ⟨o,h1,h2.1⟩ e (fun z=>nomatch z) h
 | @dT a kvs ea=>cases (show u=Value.ref a from rx);obtain ⟨_,_,xs,_,o,es,ep,h1,h2,_⟩:=(show ObjOk X.prog X.w H s.heap a (.dT kvs) from I.hok a _ ea);exact yg PySem.W.kitx_dict I.kIn ⟨o,h1,h2.1⟩ e (fun z=>nomatch z) h
 | @ins a C dx fs ea cl ha hn htk hm=>cases (show u=Value.ref a from rx);obtain ⟨mA,O,_⟩:=jl8 I.hok ea;obtain ⟨od,J,_⟩:=O.look;exact yg (PySem.W.kitx_own (cl.get _) cl.hd ha hn htk hm) I.kIn J e (fun z=>nomatch z) h
end
end L2
namespace L2
open PySem PySem.Spec PyProof.Rows
structure Room (k:Nat) (A:Around):Prop where
 hd:A.handled=none
 dp:A.depth+3*k+5<recursionLimit
 un:A.units+16*k+200<cLine
theorem Room.mono {j k:Nat} {A:Around} (r:Room k A) (h:j<=k):Room j A:=⟨r.hd,by have:=r.dp;omega,by have:=r.un;omega⟩
theorem Room.deeper {k:Nat} {A:Around} (r:Room (k+1) A) (env:Env):Room k (A.deeper env):=⟨r.hd,by have:=r.dp;show A.depth+1+3*k+5<_;omega,by have:=r.un;show A.units+3+16*k+200<_;omega⟩
theorem Room.depth {k:Nat} {A:Around} (r:Room k A):A.depth<recursionLimit:=by have:=r.dp;omega
theorem Room.units {k:Nat} {A:Around} (r:Room k A):A.units+64<cLine:=by have:=r.un;omega
def ji2:TA:=fun _ H Q=>Q [] H
def jb6 (ta:TE) (tr:TA):TA:=fun σ H Q=>ta σ H fun x H1=>tr σ H1 fun xs H2=>Q (x::xs) H2
section
variable {X:Cx} {e:Expr} {es:List Expr} {te:TE} {t:TA} {pos:Pos}
theorem jba:PA X [] ji2:=fun _ _ _ _ H Q I h=>KR ⟨[],H,I,.nil,h⟩
theorem QI (ha:PE X e te) (hr:PA X es t) (hs:starEach (e::es) X.env=(false,eval e X.env)::starEach es X.env:=by rfl):PA X (e::es) (jb6 te t):=by intro pos tf s σ H Q I h;rw [hs];show wpAny _ _ (spliced ((false,eval e X.env)::backTo pos (starEach es X.env))) _ _ s;refine KJ (qt ‹"W"› fun u s1 zz=>?_);obtain ⟨x,H1,I1,r1,q1⟩:=zz;exact qt (hr pos tf s1 σ H1 _ I1 q1) fun us s2 ⟨xs,H2,I2,r2,q2⟩=>⟨x::xs,H2,I2,.cons r1 r2,q2⟩
def jp9 (t:TA):TE:=fun σ H Q=>t σ H fun xs H1=>xs.length<=sizeLine/\∀p,H1 p=none->Q (.ref p) (upd H1 p (.tup xs))
def jrH (t:TA):TE:=fun σ H Q=>t σ H fun xs H1=>xs.length<=sizeLine/\∀p,H1 p=none->Q (.ref p) (upd H1 p (.lst xs))
theorem jog {x1} (h:PA X es t):PE X (.Tuple es x1 pos) (jp9 t):=by intro tf s σ H Q I hq;refine wpAny_Tuple_spliced ‹"al"›;have hf:H1 s1.heap.objs.size=none:=I1.hok.fresh (Yn _);refine ⟨.ref s1.heap.objs.size,upd H1 s1.heap.objs.size (.tup xs),I1.laid (t':=s1.toks) (fun b u e=>Yg _ e) (Yn _) ?_,rfl,q _ hf⟩;exact ⟨z,us,r,⟨_,Yv _ rfl,rfl,_,rfl⟩⟩
theorem jom (h:PA X es t):PE X (.List es pos) (jrH t):=by intro tf s σ H Q I hq;refine wpAny_List_spliced ‹"al"›;have hf:H1 s1.heap.objs.size=none:=I1.hok.fresh (Yn _);refine ⟨.ref s1.heap.objs.size,upd H1 s1.heap.objs.size (.lst xs),I1.laid (t':=s1.toks) (fun b u e=>Yg _ e) (Yn _) ?_,rfl,q _ hf⟩;exact ⟨z,us,0,r,Yv _ rfl⟩
end
abbrev Sp:=List V->Hp->VK->XK->Prop
abbrev CXT:=List Env->Hp->Shared->XK->Value->Shared->Prop
structure Env0 (P:Program) (w:World) (K:PySem.W.Frag) (mg:Str->Option Value) (base:Heap) (A:Around) (outer:List Env) (s:Shared) (H:Hp):Prop where
 frames:A.frames=some outer
 mod:Mod K mg base
 bs:∀b o,base.get? b=some o->s.heap.get? b=some o/\H b=none
 bsz:base.objs.size<=s.heap.objs.size
 funs:s.heap.FunFrames base outer
 frf:∀b∈frs outer,H b=none
 hok:HOk P w H s.heap
 bare:AllBare s.gens
def CE (outer:List Env) (P:Program) (w:World) (H:Hp) (s:Shared) (Q:VK) (u:Value) (s':Shared):Prop:=∃v H',s'.os=s.os/\AllBare s'.gens/\Un (frs outer) [] H H' s.heap s'.heap/\HOk P w H' s'.heap/\RelV v u/\Q v H'
def CR (CX:CXT) (outer:List Env) (P:Program) (w:World) (H:Hp) (s:Shared) (Q:VK) (E:XK) (r:Result) (s':Shared):Prop:=
 match r with
 | .ok (.ret u)=>CE outer P w H s Q u s'
 | .ok _=>False
 | .error e=>CX outer H s E e s'
structure FnOk (P:Program) (w:World) (K:PySem.W.Frag) (mg:Str->Option Value) (base:Heap) (CX:CXT) (k:Nat) (f:Addr) (fd:FuncData) (ps:List Str) (sp:Sp):Prop where
 len:∀vs H Q E,sp vs H Q E->vs.length=ps.length
 run:∀(A:Around) (outer:List Env) (s:Shared) (H:Hp) (args:Args) (us:List Value) (vs:List V) (Q:VK) (E:XK),Room k A->Env0 P w K mg base A outer s H->BindsTo s fd args (ps.zip us)->Vals vs us->sp vs H Q E->
  codeAny (model P w) A (.call (.ref f) args) (CR CX outer P w H s Q E) s
theorem FnOk.mono {P:Program} {w:World} {K:PySem.W.Frag} {mg:Str->Option Value} {base:Heap} {CX:CXT} {j k:Nat} {f:Addr} {fd:FuncData} {ps:List Str} {sp:Sp} (F:FnOk P w K mg base CX j f fd ps sp) (h:j<=k) :
 FnOk P w K mg base CX k f fd ps sp:=⟨F.len,fun A outer s H args us vs Q E hr=>F.run A outer s H args us vs Q E (hr.mono h)⟩
theorem FnOk.imp {P:Program} {w:World} {K:PySem.W.Frag} {mg:Str->Option Value} {base:Heap} {CX:CXT} {k:Nat} {f:Addr} {fd:FuncData} {ps:List Str} {sp sp':Sp} (F:FnOk P w K mg base CX k f fd ps sp)
 (h:∀vs H Q E,sp' vs H Q E->sp vs H Q E):FnOk P w K mg base CX k f fd ps sp':=
 ⟨fun vs H Q E q=>F.len vs H Q E (h _ _ _ _ q),fun A outer s H args us vs Q E hr he hb hv hs=>F.run A outer s H args us vs Q E hr he hb hv (h _ _ _ _ hs)⟩
section
variable {X:Cx} {tf:List (Addr×Obj)} {σ:St} {H:Hp} {s s':Shared}
theorem Inv.env0 (I:Inv X tf σ H s):Env0 X.prog X.w X.K X.mg X.base X.A X.stack s H:=⟨I.ok.frames,I.ok.mod,I.bs,YZ I.ok.bsz I.sz,I.stack,I.stkFree,I.hok,I.bare⟩
theorem Inv.after {Q:VK} {u:Value} (I:Inv X tf σ H s) (h:CE X.stack X.prog X.w H s Q u s'):EP X tf σ Q u s':=by obtain ⟨v,H',os,bare,un,hok,r,q⟩:=h;obtain ⟨hh,g,d,t,os'⟩:=s';obtain rfl:os'=s.os:=os;exact ⟨v,H',I.call (h':=hh) (g':=g) (d':=d) (t':=t) (ch:=[]) un hok bare (fun b z=>absurd z (by simp)),r,q⟩
end
def jkU (sp:Sp) (dvs:List V) (E:XK) (t:TA):TE:=fun σ H Q=>t σ H fun vs H1=>sp (vs++dvs) H1 Q E
def Binds (K:PySem.W.Frag) (fd:FuncData) (ps:List Str) (ds:List Value):Prop:=∀(s:Shared) (us:List Value),K.In s.heap->(us++ds).length=ps.length->BindsTo s fd ⟨us,[]⟩ (ps.zip (us++ds))
theorem Binds.all {K:PySem.W.Frag} {fd:FuncData} {ps:List Str} (h:∀us:List Value,us.length=ps.length->bindArgs fd ⟨us,[]⟩=pure (ps.zip us)):Binds K fd ps []:=fun s us _ hl=>by rw [yK] at hl ⊢;exact .of_eq (h us hl)
def jgE (CX:CXT) (X:Cx) (E:XK):Prop:=∀(tf:List (Addr×Obj)) (σ:St) (H:Hp) (s:Shared) (e:Value) (s':Shared),Inv X tf σ H s->CX X.stack H s E e s'->X.xe e s'
section
variable {X:Cx} {CX:CXT} {k:Nat} {f C:Addr} {fd:FuncData} {ps:List Str} {sp:Sp} {dvs:List V} {ds:List Value} {E:XK} {x m:Str} {p pos apos:Pos} {e o:Expr} {es:List Expr} {ta:TE} {t:TA}
theorem jn6 {tf:List (Addr×Obj)} {σ:St} {H:Hp} {s:Shared} {Q:VK} {us:List Value} {vs:List V} (F:FnOk X.prog X.w X.K X.mg X.base CX k f fd ps sp) (hr:Room k X.A) (hb:Binds X.K fd ps ds) (hd:Vals dvs ds) (hx:jgE CX X E)
 (I:Inv X tf σ H s) (r:Vals vs us) (h:sp (vs++dvs) H Q E):wpAny ‹"c"› X.A (call (.ref f) us) (EP X tf σ Q) X.xe s:=by
 have r2:Vals (vs++dvs) (us++ds):=r.append hd;have hl:(us++ds).length=ps.length:=by rw [<-r2.length];exact F.len _ _ _ _ h
 refine wpAny_call (ka (F.run X.A X.stack s H ⟨us,[]⟩ (us++ds) (vs++dvs) Q E hr I.env0 (hb s us I.kIn hl) r2 h) fun r s' hq=>?_);cases r with
 | error e=>exact hx tf σ H s e s' I hq
 | ok fl=>
   cases fl with
   | ret u=>exact I.after hq
   | next=>exact False.elim hq
   | brk=>exact False.elim hq
   | cont=>exact False.elim hq
theorem jh6 (F:FnOk X.prog X.w X.K X.mg X.base CX k f fd ps sp) (hr:Room k X.A) (hg:Gl X x) (hm:X.mg x=some (.ref f)) (hk:PySem.W.keepIn X.K (.ref f)=true) (hb:Binds X.K fd ps ds) (hd:Vals dvs ds) (hx:jgE CX X E)
 (ha:PA X (e::es) t) (hdb:‹"p"›=false:=by decide) (he:starEach (e::es) X.env=(false,eval e X.env)::starEach es X.env:=by rfl) (hpl:(backTo pos (starEach es X.env)).any (·.1)=false:=by rfl) :
 PE X ‹"J"› (jkU sp dvs E t):=by
 intro tf s σ H Q I h;refine wpAny_Call_Name_kw (jhY I hg hm ?_ hdb);refine PySem.W.callWith_K (h₀:=X.base) I.ok.mod.kin hk (qt (ha pos tf s σ H _ I h) fun us s1 ⟨vs,H1,I1,r,q⟩=>⟨I1.kIn,?_⟩) he hpl;exact jn6 F hr hb hd hx I1 r q
end
section
variable {X:Cx} {CX:CXT} {k:Nat} {f C:Addr} {fd:FuncData} {ps ks:List Str} {sp:Sp} {E:XK} {x m:Str} {p pos apos kpos:Pos} {e o:Expr} {es:List Expr} {kws:List Keyword} {te ta:TE} {t tk:TA} {nm:Option Str}
variable {g:List Value->List Value->List Value} {gV:List V->List V->List V}
end
structure FnScope (N P:List Str) (sc:Scope):Prop where
 kind:sc.kind=.function
 co:sc.isCoroutine=false
 gen:sc.isGenerator=false
 nd:N.Nodup
 pre:N.take P.length=P
 par:∀x∈P,sc.names.lookup x=some .local\/sc.names.lookup x=some .cell
 nofree:∀y∈sc.names,y.2≠.free
theorem jdP {kindOf:Str->Option NameKind} {x:Str}:∀{binds:List (Str×Value)} {m:Str->Option Value},(∀v,(x,v)∉binds)->bindL kindOf binds m x=m x
 | [],_,_=>rfl
 | (n,v)::r,m,h=>by
   unfold bindL;rw [jdP fun w hw=>h w (Yk _ hw)];split
   . have:x≠n:=by rintro rfl;exact h v Ye
     simp [this]
   . rfl
theorem jdG {kindOf:Str->Option NameKind} {x:Str}:∀{binds:List (Str×Value)} {m:Str->Option Value},(∀v,(x,v)∉binds)->bindC kindOf binds m x=m x
 | [],_,_=>rfl
 | (n,v)::r,m,h=>by
   unfold bindC;rw [jdG fun w hw=>h w (Yk _ hw)];split
   . rfl
   . have:x≠n:=by rintro rfl;exact h v Ye
     simp [this]
theorem jdX {kindOf:Str->Option NameKind} {x:Str} {v:Value}:∀{P:List Str} {vs:List Value} {i:Nat} {m:Str->Option Value},P.Nodup->P[i]?=some x->vs[i]?=some v->kindOf x=some .local->
 bindL kindOf (P.zip vs) m x=some v
 | [],_,_,_,_,h,_,_=>by simp at h
 | _::_,[],_,_,_,_,h,_=>by simp at h
 | p::P,w::vs,0,m,nd,h1,h2,hk=>by simp at h1 h2;subst h1;subst h2;show bindL kindOf ((p,w)::P.zip vs) m p=_;unfold bindL;rw [jdP fun v hv=>(yh.mp nd).1 (yY hv).1,if_pos hk];simp
 | p::P,w::vs,i+1,m,nd,h1,h2,hk=>by show bindL kindOf ((p,w)::P.zip vs) m x=_;unfold bindL;exact jdX (i:=i) (yh.mp nd).2 (by simpa using h1) (by simpa using h2) hk
theorem jdC {kindOf:Str->Option NameKind} {x:Str} {v:Value}:∀{P:List Str} {vs:List Value} {i:Nat} {m:Str->Option Value},P.Nodup->P[i]?=some x->vs[i]?=some v->kindOf x≠some .local->
 bindC kindOf (P.zip vs) m x=some v
 | [],_,_,_,_,h,_,_=>by simp at h
 | _::_,[],_,_,_,_,h,_=>by simp at h
 | p::P,w::vs,0,m,nd,h1,h2,hk=>by simp at h1 h2;subst h1;subst h2;show bindC kindOf ((p,w)::P.zip vs) m p=_;unfold bindC;rw [jdG fun v hv=>(yh.mp nd).1 (yY hv).1,if_neg hk];simp
 | p::P,w::vs,i+1,m,nd,h1,h2,hk=>by show bindC kindOf ((p,w)::P.zip vs) m x=_;unfold bindC;exact jdC (i:=i) (yh.mp nd).2 (by simpa using h1) (by simpa using h2) hk
def ZM (N:List Str) (vs:List V):St:=vs.map some++List.replicate (N.length-vs.length) none
def jgy (CX:CXT) (P:Program) (w:World) (K:PySem.W.Frag) (mg:Str->Option Value) (base:Heap) (N:List Str) (qual:Str) (scope:Scope) (f:Addr) (cd:Value) (A:Around) (outer:List Env) (s:Shared) (H:Hp) (E:XK):Cx where
 prog:=P
 w:=w
 K:=K
 mg:=mg
 base:=base
 A:=A.deeper ‹"T"›
 N:=N
 s₀:=s
 H₀:=H
 env:=envOfC qual scope s.heap.objs.size f cd
 outer:=outer
 stack:=envOfC qual scope s.heap.objs.size f cd::outer
 ex:=[]
 calm:=true
 fn:=fun _=>true
 pn:=[]
 xe:=fun e s'=>wpAny (model P w) (A.deeper ‹"T"›) (leaving ‹"T"› e) (fun _ s''=>CX outer H s E e s'') (fun e' s''=>CX outer H s E e' s'') s'
theorem jga {sc:Scope} {n:Nat} {x:Str} (h:sc.names.lookup x=some .cell):∃c,(cellsFrom n sc.names []).lookup x=some c:=by have q:=PySem.W.cellsFrom_some sc.names n [] (.inl h);exact Option.isSome_iff_exists.mp q
theorem jjs {CX:CXT} {P:Program} {w:World} {K:PySem.W.Frag} {mg:Str->Option Value} {base:Heap} {N ps:List Str} {qual:Str} {scope:Scope} {f:Addr} {cd:Value} {A:Around} {outer:List Env} {s s1:Shared} {H:Hp} {E:XK} {us:List Value} {vs:List V}
 (S:FnScope N ps scope) (hd:A.handled=none) (e0:Env0 P w K mg base A outer s H) (hl:vs.length=ps.length) (r:Vals vs us)
 (x:InCallC s s.heap.objs.size (bindL ‹"T"›.kindOf (ps.zip us) fun _=>none) (cellsFrom (s.heap.objs.size+1) scope.names []) (bindC ‹"T"›.kindOf (ps.zip us) fun _=>none) s1) :
 Inv (jgy CX P w K mg base N qual scope f cd A outer s H E) [] (ZM N vs) H s1:=by
 have hpl:ps.length<=N.length:=by have:=congrArg List.length S.pre;rw [KZ] at this;omega
 obtain ⟨h1,tk,rfl,hk⟩:=x.done;have noA:∀b:Addr,b∉(jgy CX P w K mg base N qual scope f cd A outer s H E).ex:=fun b z=>absurd (show b∈([]:List Addr) from z) (by simp);refine ⟨⟨e0.mod,S.kind,rfl,rfl,Yn _,fun y z c h1 h2=>?_,fun y hy=>?_,fun y c _ h=>?_,fun _=>hd,Around.frames_deeper e0.frames,.inr ⟨rfl,rfl⟩,fun b z=>absurd z (noA b),e0.bs,e0.bsz,fun b _ _=>noA b,fun b z=>absurd z (noA b),e0.funs,e0.frf⟩,
  rfl,e0.bare,Un.kept hk,⟨_,x.toInCall.ns,fun i y v h1 h2 h3=>?_⟩,fun y c h=>⟨_,x.cell y c h⟩,e0.hok.fresh (Yn _),fun y c h=>?_,fun p hp=>absurd (show p∈([]:List (Addr×Obj)) from hp) (by simp),e0.hok.kept hk,?_⟩
 . exact name_of_addr x.apart (Kc h1) (Kc h2)
 . have hy:scope.names.lookup y=some .cell\/scope.names.lookup y=some .free:=hy;rcases hy with hy | hy
   . exact jga hy
   . exact absurd rfl (S.nofree _ (Kc hy))
 . exact yF (x.above y c (Kc h))
 . have hi:i<vs.length:=by
    unfold ZM at h2;by_cases hi:i<vs.length
    . exact hi
    . rw [Yy ‹"5"›] at h2;rw [List.getElem?_replicate] at h2;split at h2 <;> cases h2
   have ha:vs[i]?=some v:=by
    unfold ZM at h2;rw [Yw ‹"5"›,List.getElem?_map] at h2;cases e:vs[i]? with
    | none=>rw [e] at h2;cases h2
    | some a=>rw [e] at h2;cases h2;rfl
   obtain ⟨u,hu,rv⟩:=r.get ha;have hp:ps[i]?=some y:=by rw [<-S.pre,List.getElem?_take_of_lt (by omega)];exact h1
   have ndP:ps.Nodup:=by rw [<-S.pre];exact S.nd.sublist (List.take_sublist _ _)
   refine ⟨u,rv,?_⟩;rcases S.par y (Yz hp) with k | k
   . exact .inl ⟨k,jdX ndP hp hu k⟩
   . obtain ⟨c,e⟩:=jga (n:=s.heap.objs.size+1) k;refine .inr ⟨.inl k,c,e,?_⟩;have q:=x.cell y c e;rw [jdC ndP hp hu (by show scope.names.lookup y≠_;rw [k];decide)] at q;exact q
 . exact e0.hok.fresh (yF (x.above y c (Kc h)))
 . unfold ZM;show _=N.length;rw [YD,Yd,List.length_replicate];omega
theorem jp8 {CX:CXT} {P:Program} {w:World} {K:PySem.W.Frag} {mg:Str->Option Value} {base:Heap} {k:Nat} {f:Addr} {name qual:Str} {params:Arguments} {body:List Stmt} {scope:Scope} {dV kV doc pm cdv ct oc:Value} {an od:Option Addr}
 {osl:Array (Option Value)} {N ps:List Str} {sp:Sp} (lk:K.lookup f=some ⟨oc,od,.func (PySem.W.fnOf name qual params body scope dV kV doc pm an cdv ct),osl⟩) (hcd:PySem.W.codeIn K cdv qual=true) (S:FnScope N ps scope)
 (len:∀vs H Q E,sp vs H Q E->vs.length=ps.length)
 (hbody:∀(A:Around) (outer:List Env) (s:Shared) (H:Hp) (vs:List V) (Q:VK) (E:XK),Room k (A.deeper (envOfC qual scope s.heap.objs.size f cdv))->sp vs H Q E->
  ∃t,PSs (jgy CX P w K mg base N qual scope f cdv A outer s H E) body t/\t { nx:=fun _ H'=>Q .non H',rt:=Q } (ZM N vs) H) :
 FnOk P w K mg base CX (k+1) f (PySem.W.fnOf name qual params body scope dV kV doc pm an cdv ct) ps sp:=by
 refine ⟨len,fun A outer s H args us vs Q E hr e0 hb r hsp=>?_⟩;have hl:=len _ _ _ _ hsp;have KX:K.In s.heap:=e0.mod.kin.keeps fun b o e=>(e0.bs b o e).1;have lim:s.heap.NoLimit:=e0.mod.nolimit.keeps fun b o e=>(e0.bs b o e).1;have hkind:∀y∈ps.zip us,scope.names.lookup y.1=some .local\/(scope.names.lookup y.1=some .cell/\((cellsFrom (s.heap.objs.size+1) scope.names []).lookup y.1).isSome=true):=fun ⟨n,v⟩ hy=>by
  rcases S.par n (yY hy).1 with q | q
  . exact .inl q
  . exact .inr ⟨q,PySem.W.cellsFrom_some _ _ _ (.inl q)⟩
 refine codeAny_call_function hr.depth (KX _ _ lk) rfl S.co S.gen rfl (PySem.W.codeRec_of KX hcd) (hb _ _ _ _ ?_);refine wpAny_newFunctionEnv_cells S.kind hkind fun env he s1 x=>?_;subst he;refine ⟨lim.keeps x.toInCall.keep,codeAny_func ?_⟩;obtain ⟨t,ht,hq⟩:=hbody A outer s H vs Q E (hr.deeper _) hsp;have I:Inv (jgy CX P w K mg base N qual scope f cdv A outer s H E) [] (ZM N vs) H s1:=jjs S hr.hd e0 hl r x;refine ye (ht [] s1 (ZM N vs) H _ I hq) (fun fl s' hs=>?_) fun e s' hs=>hs;have fin:∀{σ':St} {H':Hp} {v:V} {u:Value},Inv (jgy CX P w K mg base N qual scope f cdv A outer s H E) [] σ' H' s'->RelV v u->Q v H'->CE outer P w H s Q u s':=fun {σ' H' v u} J rv q=>⟨v,H',J.os,J.bare,J.base,J.hok,rv,q⟩
 cases fl with
 | ret u=>obtain ⟨v,σ',H',J,rv,q⟩:=hs;exact fin J rv q
 | next=>obtain ⟨σ',H',J,q⟩:=hs;exact fin (v:=V.non) (u:=Value.none) J rfl q
 | brk=>obtain ⟨_,_,_,q⟩:=hs;exact False.elim q
 | cont=>obtain ⟨_,_,_,q⟩:=hs;exact False.elim q
end L2
namespace L2
open PySem PySem.Spec PyProof.Rows
section
variable {X:Cx} {x:Str} {p pos:Pos} {e:Expr} {es:List Expr} {t:TA} {id T:String} {r:List V->Hp->VK->Prop}
def tCB (r:List V->Hp->VK->Prop) (t:TA):TE:=fun σ H Q=>t σ H fun vs H1=>r vs H1 Q
theorem jcl (hc:CallR X (.builtin id) r) (hg:Gl X x) (hm:X.mg x=none) (hv:bootBuiltins x=some (.builtin id)) (ha:PA X (e::es) t) (hn:x ≠ "__name__":=by decide) (hdb:‹"p"›=false:=by decide)
 (he:starEach (e::es) X.env=(false,eval e X.env)::starEach es X.env:=by rfl) (hpl:(backTo pos (starEach es X.env)).any (·.1)=false:=by rfl):PE X ‹"J"› (tCB r t):=by
 intro tf s σ H Q I h;refine wpAny_Call_Name_kw (JR I hg hm hv ?_ hn hdb);exact PyProof.Rows.callWith_builtin1 ‹"as"› he hpl
theorem ja6 (hc:CallR X (.type T) r) (hg:Gl X x) (hm:X.mg x=none) (hv:bootBuiltins x=some (.type T)) (ha:PA X (e::es) t) (hn:x ≠ "__name__":=by decide) (hdb:‹"p"›=false:=by decide)
 (he:starEach (e::es) X.env=(false,eval e X.env)::starEach es X.env:=by rfl) (hpl:(backTo pos (starEach es X.env)).any (·.1)=false:=by rfl):PE X ‹"J"› (tCB r t):=by
 intro tf s σ H Q I h;refine wpAny_Call_Name_kw (JR I hg hm hv ?_ hn hdb);exact YN ‹"as"› he hpl
end
end L2
namespace HT
open PySem PyProof.Rows
section
open PySem.SeqAt
open PySem.AutoSeq1 (wpAny_loadPart')
open PySem.MeetsSeq PySem.MeetsSeq2 PySem.MeetsSeq3
end
section
variable {prog:Program} {w:World} {A:Around} {E:Value->Shared->Prop} {s:Shared}
def sIx (n d:Nat):Option Int->Nat
 | none=>d
 | some v=>if v<0 then (v+(n:Int)).toNat else min v.toNat n
theorem sIx_none (n d:Nat):sIx n d none=d:=rfl
theorem sIx_nat (n d k:Nat):sIx n d (some (k:Int))=min k n:=by show (if (k:Int)<0 then ((k:Int)+(n:Int)).toNat else min (k:Int).toNat n)=min k n;rw [if_neg (by omega),Ym]
end
end HT
namespace L2
open PySem PySem.Spec PyProof.Rows
abbrev TO:=St->Hp->(Option Int->Hp->Prop)->Prop
def PO (X:Cx) (e:Option Expr) (t:TO):Prop:=
 ∀(tf:List (Addr×Obj)) (s:Shared) (σ:St) (H:Hp) (Q:Option Int->Hp->Prop),Inv X tf σ H s->t σ H Q->
   wpAny ‹"c"› X.A (evalPart e X.env) (fun u s'=>∃o H',Inv X tf σ H' s'/\IsPart u o/\Q o H') X.xe s
def jhR:TO:=fun _ H Q=>Q none H
def jnS (t:TE):TO:=fun σ H Q=>t σ H fun x H1=>∃i,x=.int i/\Q (some i) H1
theorem QG {ns:List Int}:∀{us:List Value},Vals (ns.map V.int) us->IntsAre us ns:=by
 induction ns with
 | nil=>intro us r;rw [yP] at r;cases r;exact .nil
 | cons n ns ih=>
   intro us r;rw [List.map_cons] at r;cases r with
   | cons r1 r2=>obtain ⟨t,e⟩:=r1;subst e;exact .cons n t (ih r2)
section
variable {X:Cx} {e:Expr} {te:TE} {lo hi:Option Expr} {tl th:TO} {pos p2:Pos}
theorem jmt:PO X none jhR:=by intro tf s σ H Q I h;rw [evalPart_none];exact Yh ⟨none,H,I,.none,h⟩
theorem jlV (h:PE X e te):PO X (some e) (jnS te):=by intro tf s σ H Q I hw;rw [evalPart_some];refine qt (h tf s σ H _ I hw) fun u s1 zz=>?_;obtain ⟨x,H1,I1,r1,q1⟩:=zz;obtain ⟨i,rfl,q⟩:=q1;obtain ⟨t,rfl⟩:=r1;exact ⟨some i,H1,I1,.int i t,q⟩
def SlR (X:Cx) (r:V->Option Int->Option Int->Hp->VK->Prop):Prop:=
 ∀(tf:List (Addr×Obj)) (s:Shared) (σ:St) (H:Hp) (x:V) (v vl vu:Value) (lo hi:Option Int) (sl:Addr) (Q:VK),Inv X tf σ H s->RelV x v->s.heap.IsSliceOf sl vl vu .none->IsPart vl lo->IsPart vu hi->r x lo hi H Q->
   ∃T id,typeLookup (.type T) "__getitem__"=pure (some (.builtin id)) ∧ s.TypeIs v T ∧ wpAny ‹"c"› X.A (getItem v (.ref sl)) (EP X tf σ Q) X.xe s
def tSl (r:V->Option Int->Option Int->Hp->VK->Prop) (te:TE) (tl th:TO):TE:=fun σ H Q=>te σ H fun x H1=>tl σ H1 fun l H2=>th σ H2 fun u H3=>r x l u H3 Q
theorem jkW {r:V->Option Int->Option Int->Hp->VK->Prop} (hr:SlR X r) (he:PE X e te) (hl:PO X lo tl) (hu:PO X hi th):PE X (.Subscript e (.Slice lo hi none p2) pos) (tSl r te tl th):=by intro tf s σ H Q I h;refine Subscript_ (qt (he tf s σ H _ I h) fun v s1 zz=>?_);obtain ⟨x,H1,I1,r1,q1⟩:=zz;refine wpAny_Slice (qt (hl tf s1 σ H1 _ I1 q1) fun vl s2 ⟨l,H2,I2,pl,q2⟩=>qt (hu tf s2 σ H2 _ I2 q2) fun vu s3 zz=>?_);obtain ⟨u,H3,I3,pu,q3⟩:=zz;rw [evalPart_none];refine Yh ?_;have I4:Inv X tf σ H3 { s3 with heap:=s3.heap.push { cls:=.type "slice",data:=.fields #[vl,vu,.none] } }:=I3.kept (t':=s3.toks) fun b ob q=>Yg _ q;obtain ⟨T,id,hT,ht,hg⟩:=hr tf { s3 with heap:=s3.heap.push { cls:=.type "slice",data:=.fields #[vl,vu,.none] } } σ H3 x v vl vu l u s3.heap.objs.size Q I4 r1 (Heap.IsSliceOf.new ..) pl pu q3;show wpAny ‹"c"› X.A (subscriptTail e (.Slice lo hi none p2) v (.ref s3.heap.objs.size)) (EP X tf σ Q) X.xe { s3 with heap:=s3.heap.push { cls:=.type "slice",data:=.fields #[vl,vu,.none] } };exact tail_any (ops:=[.ref s3.heap.objs.size,v]) ht hT hg (by with_unfolding_all rfl)
def jiL (xs:List V) (lo hi:Option Int):List V:=(xs.drop (HT.sIx xs.length 0 lo)).take ‹"an"›
theorem jfa (xs:List V) (lo hi:Option Int):(jiL xs lo hi).length<=xs.length:=by unfold jiL;rw [KZ,List.length_drop];omega
end
end L2
namespace L2
open PySem PySem.Spec PyProof.Rows
def ixN (n:Nat) (i:Int):Option Nat:=if 0<=i then (if i<n then some i.toNat else none) else if -(n:Int)<=i then some (i+n).toNat else none
def atI {α:Type} (xs:List α) (i:Int):Option α:=(ixN xs.length i).bind fun j=>xs[j]?
theorem jhN {n:Nat} {i:Int} {j:Nat} (h:ixN n i=some j):seqIndex? i n=some j/\j<n /\ -(n:Int)<=i/\i<n:=by
 unfold ixN at h;by_cases h0:0<=i
 . rw [if_pos h0] at h;by_cases h1:i<n
   . rw [if_pos h1] at h;have e:i.toNat=j:=Option.some.inj h;exact ⟨by rw [seqIndex_of h0 h1,e],by omega,by omega,h1⟩
   . rw [if_neg h1] at h;cases h
 . rw [if_neg h0] at h;by_cases h1:-(n:Int)<=i
   . rw [if_pos h1] at h;have e:(i+n).toNat=j:=Option.some.inj h;exact ⟨by rw [seqIndex_neg (by omega) h1,e],by omega,h1,by omega⟩
   . rw [if_neg h1] at h;cases h
theorem jeK {α:Type} {xs:List α} {i:Int} {v:α} (h:atI xs i=some v):∃j,seqIndex? i xs.length=some j/\xs[j]?=some v/\j<xs.length /\ -(xs.length:Int)<=i/\i<xs.length:=by
 unfold atI at h;cases e:ixN xs.length i with
 | none=>rw [e] at h;cases h
 | some j=>rw [e] at h;obtain ⟨h1,h2,h3,h4⟩:=jhN e;exact ⟨j,h1,h,h2,h3,h4⟩
def jeu (b:Expr):Prop:=∀o i,subscripted b false o i=operate [o,i] (getItem o i)
def IxR (X:Cx) (r:R2):Prop:=
 ∀(value slice:Expr) (tf:List (Addr×Obj)) (s:Shared) (σ:St) (H:Hp) (x y:V) (v u:Value) (Q:VK),Inv X tf σ H s->RelV x v->RelV y u->r x y H Q->
   subscripted slice false v u=operate [v,u] (getItem v u)->wpAny ‹"c"› X.A (subscriptTail value slice v u) (EP X tf σ Q) X.xe s
def MtR (X:Cx) (id:String) (r:V->List V->Hp->VK->Prop):Prop:=
 ∀(tf:List (Addr×Obj)) (s:Shared) (σ:St) (H:Hp) (x:V) (xs:List V) (v:Value) (us:List Value) (Q:VK),Inv X tf σ H s->RelV x v->Vals xs us->r x xs H Q->
   wpAny ‹"c"› X.A (call (.builtin id) (v::us)) (EP X tf σ Q) X.xe s
section
variable {X:Cx} {a b:Expr} {ta tb:TE} {pos:Pos}
theorem IxR.or {r r':R2} (h:IxR X r) (h':IxR X r'):IxR X (fun x y H Q=>r x y H Q\/r' x y H Q):=by
 intro value slice tf s σ H x y v u Q I rx ry q hs;rcases q with q | q
 . exact h value slice tf s σ H x y v u Q I rx ry q hs
 . exact h' value slice tf s σ H x y v u Q I rx ry q hs
theorem jny {r:R2} (hr:IxR X r) (ha:PE X a ta) (hb:PE X b tb) (hs:jeu b):PE X (.Subscript a b pos) (tOp r ta tb):=by intro tf s σ H Q I h;exact Subscript_ (jpg ha hb I h fun v u s2 x y H2 I2 rx ry q=>hr a b tf s2 σ H2 x y v u Q I2 rx ry q (hs _ _))
def jqG (K:PySem.W.Frag):R2:=fun x y H Q=>∃p xs i v,x=.ref p/\y=.int i/\Jc K H p xs/\atI xs i=some v/\Q v H
def jrF (K:PySem.W.Frag):R2:=fun x y H Q=>∃p xs i v,x=.ref p/\y=.int i/\SqT K H p xs/\atI xs i=some v/\Q v H
def jqh:R2:=fun x y H Q=>∃z i c,x=.str z/\y=.int i/\z.length<=sizeLine/\atI z.cps.toList i=some c/\Q (.str ⟨#[c]⟩) H
theorem ix_list:IxR X (jqG X.K):=by
 intro value slice tf s σ H x y v u Q I rx ry h hs;obtain ⟨p,xs,i,z,rfl,rfl,hq,he,q⟩:=h;cases rx;obtain ⟨t,rfl⟩:=ry;obtain ⟨tF,r,pl,hz⟩:=I.list hq;obtain ⟨j,h1,h2,h3,h4,h5⟩:=jeK he;obtain ⟨w,ew,rw'⟩:=r.get h2;have hl:=r.length;have hn:=ZY;have fin:EP X tf σ Q w s:=⟨z,H,I,rw',q⟩;by_cases h0:0<=i
 . have hj:i.toNat=j:=by rw [seqIndex_of h0 h5] at h1;exact Option.some.inj h1
   exact item_listR pl.isList h0 (by omega) (by rw [hj];simpa using ew) fin hs
 . have hj:(i+(tF.toArray.size:Int)).toNat=j:=by rw [seqIndex_neg (by omega) h4] at h1;rw [YA,<- hl];exact Option.some.inj h1
   exact subscriptTail_builtinR (x:=w) pl.isList.typeIs slot_list_getitem.lookup
    (wpAny_getItem_list_neg (Q:=fun r s'=>r=w/\EP X tf σ Q r s') pl.isList (by omega) (by rw [YA] <;> omega) (by omega) (by rw [hj];simpa using ew) ⟨rfl,fin⟩) hs
theorem ix_tup:IxR X (jrF X.K):=by
 intro value slice tf s σ H x y v u Q I rx ry h hs;obtain ⟨p,xs,i,z,rfl,rfl,hq,he,q⟩:=h;cases rx;obtain ⟨t,rfl⟩:=ry;obtain ⟨tF,r,pl,hz⟩:=I.tuple hq;obtain ⟨j,h1,h2,h3,h4,h5⟩:=jeK he;obtain ⟨w,ew,rw'⟩:=r.get h2;have hl:=r.length;have hn:=ZY;have fin:EP X tf σ Q w s:=⟨z,H,I,rw',q⟩;exact subscriptTail_builtinR (x:=w) pl.typeIs slot_tuple_getitem.lookup
  (getItem_tuple (j:=j) (Q:=fun r s'=>r=w/\EP X tf σ Q r s') pl (by omega) (by omega) (by rw [YA,<- hl];exact h1) (by simpa using ew) ⟨rfl,fin⟩) hs
theorem jpz:IxR X jqh:=by
 intro value slice tf s σ H x y v u Q I rx ry h hs;obtain ⟨z,i,c,rfl,rfl,hz,he,q⟩:=h;obtain ⟨t,rfl⟩:=rx;obtain ⟨t',rfl⟩:=ry;obtain ⟨j,h1,h2,h3,h4,h5⟩:=jeK he;have hl:z.cps.toList.length=z.length:=by simp [Str.length]
 rw [hl] at h1 h4 h5;have hn:=ZY;exact tail_any (typeIs_str s z t) slot_str_getitem.lookup (getItem_str (c:=c) (by have e1:decide (i < -(2 ^ 63:Int))=false:=YY (by omega);have e2:decide (i>=2 ^ 63)=false:=YY (by omega);rw [e1,e2,Bool.or_false]) (by rw [h1];simpa using h2) ⟨.str ⟨#[c]⟩,H,I.tok _,⟨_,rfl⟩,q⟩) hs
def rIx (K:PySem.W.Frag):R2:=fun x y H Q=>jqG K x y H Q\/jrF K x y H Q\/jqh x y H Q
theorem jjZ:IxR X (rIx X.K):=ix_list.or (ix_tup.or jpz)
theorem jhd (tF:List Value) (n j:Nat) (u:Value):Obj.mapSeq (·.setIfInBounds j u) { cls:=.type "list",data:=.seq tF.toArray n }={ cls:=.type "list",data:=.seq (tF.set j u).toArray n }:=by simp [Obj.mapSeq]
theorem Inv.lst {tf:List (Addr×Obj)} {σ:St} {H:Hp} {s:Shared} {p:Addr} {xs:List V} (I:Inv X tf σ H s) (h:H p=some (.lst xs)) :
 ∃(tF:List Value) (n:Nat),Vals xs tF ∧ s.heap.get? p=some { cls:=.type "list",data:=.seq tF.toArray n } ∧ xs.length ≤ sizeLine:=by
 obtain ⟨z,tF,n,r,e⟩:=I.hok p _ h;exact ⟨tF,n,r,e,z⟩
theorem Inv.lstUpd {tf:List (Addr×Obj)} {σ:St} {H:Hp} {s:Shared} {p:Addr} {xs ys:List V} {tF its':List Value} {n n':Nat} {f:Obj->Obj} (I:Inv X tf σ H s) (h:H p=some (.lst xs))
 (ho:s.heap.get? p=some { cls:=.type "list",data:=.seq tF.toArray n }) (hf:f { cls:=.type "list",data:=.seq tF.toArray n }={ cls:=.type "list",data:=.seq its'.toArray n' }) (r:Vals ys its') (hz:ys.length ≤ sizeLine) (t:Nat) :
 Inv X tf σ (upd H p (.lst ys)) { s with heap:=s.heap.update p f,toks:=t }:=by
 have e:(s.heap.update p f).get? p=some { cls:=.type "list",data:=.seq its'.toArray n' }:=by rw [YS f ho (by rw [hf] <;> rfl),hf]
 refine I.write (x:=p) (e:=p) (by rw [h];trivial) (.inl rfl) (fun b u hb q=>(Heap.get?_update_other _ _ (Ne.symm hb)).trans q) ⟨_,e⟩ ?_;exact ⟨hz,its',n',r,e⟩
def jj6:V->V->V->Hp->(Hp->Prop)->Prop:=fun o i v H Q=>∃p xs k j,o=.ref p/\i=.int k/\H p=some (.lst xs)/\ixN xs.length k=some j/\Q (upd H p (.lst (xs.set j v)))
theorem jfk:jpT X jj6:=by
 intro tf s σ H o i v ov iv u Q I ro ri rv h;obtain ⟨p,xs,k,j,rfl,rfl,hp,hj,q⟩:=h;cases ro;obtain ⟨t,rfl⟩:=ri;obtain ⟨tF,n,r,ho,hz⟩:=I.lst hp;obtain ⟨h1,h2,h3,h4⟩:=jhN hj;have hl:=r.length;have hn:=ZY;have I':Inv X tf σ (upd H p (.lst (xs.set j v))) { s with heap:=s.heap.update p (Obj.mapSeq (·.setIfInBounds j u)) }:=I.lstUpd hp ho (jhd tF n j u) (r.set rv j) (by rw [KI];exact hz) s.toks
 by_cases h0:0<=k
 . have hk:k.toNat=j:=by rw [seqIndex_of h0 h4] at h1;exact Option.some.inj h1
   exact PySem.W.ki_setAt ho h0 (by omega) (by rw [YA,<- hl];exact h4) (by rw [hk];exact ⟨_,I',q⟩)
 . have hk:(k+(tF.toArray.size:Int)).toNat=j:=by rw [seqIndex_neg (by omega) h3] at h1;rw [YA,<- hl];exact Option.some.inj h1
   exact PySem.W.ki_setBack ho (by omega) (by rw [YA,<- hl];exact h3) (by omega) (by rw [hk];exact ⟨_,I',q⟩)
theorem jeb (lo hi:Option Int) (n:Nat):(sliceBounds lo hi none n).1=((HT.sIx n 0 lo:Nat):Int)/\(sliceBounds lo hi none n).2.1=((HT.sIx n n hi:Nat):Int)/\(sliceBounds lo hi none n).2.2=1:=by
 refine ⟨?_,?_,rfl⟩
 . cases lo with
   | none=>simp [sliceBounds,HT.sIx]
   | some i=>
     simp only [sliceBounds,HT.sIx,Option.getD_none,show (1:Int)>0 by decide,yC];by_cases h:i<0
     . simp only [h,yC] <;> omega
     . simp only [h,ym] <;> omega
 . cases hi with
   | none=>simp [sliceBounds,HT.sIx]
   | some i=>
     simp only [sliceBounds,HT.sIx,Option.getD_none,show (1:Int)>0 by decide,yC];by_cases h:i<0
     . simp only [h,yC] <;> omega
     . simp only [h,ym] <;> omega
theorem jdm (tF:List Value) (lo hi:Option Int):slicePick tF.toArray lo hi none=((tF.drop (HT.sIx tF.length 0 lo)).take (HT.sIx tF.length tF.length hi-HT.sIx tF.length 0 lo)).toArray:=by obtain ⟨h1,h2,h3⟩:=jeb lo hi tF.toArray.size;unfold slicePick;rw [h1,h2,h3];simp only [sliceRange_one,pick_run,YA] <;> rfl
def joh (K:PySem.W.Frag):V->Option Int->Option Int->Hp->VK->Prop:=fun x lo hi H Q=>∃a xs,x=.ref a/\Jc K H a xs/\∀p,H p=none->Q (.ref p) (upd H p (.lst (jiL xs lo hi)))
theorem jmz:SlR X (joh X.K):=by intro tf s σ H x v vl vu lo hi sl Q I rx hs pl pu h;obtain ⟨a,xs,rfl,hx,q⟩:=h;cases rx;obtain ⟨tF,r,ht,hz⟩:=I.list hx;have tL:=r.length;refine ⟨"list",_,slot_list_getitem.lookup,ht.isList.typeIs,?_⟩;refine wpAny_getItem_list_slice ht.isList hs pl pu .none (by simp) ?_ (by rw [YA] <;> omega);rw [jdm,<- tL];refine ⟨.ref s.heap.objs.size,_,I.laid (t':=s.toks) (o:=.lst (jiL xs lo hi)) (fun b ob q=>Yg _ q) (Yn _) ?_,rfl,q _ (I.hok.fresh (Yn _))⟩;exact ⟨YZ (jfa xs lo hi) hz,_,0,(r.drop (HT.sIx xs.length 0 lo)).take ‹"an"›,Yv _ rfl⟩
def jf4:V->Bool
 | .non=>true
 | .bl _=>true
 | .int _=>true
 | .str _=>true
 | _=>false
def eqV:V->V->Bool
 | .non,.non=>true
 | .bl a,.bl b=>a == b
 | .bl a,.int b=>(if a then 1 else 0) == b
 | .int a,.bl b=>a == (if b then 1 else 0)
 | .int a,.int b=>a == b
 | .str a,.str b=>a == b
 | _,_=>false
theorem jeh {A:Around} {s:Shared} {y x:V} {u v:Value} (ry:RelV y u) (rx:RelV x v) (fy:jf4 y=true) (fx:jf4 x=true):SeqAt.EqAt A s u v (eqV y x):=by
 cases y with
 | non=>
   cases ry;cases x with
   | non=>cases rx;exact SeqAt.EqAt.same _
   | bl b=>cases rx;exact SeqAt.EqAt.none_bool b
   | int b=>obtain ⟨t,rfl⟩:=rx;exact SeqAt.EqAt.none_int b t
   | str b=>obtain ⟨t,rfl⟩:=rx;exact SeqAt.EqAt.none_str b t
   | _=>exact absurd (show false=true from fx) Yf
 | bl a=>
   cases ry;cases x with
   | non=>cases rx;exact SeqAt.EqAt.bool_none a
   | bl b=>cases rx;exact SeqAt.EqAt.bool_bool a b
   | int b=>obtain ⟨t,rfl⟩:=rx;exact SeqAt.EqAt.bool_int a b t
   | str b=>obtain ⟨t,rfl⟩:=rx;exact SeqAt.EqAt.bool_str a b t
   | _=>exact absurd (show false=true from fx) Yf
 | int a=>
   obtain ⟨t',rfl⟩:=ry;cases x with
   | non=>cases rx;exact SeqAt.EqAt.int_none a t'
   | bl b=>cases rx;exact SeqAt.EqAt.int_bool a t' b
   | int b=>obtain ⟨t,rfl⟩:=rx;exact SeqAt.EqAt.int_int a t' b t
   | str b=>obtain ⟨t,rfl⟩:=rx;exact SeqAt.EqAt.int_str a t' b t
   | _=>exact absurd (show false=true from fx) Yf
 | str a=>
   obtain ⟨t',rfl⟩:=ry;cases x with
   | non=>cases rx;exact SeqAt.EqAt.str_none a t'
   | bl b=>cases rx;exact SeqAt.EqAt.str_bool a t' b
   | int b=>obtain ⟨t,rfl⟩:=rx;exact SeqAt.EqAt.str_int a t' b t
   | str b=>obtain ⟨t,rfl⟩:=rx;exact SeqAt.EqAt.str_str a t' b t
   | _=>exact absurd (show false=true from fx) Yf
 | _=>exact absurd (show false=true from fy) Yf
theorem call_len_seq:CallR X (.builtin "len") (fun xs H Q=>∃p ys,xs=[.ref p] ∧ (Jc X.K H p ys ∨ SqT X.K H p ys) ∧ Q (.int ys.length) H):=by
 intro tf s σ H xs us Q I r h;obtain ⟨p,ys,rfl,hq,q⟩:=h;obtain ⟨u,rfl,rx⟩:=jbG r;cases rx;have hn:=ZY;rcases hq with hq | hq
 . obtain ⟨tF,r',pl,hz⟩:=I.list hq;have tL:=r'.length;exact Calls.call_len_list pl.isList (by simp only [YA] <;> omega) ⟨.int ys.length,H,I.tok _,⟨s.toks+1,by rw [YA,tL]⟩,q⟩
 . obtain ⟨tF,r',pl,hz⟩:=I.tuple hq;have tL:=r'.length;exact len_tuple pl (by simp only [YA] <;> omega) ⟨.int ys.length,H,I.tok _,⟨s.toks+1,by rw [YA,tL]⟩,q⟩
theorem jeI:CallR X (.builtin "len") (fun xs H Q=>∃z,xs=[.str z] ∧ z.length ≤ sizeLine ∧ Q (.int z.length) H):=by intro tf s σ H xs us Q I r h;obtain ⟨z,rfl,hz,q⟩:=h;obtain ⟨u,rfl,t,rfl⟩:=jbG r;have hn:=ZY;exact len_str (by omega) ⟨.int z.length,H,I.tok _,⟨_,rfl⟩,q⟩
theorem CallR.or {f:Value} {r r':List V->Hp->VK->Prop} (h:CallR X f r) (h':CallR X f r'):CallR X f (fun xs H Q=>r xs H Q\/r' xs H Q):=by
 intro tf s σ H xs us Q I rs q;rcases q with q | q
 . exact h tf s σ H xs us Q I rs q
 . exact h' tf s σ H xs us Q I rs q
theorem je5:CallR X (.type "list") (fun xs H Q=>∃p ys,xs=[.ref p] ∧ (Jc X.K H p ys ∨ SqT X.K H p ys) ∧ ∀l,H l=none → Q (.ref l) (upd H l (.lst ys))):=by
 intro tf s σ H xs us Q I r h;obtain ⟨p,ys,rfl,hq,q⟩:=h;obtain ⟨u,rfl,rx⟩:=jbG r;cases rx;have fin:∀(tF:List Value),Vals ys tF->ys.length<=sizeLine->∀(h':Heap) (c':Nat),(∀b o',s.heap.get? b=some o'->h'.get? b=some o')->
  h'.get? s.heap.objs.size=some { cls:=.type "list",dict:=none,data:=.seq tF.toArray c',slots:=#[] } → EP X tf σ Q (.ref s.heap.objs.size) { s with heap:=h' }:=fun tF r' hz h' c' kp e=>
  ⟨.ref s.heap.objs.size,_,I.laid (t':=s.toks) kp (Yn _) (show ObjOk X.prog X.w _ h' _ (.lst ys) from ⟨hz,tF,c',r',e⟩),rfl,q _ (I.hok.fresh (Yn _))⟩
 rcases hq with hq | hq
 . obtain ⟨tF,r',pl,hz⟩:=I.list hq;have tL:=r'.length;obtain ⟨o,ho,hc,n,hd⟩:=pl.isList;exact call_list_seq p (.inl rfl) ho hc hd (fun h' c' kp e=>fin tF r' hz h' c' kp e) (by simp only [YA] <;> omega)
 . obtain ⟨tF,r',pl,hz⟩:=I.tuple hq;have tL:=r'.length;obtain ⟨o,ho,hc,n,hd⟩:=pl;exact call_list_seq p (.inr rfl) ho hc hd (fun h' c' kp e=>fin tF r' hz h' c' kp e) (by simp only [YA] <;> omega)
def tyV (K:PySem.W.Frag) (T:String) (x:V) (H:Hp):Prop:=match x with
 | .str _=>T = "str"
 | .int _=>T = "int"
 | .ref p=>(T = "list" ∧ ∃xs,Jc K H p xs) ∨ (T="tuple" ∧ ∃o,K.lookup p=some o ∧ o.cls=.type "tuple" ∧ o.dict=none) ∨
  (T = "dict" ∧ ((∃kvs,H p=some (.dK kvs)) ∨ ∃kvs,H p=some (.dT kvs))) ∨ (T="set" ∧ ∃S n,H p=some (.set S n))
 | _=>False
theorem jo7 {tf:List (Addr×Obj)} {σ:St} {H:Hp} {s:Shared} {T:String} {x:V} {v:Value} (I:Inv X tf σ H s) (r:RelV x v) (ty:tyV X.K T x H) :
 s.TypeIs v T/\∀a,v=.ref a->∃ob,s.heap.get? a=some ob/\ob.dict=none:=by
 cases x with
 | str z=>obtain ⟨t,rfl⟩:=r;cases (show T = "str" from ty);exact ⟨typeIs_str s z t,fun _ e=>nomatch e⟩
 | int i=>obtain ⟨t,rfl⟩:=r;cases (show T = "int" from ty);exact ⟨typeIs_int s i t,fun _ e=>nomatch e⟩
 | ref p=>
   cases r;rcases ty with ⟨rfl,xs,hq⟩ | ⟨rfl,o,hk,hc,hd⟩ | ⟨rfl,hk⟩ | ⟨rfl,S,n,hk⟩
   . obtain ⟨tF,_,pl,_⟩:=I.list hq;refine ⟨pl.isList.typeIs,fun a e=>?_⟩;cases e;obtain ⟨o,n,e,c,hd,_⟩:=pl;exact ⟨o,e,hd⟩
   . refine ⟨⟨o,I.kIn p o hk,hc⟩,fun a e=>?_⟩;cases e;exact ⟨o,I.kIn _ o hk,hd⟩
   . have z:∃o,s.heap.get? p=some o/\o.ExactDict:=by
       rcases hk with ⟨kvs,hk⟩ | ⟨kvs,hk⟩
       . obtain ⟨_,_,_,_,o,_,_,e,ex,_⟩:=I.hok p _ hk;exact ⟨o,e,ex⟩
       . obtain ⟨_,_,_,_,o,_,_,e,ex,_⟩:=I.hok p _ hk;exact ⟨o,e,ex⟩
     obtain ⟨o,e,ex⟩:=z;refine ⟨⟨o,e,ex.1⟩,fun a e2=>?_⟩;cases e2;exact ⟨o,e,ex.2.1⟩
   . obtain ⟨o,_,_,_,e,ex,_⟩:=I.hok p _ hk;refine ⟨⟨o,e,ex.1⟩,fun a e2=>?_⟩;cases e2;exact ⟨o,e,ex.2.1⟩
 | _=>exact False.elim ty
def tBM (K:PySem.W.Frag) (T:String) (r:V->List V->Hp->VK->Prop) (to:TE) (t:TA):TE:=fun σ H Q=>to σ H fun x H1=>tyV K T x H1/\t σ H1 fun xs H2=>r x xs H2 Q
variable {o e:Expr} {es:List Expr} {to:TE} {t:TA} {name:Str} {apos cpos:Pos} {T id:String} {r:V->List V->Hp->VK->Prop}
theorem jnX (pa:PlainAttrs T) (slot:Slot T name id) (hty:typeOf (.builtin id)=pure (.type "method_descriptor")) (hm:MtR X id r) (ho:PE X o to) (ha:PA X (e::es) t)
 (hbase:attributeBase o name X.env (eval o X.env)=eval o X.env:=by rfl)
 (hfew:autoParam (((backTo cpos (starEach (e::es) X.env)).all (fun x=>!x.1) && (backToKw cpos (keywordEach [] X.env)).all (fun x=>x.1.isSome)
  && decide ((e::es).length+([]:List Keyword).length+(if ([]:List Keyword).isEmpty then 0 else 1)<30))=true) QA.a4._auto_1)
 (hline:(apos.endLine == cpos.line)=true:=by rfl) (hs:starEach (e::es) X.env=(false,eval e X.env)::starEach es X.env:=by rfl) (hplain:(backTo cpos (starEach es X.env)).any (·.1)=false:=by rfl) :
 PE X (.Call (.Attribute o name apos) (e::es) [] cpos) (tBM X.K T r to t):=by
 intro tf s σ H Q I h;refine wpAny_Call_method_late hbase hfew hline rfl (qt (ho tf s σ H _ I h) fun v s1 zz=>?_);obtain ⟨x,H1,I1,r1,ty,q1⟩:=zz;obtain ⟨h1,h2⟩:=jo7 I1 r1 ty;refine ⟨T,id,pa,slot,hty,h1,h2,?_⟩;have hA:=ha cpos tf s1 σ H1 _ I1 q1;rw [hs] at hA ⊢;refine Calls.callWith_builtin (by show (false || (backTo cpos (starEach es X.env)).any (·.1))=false;rw [hplain] <;> rfl) (Calls.evalArgs_plain ?_);exact qt hA fun us s2 ⟨vs,H2,I2,r2,q2⟩=>hm tf s2 σ H2 x vs v us Q I2 r1 r2 q2
end
end L2
namespace L2
open PySem PySem.Spec PyProof.Rows
def MtM (X:Cx) (id:String) (r:V->List V->Hp->VK->Prop):Prop:=
 ∀(tf:List (Addr×Obj)) (s:Shared) (σ:St) (H:Hp) (x:V) (xs:List V) (v:Value) (us:List Value) (Q:VK),Inv X tf σ H s->RelV x v->Vals xs us->r x xs H Q->
   wpAny ‹"c"› X.A (call (.builtin id) (v::us)) (EP X tf σ Q) X.xe s
theorem Vals.one:∀{x:V} {us:List Value},Vals [x] us->∃u,us=[u]/\RelV x u:=fun h=>jbG h
theorem Vals.two:∀{x y:V} {us:List Value},Vals [x,y] us->∃u v,us=[u,v]/\RelV x u/\RelV y v:=fun h=>jkb h
section
variable {X:Cx} {tf:List (Addr×Obj)} {σ:St} {H:Hp} {s:Shared} {l b:Addr} {xs ys zs:List V}
theorem Inv.lset {tF its':List Value} {n:Nat} {f:Array Value->Array Value} {t':Nat} (I:Inv X tf σ H s) (hH:H l=some (.lst xs))
 (e:s.heap.get? l=some { cls:=.type "list",data:=.seq tF.toArray n }) (hf:f tF.toArray=its'.toArray) (hv:Vals ys its') (hz:ys.length ≤ sizeLine) :
 Inv X tf σ (upd H l (.lst ys)) { s with heap:=s.heap.update l (Obj.mapSeq f),toks:=t' }:=by
 have q:=PySem.IsL.update e f;rw [hf] at q;refine I.write (x:=l) (e:=l) (by rw [hH];exact trivial) (.inl rfl) (fun b' u hb hu=>(Heap.get?_update_other s.heap (Obj.mapSeq f) (Ne.symm hb)).trans hu) ⟨_,q⟩ ?_;exact ⟨hz,its',_,hv,q⟩
theorem Inv.lnew {tF:List Value} {t':Nat} (I:Inv X tf σ H s) (hv:Vals ys tF) (hz:ys.length<=sizeLine) :
 Inv X tf σ (upd H s.heap.objs.size (.lst ys)) { s with heap:=s.heap.push { cls:=.type "list",data:=.seq tF.toArray },toks:=t' }:=
 I.laid (fun _ _ q=>Yg _ q) (Yn _) ⟨hz,tF,0,hv,Yv _ rfl⟩
theorem Inv.fresh (I:Inv X tf σ H s):H s.heap.objs.size=none:=I.hok.fresh (Yn _)
theorem Inv.lstM (I:Inv X tf σ H s) (hH:H l=some (.lst xs)):xs.length ≤ sizeLine ∧ ∃(tF:List Value) (n:Nat),Vals xs tF ∧ xs.length=tF.length ∧ s.heap.get? l=some { cls:=.type "list",data:=.seq tF.toArray n }:=by obtain ⟨z,tF,n,r,e⟩:=I.hok l _ hH;exact ⟨z,tF,n,r,r.length,e⟩
end
section
variable {X:Cx}
def jeS:V->List V->Hp->VK->Prop:=fun x vs H Q=>∃l xs y,x=.ref l/\vs=[y]/\H l=some (.lst xs)/\xs.length<sizeLine/\Q .non (upd H l (.lst (xs++[y])))
theorem jiK:MtM X "list.append" jeS:=by intro tf s σ H x vs v us Q I rx rv h;obtain ⟨l,xs,y,rfl,rfl,hH,hz,q⟩:=h;cases rx;obtain ⟨u,rfl,ru⟩:=rv.one;obtain ⟨z,tF,n,r,hl,e⟩:=I.lstM hH;refine call_meets F.slot_list_append ⟨_,e,rfl⟩ F.entry_list_append (F.args_list_append_2 _ _) (PySem.list_append l tF.toArray n u (by rw [YA];omega)) ⟨e,?_⟩;refine ⟨.non,_,I.lset (its':=tF++[u]) hH e (by simp) (r.append (.cons ru .nil)) ?_,rfl,q⟩;rw [YD,List.length_singleton];omega
end
section
variable {prog:Program} {w:World} {A:Around} {E:Value->Shared->Prop} {s:Shared}
end
section
variable {X:Cx}
end
end L2
namespace Att
open PySem PySem.W PySem.Calls PyProof.Rows
theorem jbP {P:Params} {h:Heap}:∀(ns:List Int) (vs:List Value),WellAll P h vs (ns.map WData.int)->IntsAre vs ns:=by
 intro ns;induction ns with
 | nil=>intro vs w;rw [yP] at w;cases w;exact .nil
 | cons n ns ih=>
   intro vs w;rw [List.map_cons] at w;cases w with
   | cons a b=>cases a;exact .cons _ _ (ih _ b)
theorem ji5 {l:OpenLaw} {n:Nat} (hn:l.most=some n) {P:Params} {h:Heap} {args:List WData} {vals:List Value}
 (hpre:l.row.toRowW.claim.pre args=true) (hwl:WellAll P h vals args) :
 ∃a vs ns,vals=[Value.ref a] ∧ args=[WData.list (ns.map WData.int)] ∧ h.get? a=some { cls:=.type "list",data:=.seq vs.toArray } ∧ IntsAre vs ns ∧ ns.length ≤ n:=by
 have hsh:WShape.hasAll [] args [.list .int]=true:=(pre_splitW hpre).1;have hc:l.pre.holds [] { args:=args }=true:=(pre_splitW hpre).2;obtain ⟨d,r,rfl,h1,h2⟩:=hasAllW_cons hsh;obtain rfl:=hasAllW_nil h2;obtain ⟨xs,rfl,h3⟩:=hasW_list h1;obtain ⟨ns,rfl⟩:=items_int h3;have tL:ns.length<=n:=by
  unfold OpenLaw.pre at hc;have h4:(WTm.not (.lt (.lit (.int (n:Int))) (.len (.arg 0)))).holds [] { args:=[.list (ns.map .int)] }=true:=by have h4:=(holds_andW hc).1;rw [hn] at h4;exact h4
  have h5:=condW_of h4 (w_not (w_lt w_lit (w_len_list (w_arg rfl))));rw [Yd] at h5;refine Nat.le_of_not_lt fun q=>?_;have q':(n:Int)<((ns.length:Nat):Int):=by omega
  first
   | (rw [YX q'] at h5;exact absurd h5 (by decide))
   | (simp at h5;omega)
 cases hwl with
 | cons w1 w2=>
   cases w2;cases w1 with
   | list ho hall=>exact ⟨_,_,ns,rfl,rfl,ho,jbP ns _ hall,tL⟩
theorem jjx (l:OpenLaw) (args:List WData):l.row.toRowW.claim.post args (.bool true) args=true:=
 postW_of (r:=l.row.toRowW) (X:=(true == true))
  (show WShape.has [] (.bool true) .bool=true by first | rfl | decide | simp [WShape.has,WShape.arms,WShape.armsAll])
  (show (WTm.eq .res (.lit (.bool true))).value [] { args:=args,res:=some (.bool true),after:=args }=some (.bool (true == true)) from w_eq_bool (w_res rfl) w_lit) rfl
theorem attach_call {l:OpenLaw} {n:Nat} {q:Program} {loose:List Str} {XP:(Str->Option Value)->Heap->Prop} {YP:World->Heap->Prop} {d:DefRec}
 (hn:l.most=some n) (hdf:d.params.defaults=[])
 (call:∀(w:World) (s₀ s₁:Shared) (mg mb:Str->Option Value) (fa:Addr) (o:Obj) (pm cd doc:Value) (a:Addr) (vs:List Value) (ns:List Int),
  Ground q loose [] XP w s₀ mg mb s₁.heap->YP w s₁.heap->
  s₁.heap.get? fa=some o->o.data=.func (docDef d.name d.params d.body d.scope pm cd doc)->s₁.heap.CodeRec cd d.name->mg d.name=some (.ref fa)->
  s₁.heap.get? a=some { cls:=.type "list",data:=.seq vs.toArray } → IntsAre vs ns → ns.length ≤ n → s₁.gens=#[] →
  codeAny (model l.prog w) callerA (.call (.ref fa) ⟨[.ref a],[]⟩) (fun r s'=>r=.ok (.ret (.bool true))/\OldK s₁.heap s'.heap/\s'.os=s₁.os/\AllBare s'.gens) s₁) :
 WalkO q loose XP YP l.row.toRowW d [] (fun f vs=>PySem.call f vs):=by
 intro w s₀ s₁ mg mb G Y fa o pm cd doc dV kV ho hd hcd hD hmg hg args vals as hpre hlay hrd hwl hlo;obtain rfl:dV=.none:=Dflts.none hD hdf;obtain rfl:kV=.none:=Dflts.noKw hD;obtain ⟨a,vs,ns,rfl,rfl,hobj,hints,tL⟩:=ji5 hn hpre hwl;refine enter_call (ka (call w s₀ s₁ mg mb fa o pm cd doc a vs ns G Y ho (fd_plain hd) hcd hmg hobj hints tL hg) fun r s' hq=>?_);obtain ⟨rfl,h2,h3,h4⟩:=hq;exact ⟨.inl ⟨.bool true,.bool true,[],rfl,fun _=>rfl,.bool true,jjx l _,fun _=>⟨List.Pairwise.nil,fun _ hm=>(nomatch hm)⟩⟩,h2,h3,h4⟩
section
variable {prog:Program} {w:World} {A:Around} {E:Value->Shared->Prop} {s:Shared} {K:Frag}
end
end Att
namespace L2
open PySem PySem.Spec PyProof.Rows
theorem jdW:∀{vs:List Value} {ns:List Int},IntsAre vs ns->Vals (ns.map V.int) vs:=fun h=>by
 induction h with
 | nil=>exact .nil
 | cons n t _ ih=>exact .cons ⟨t,rfl⟩ ih
def joU (H:Hp):Prop:=∀b,H b=none\/∃o xs,H b=some (.frz o (.lst xs))
theorem jlH {P:Program} {w:World} {K:PySem.W.Frag} {mg mb:Str->Option Value} {CX:CXT} {k:Nat} {fa a:Addr} {fd:FuncData} {x:Str} {sp:Sp} {s₁:Shared} {vs:List Value} {ns:List Int}
 (KX:K.In s₁.heap) (hns:s₁.heap.Ns mainGlobals mg) (hb:s₁.heap.Ns builtinsNs mb) (hbb:∀x:Str,x ≠ "__name__" → mb x=bootBuiltins x) (hlim:s₁.heap.NoLimit) (hg:s₁.gens=#[])
 (ha:s₁.heap.get? a=some { cls:=.type "list",data:=.seq vs.toArray }) (hi:IntsAre vs ns) (hl:ns.length ≤ sizeLine) (hr:Room k callerA)
 (F:∀base:Heap,K.In base->base.Ns mainGlobals mg->FnOk P w K mg base CX k fa fd [x] sp) (hbind:∀(s:Shared) (u:Value),BindsTo s fd ⟨[u],[]⟩ [(x,u)])
 (hsp:∀H:Hp,joU H->Jc K H a (ns.map V.int)->sp [.ref a] H (fun v _=>v=.bl true) fun _ _ _=>False)
 (hCX:∀H e s',CX [] H s₁ (fun _ _ _=>False) e s'->False) :
 codeAny (model P w) callerA (.call (.ref fa) ⟨[.ref a],[]⟩) ‹"au"› s₁:=by
 have rv:=jdW hi;have lenV:=hi.length
 -- from an abstract heap in which nothing but the script may be tracked
 have core:∀H:Hp,joU H->Jc K H a (ns.map V.int)->HOk P w H s₁.heap->(∀b,H b≠none->b=a)->(H a≠none->K.lookup a=none)->
  codeAny (model P w) callerA (.call (.ref fa) ⟨[.ref a],[]⟩) ‹"au"› s₁:=by
  intro H hO hS hok hA hK;have base_of:∀{b:Addr} {o:Obj},s₁.heap.get? b=some o->H b=none->(jeR s₁.heap H).get? b=some o:=fun e n=>jlf e n;have noA:∀{b:Addr} {o:Obj} {es:Array DictEntry} {ep:Nat},s₁.heap.get? b=some o->o.data=.dict es ep->H b=none:=fun {b o es ep} e d=>by
   cases q:H b with
   | none=>rfl
   | some u=>have e':b=a:=hA b (by rw [q];simp);subst e';rw [ha] at e;cases e;have d':Data.seq vs.toArray _=Data.dict es ep:=d;cases d'
  have nsK:∀{b:Addr} {m:Str->Option Value},s₁.heap.Ns b m->(jeR s₁.heap H).Ns b m:=fun {b m} ⟨o,es,ep,e,d,r⟩=>⟨o,es,ep,base_of e (noA e d),d,r⟩;have hKb:K.In (jeR s₁.heap H):=fun b o e=>base_of (KX b o e) (by
   cases q:H b with
   | none=>rfl
   | some u=>have e':b=a:=hA b (by rw [q];simp);subst e';rw [hK (by rw [q];simp)] at e;cases e)
  have hM:Mod K mg (jeR s₁.heap H):=⟨hKb,nsK hns,⟨mb,nsK hb,hbb⟩,let ⟨mc,h1,h2⟩:=hlim;⟨mc,nsK h1,h2⟩⟩;have e0:Env0 P w K mg (jeR s₁.heap H) callerA [] s₁ H:=⟨rfl,hM,fun b o e=>jmF e,Nat.le_of_eq (jiY _ _),trivial,fun b hb=>absurd (show b∈([]:List Addr) from hb) (by simp),hok,.of_eq hg⟩;refine ka ((F _ hKb (nsK hns)).run callerA [] s₁ H ⟨[.ref a],[]⟩ [.ref a] [.ref a] _ _ hr e0 (hbind s₁ (.ref a)) (.cons rfl .nil) (hsp H hO hS)) fun r s' h=>?_;cases r with
  | error e=>exact (hCX H e s' h).elim
  | ok fl=>
    cases fl with
    | next=>exact False.elim h
    | brk=>exact False.elim h
    | cont=>exact False.elim h
    | ret u=>
      obtain ⟨v,H',os,bare,un,hok',r',q⟩:=h;have q':v=.bl true:=q;subst q';obtain rfl:u=Value.bool true:=r';refine ⟨rfl,OldK.of_keep fun b o e=>?_,os,bare⟩;cases q:H b with
      | none=>exact un.keep b o e q (by intro z;exact absurd (show b∈([]:List Addr) from z) (by simp)) (by simp)
      | some u=>
        rcases hO b with z | ⟨ob,xs,z⟩
        . rw [q] at z;cases z
        . have z2:=un.frzs b ob _ z;obtain ⟨e1,_⟩:=hok b _ z;obtain ⟨e2,_⟩:=hok' b _ z2;rw [e] at e1;cases e1;exact e2
 cases hk:K.lookup a with
 | some o=>
   -- the script is one of the module's own objects
   have e:=KX a o hk;rw [ha] at e;cases e;refine core (fun _=>none) (fun _=>.inl rfl) (.inr ⟨_,vs.toArray,_,hk,rfl,rfl,rfl,by rw [YA,lenV];exact hl,by simpa using rv⟩) (fun b u z=>by have z':(none:Option HO)=some u:=z;cases z') (fun b z=>absurd rfl z) fun z=>absurd rfl z
 | none=>
   refine core (fun b=>if b=a then some (.frz { cls:=.type "list",data:=.seq vs.toArray } (.lst (ns.map V.int))) else none) (fun b=>?_) (.inl (.inr ⟨{ cls:=.type "list",data:=.seq vs.toArray },if_pos rfl⟩)) (fun b u z=>?_) (fun b z=>?_) fun _=>hk
   . by_cases hb:b=a
     . exact .inr ⟨_,_,if_pos hb⟩
     . exact .inl (if_neg hb)
   . by_cases hb:b=a
     . have z':=(if_pos hb).symm.trans z;cases z';subst hb;exact ⟨ha,by rw [Yd];exact hl,vs,_,rv,ha⟩
     . have z':=(if_neg hb).symm.trans z;cases z'
   . by_cases hb:b=a
     . exact hb
     . exact absurd (if_neg hb) z
end L2
namespace L2
open PySem PySem.Spec PyProof.Rows
theorem jm8 {l:PySem.W.OpenLaw} {n k:Nat} {q:Program} {loose:List Str} {XP:(Str->Option Value)->Heap->Prop} {YP:World->Heap->Prop} {d:DefRec} {K:Params->PySem.W.Frag} {CX:World->CXT} {sp:World->Sp} {x:Str}
 (hn:l.most=some n) (hn2:n<=sizeLine) (hdf:d.params.defaults=[]) (hr:Room k callerA)
 (hY:∀(w:World) (h:Heap),YP w h->(K w.params).In h)
 (F:∀(w:World) (mg:Str->Option Value) (fa:Addr) (h:Heap),(K w.params).In h->h.Ns mainGlobals mg->mg d.name=some (.ref fa)->
  ∃fd:FuncData,(∀(s:Shared) (u:Value),BindsTo s fd ⟨[u],[]⟩ [(x,u)]) /\
    ∀base:Heap,(K w.params).In base->base.Ns mainGlobals mg->FnOk l.prog w (K w.params) mg base (CX w) k fa fd [x] (sp w))
 (hsp:∀(w:World) (H:Hp) (a:Addr) (ns:List Int),ns.length<=n->joU H->Jc (K w.params) H a (ns.map V.int)->sp w [.ref a] H (fun v _=>v=.bl true) fun _ _ _=>False)
 (hCX:∀(w:World) (H:Hp) (s:Shared) (e:Value) (s':Shared),CX w [] H s (fun _ _ _=>False) e s'->False) :
 PySem.W.WalkO q loose XP YP l.row.toRowW d [] (fun f vs=>PySem.call f vs):=by
 refine Att.attach_call hn hdf fun w s₀ s₁ mg mb fa o pm cd doc a vs ns G Y ho hd hcd hmg hobj hints tL hg=>?_;have KX:=hY w _ Y;obtain ⟨fd,hb,hF⟩:=F w mg fa _ KX G.T.g hmg;exact jlH KX G.T.g G.T.b G.T.builtins G.T.nolimit hg hobj hints (YZ tL hn2) hr hF hb (fun H hO hS=>hsp w H a ns tL hO hS) fun H e s'=>hCX w H s₁ e s'
end L2
namespace L2
open PySem PySem.Spec PyProof.Rows
def jK (s:Stmt):Arguments:=match s with
 | .FunctionDef _ a _ _ _ _ _ _ _ _=>a
 | _=>{ posonlyargs:=[],args:=[],vararg:=none,kwonlyargs:=[],kw_defaults:=[],kwarg:=none,defaults:=[] }
def jF (s:Stmt):List Stmt:=match s with
 | .FunctionDef _ _ b _ _ _ _ _ _ _=>b
 | _=>[]
def jd (s:Stmt):Scope:=match s with
 | .FunctionDef _ _ _ _ _ _ sc _ _ _=>sc
 | _=>{ kind:=.function,names:=[],isGenerator:=false,isCoroutine:=false }
abbrev JC:CXT:=fun _ _ _ _ _ _=>False
abbrev E0:XK:=fun _ _ _=>False
theorem jnr {X:Cx}:jgE JC X E0:=fun _ _ _ _ _ _ _ h=>h.elim
structure Fun (K:PySem.W.Frag) (x qual:Str) (st:Stmt) (f:Addr) (fd:FuncData):Prop where
 ex:∃(oc:Value) (od:Option Addr) (kV doc pm:Value) (an:Option Addr) (cdv ct:Value) (osl:Array (Option Value)),
  fd=PySem.W.fnOf x qual (jK st) (jF st) (jd st) .none kV doc pm an cdv ct/\K.lookup f=some ⟨oc,od,.func fd,osl⟩/\PySem.W.codeIn K cdv qual=true
 kp:PySem.W.keepIn K (.ref f)=true
section
variable {P:Program} {w:World} {K:PySem.W.Frag} {mg:Str->Option Value} {base:Heap}
theorem Fun.ok {x qual:Str} {st:Stmt} {f:Addr} {fd:FuncData} {N ps:List Str} {k:Nat} {sp:Sp} (F:Fun K x qual st f fd) (S:FnScope N ps (jd st)) (len:∀vs H Q E,sp vs H Q E->vs.length=ps.length)
 (hbody:∀(cdv:Value) (A:Around) (outer:List Env) (s:Shared) (H:Hp) (vs:List V) (Q:VK) (E:XK),Room k ‹"ag"›->sp vs H Q E->
  ∃t,PSs (jgy JC P w K mg base N qual (jd st) f cdv A outer s H E).nox (jF st) t/\t { nx:=fun _ H'=>Q .non H',rt:=Q } (ZM N vs) H):FnOk P w K mg base JC (k+1) f fd ps sp:=by
 obtain ⟨oc,od,kV,doc,pm,an,cdv,ct,osl,rfl,lk,hcd⟩:=F.ex;refine jp8 lk hcd S len fun A outer s H vs Q E hr hsp=>?_;obtain ⟨t,h,q⟩:=hbody cdv A outer s H vs Q E hr hsp;exact ⟨t,h.nox,q⟩
theorem Fun.binds {x qual:Str} {st:Stmt} {f:Addr} {fd:FuncData} {ps:List Str} (F:Fun K x qual st f fd)
 (h:∀(kV doc pm:Value) (an:Option Addr) (cdv ct:Value) (us:List Value),us.length=ps.length->bindArgs ‹"U"› ⟨us,[]⟩=pure (ps.zip us)):Binds K fd ps []:=by
 obtain ⟨oc,od,kV,doc,pm,an,cdv,ct,osl,rfl,lk,hcd⟩:=F.ex;exact .all (h kV doc pm an cdv ct)
theorem jU {x qual:Str} {st:Stmt} {f:Addr} {oc:Value} {od an:Option Addr} {osl:Array (Option Value)} {kV doc pm cdv ct:Value} (l:K.lookup f=some ⟨oc,od,.func ‹"U"›,osl⟩)
 (c:PySem.W.codeIn K cdv qual=true) (k:PySem.W.keepIn K (.ref f)=true):Fun K x qual st f ‹"U"›:=⟨⟨oc,od,kV,doc,pm,an,cdv,ct,osl,rfl,l,c⟩,k⟩
end
section
variable {X:Cx}
end
def Same (H H':Hp):Prop:=∀b o,H b=some o->H' b=some o
theorem Same.refl (H:Hp):Same H H:=fun _ _ h=>h
theorem Same.trans {H H1 H2:Hp} (a:Same H H1) (b:Same H1 H2):Same H H2:=fun c o h=>b c o (a c o h)
theorem Same.free {H H':Hp} (e:Same H H') {l:Addr} (h:H' l=Option.none):H l=Option.none:=by
 cases q:H l with
 | none=>rfl
 | some o=>rw [e l o q] at h;cases h
theorem Same.seq {K:PySem.W.Frag} {H H':Hp} {a:Addr} {xs:List V} (e:Same H H') (h:Jc K H a xs):Jc K H' a xs:=by
 rcases h with (h | ⟨o,h⟩) | h
 . exact .inl (.inl (e _ _ h))
 . exact .inl (.inr ⟨o,e _ _ h⟩)
 . exact .inr h
end L2
namespace L2
open PySem PySem.Spec PyProof.Rows
section
variable {κ:Type} [DecidableEq κ]
def ja2 (kvs:List (κ×V)) (k:κ):Option V:=(kvs.find? fun kv=>decide (kv.1=k)).map (·.2)
def ZG (kvs:List (κ×V)) (k:κ) (v:V):List (κ×V):=if (kvs.any fun kv=>decide (kv.1=k))=true then kvs.map (fun kv=>if kv.1=k then (kv.1,v) else kv) else kvs++[(k,v)]
def jnh (kvs:List (κ×V)) (k:κ):List (κ×V):=kvs.filter fun kv=>decide (kv.1≠k)
theorem jax {p:κ×V} {r:List (κ×V)} {k:κ} (e:p.1=k):ja2 (p::r) k=some p.2:=by simp [ja2,Kn,e]
theorem ja3 {p:κ×V} {r:List (κ×V)} {k:κ} (e:¬p.1=k):ja2 (p::r) k=ja2 r k:=by simp [ja2,Kn,e]
theorem jfc (k:κ):∀kvs:List (κ×V),(kvs.any fun kv=>decide (kv.1=k))=(ja2 kvs k).isSome
 | []=>rfl
 | p::r=>by
   rw [List.any_cons];by_cases e:p.1=k
   . simp only [jax e,YX e,Bool.true_or,Option.isSome_some]
   . rw [ja3 e,YY e,Bool.false_or];exact jfc k r
theorem Zc (kvs:List (κ×V)) (k:κ) (v:V):(ZG kvs k v).length<=kvs.length+1:=by
 unfold ZG;split
 . rw [Yd];omega
 . rw [YD,YG,yi];omega
theorem RelO.isSome_eq {o:Option V} {u:Option Value} (r:RelO o u):o.isSome=u.isSome:=by
 cases o with
 | none=>cases u with
   | none=>rfl
   | some _=>exact (show False from r).elim
 | some _=>cases u with
   | none=>exact (show False from r).elim
   | some _=>rfl
theorem RelO.getD {o:Option V} {u:Option Value} {d:V} {d':Value} (r:RelO o u) (rd:RelV d d'):RelV (o.getD d) (u.getD d'):=by
 cases o with
 | none=>cases u with
   | none=>exact rd
   | some _=>exact (show False from r).elim
 | some _=>cases u with
   | none=>exact (show False from r).elim
   | some _=>exact r
theorem KV.val {kvs:List (κ×V)} {vs:List (κ×Value)} (r:KV kvs vs) (k:κ):RelO (ja2 kvs k) (valueAt vs k):=by
 unfold KV at r;induction r with
 | nil=>exact True.intro
 | @cons p q ps qs h t ih=>
   obtain ⟨h1,h2⟩:=h;by_cases e:p.1=k
   . have e':q.1=k:=h1.symm.trans e;have b:valueAt (q::qs) k=some q.2:=by simp [valueAt,Kn,e']
     rw [jax e,b];exact h2
   . have e':¬q.1=k:=fun z=>e (h1.trans z);have b:valueAt (q::qs) k=valueAt qs k:=by simp [valueAt,Kn,e']
     rw [ja3 e,b];exact ih
theorem KV.any {kvs:List (κ×V)} {vs:List (κ×Value)} (r:KV kvs vs) (k:κ):(kvs.any fun kv=>decide (kv.1=k))=vs.any fun kv=>decide (kv.1=k):=by
 unfold KV at r;induction r with
 | nil=>rfl
 | cons h t ih=>rw [List.any_cons,List.any_cons,ih,h.1]
theorem KV.repl {kvs:List (κ×V)} {vs:List (κ×Value)} (r:KV kvs vs) (k:κ) {y:V} {u:Value} (ry:RelV y u) :
 KV (kvs.map fun kv=>if kv.1=k then (kv.1,y) else kv) (vs.map fun kv=>if kv.1=k then (kv.1,u) else kv):=by
 unfold KV at r ⊢;induction r with
 | nil=>exact .nil
 | @cons p q ps qs h t ih=>
   rw [List.map_cons,List.map_cons];refine .cons ?_ ih;obtain ⟨h1,h2⟩:=h;by_cases e:p.1=k
   . rw [if_pos e,if_pos (h1.symm.trans e)];exact ⟨h1,ry⟩
   . rw [if_neg e,if_neg (fun z=>e (h1.trans z))];exact ⟨h1,h2⟩
theorem KV.put {kvs:List (κ×V)} {vs:List (κ×Value)} (r:KV kvs vs) (k:κ) {y:V} {u:Value} (ry:RelV y u):KV (ZG kvs k y) (stored vs k u):=by
 unfold ZG stored;rw [r.any k];by_cases e:(vs.any fun kv=>decide (kv.1=k))=true
 . rw [if_pos e,if_pos e];exact r.repl k ry
 . rw [if_neg e,if_neg e];exact Paired.snoc r ⟨rfl,ry⟩
theorem KV.drop {kvs:List (κ×V)} {vs:List (κ×Value)} (r:KV kvs vs) (k:κ):KV (jnh kvs k) (without vs k):=by
 unfold KV at r ⊢;unfold jnh without;induction r with
 | nil=>exact .nil
 | @cons p q ps qs h t ih=>
   obtain ⟨h1,h2⟩:=h;rw [yr,yr];by_cases e:p.1=k
   . have a:¬decide (p.1≠k)=true:=by simp [e]
     have b:¬decide (q.1≠k)=true:=by simp [h1.symm.trans e]
     rw [if_neg a,if_neg b];exact ih
   . have e':¬q.1=k:=fun z=>e (h1.trans z);have a:decide (p.1≠k)=true:=by simp [e]
     have b:decide (q.1≠k)=true:=by simp [e']
     rw [if_pos a,if_pos b];exact .cons ⟨h1,h2⟩ ih
theorem KV.length {kvs:List (κ×V)} {vs:List (κ×Value)} (r:KV kvs vs):kvs.length=vs.length:=Paired.length r
end
theorem jb5 {P:Program} {w:World} {k:ze} {u:Value} (r:RelV (kV k) u):(jX P w).is k u=true:=by
 cases k with
 | inl i=>obtain ⟨t,e⟩:=(show ∃t,u=Value.int i t from r);subst e;exact jfr P w i t
 | inr x=>obtain ⟨t,e⟩:=(show ∃t,u=Value.str x t from r);subst e;exact jgg P w x t
theorem jdH {P:Program} {w:World}:∀{ks:List ze} {us:List Value},Vals (ks.map kV) us->ItemsAre (jX P w) ks us
 | [],_,r=>by rw [yP] at r;cases r;exact .nil
 | k::ks,_,r=>by
   rw [List.map_cons] at r;cases r with
   | cons h t=>exact .cons (jb5 h) (jdH t)
abbrev KT (H:Hp):List (List ze×V)->List (List ze×Addr×Value)->Prop:=Paired fun p q=>p.1=q.1/\H q.2.1=some (.tup (p.1.map kV))/\RelV p.2 q.2.2
theorem KT.val {H:Hp} {kvs:List (List ze×V)} {xs:List (List ze×Addr×Value)} (r:KT H kvs xs) (k:List ze):RelO (ja2 kvs k) ((atKey xs k).map (·.2)):=by
 induction r with
 | nil=>exact True.intro
 | @cons p q ps qs h t ih=>
   obtain ⟨h1,_,h2⟩:=h;by_cases e:p.1=k
   . have e':q.1=k:=h1.symm.trans e;have b:atKey (q::qs) k=some q.2:=by simp [atKey,Kn,e']
     rw [jax e,b];exact h2
   . have e':¬q.1=k:=fun z=>e (h1.trans z);have b:atKey (q::qs) k=atKey qs k:=by simp [atKey,Kn,e']
     rw [ja3 e,b];exact ih
theorem KT.repl {H:Hp} {kvs:List (List ze×V)} {xs:List (List ze×Addr×Value)} (r:KT H kvs xs) (k:List ze) {y:V} {u:Value} (ry:RelV y u) :
 KT H (kvs.map fun kv=>if kv.1=k then (kv.1,y) else kv) (xs.map (putAt k u)):=by
 induction r with
 | nil=>exact .nil
 | @cons p q ps qs h t ih=>
   rw [List.map_cons,List.map_cons];refine .cons ?_ ih;obtain ⟨h1,h2,h3⟩:=h;unfold putAt;by_cases e:p.1=k
   . rw [if_pos e,if_pos (h1.symm.trans e)];exact ⟨h1,h2,ry⟩
   . rw [if_neg e,if_neg (fun z=>e (h1.trans z))];exact ⟨h1,h2,h3⟩
theorem KT.put {H:Hp} {kvs:List (List ze×V)} {xs:List (List ze×Addr×Value)} (r:KT H kvs xs) (k:List ze) {b:Addr} {y:V} {u:Value} (hb:H b=some (.tup (k.map kV))) (ry:RelV y u) :
 KT H (ZG kvs k y) (storedH xs k b u):=by
 have e:(kvs.any fun kv=>decide (kv.1=k))=(atKey xs k).isSome:=by rw [jfc,(r.val k).isSome_eq,Option.isSome_map]
 unfold ZG storedH;rw [e];by_cases q:(atKey xs k).isSome=true
 . rw [if_pos q,if_pos q];exact r.repl k ry
 . rw [if_neg q,if_neg q];exact Paired.snoc r ⟨rfl,hb,ry⟩
theorem KT.keeps {H H':Hp} {kvs:List (List ze×V)} {xs:List (List ze×Addr×Value)} (r:KT H kvs xs) (ht:∀b ys,H b=some (.tup ys)->H' b=some (.tup ys)):KT H' kvs xs:=Paired.mapP r fun _ _ z=>⟨z.1,ht _ _ z.2.1,z.2.2⟩
section
variable {P:Program} {w:World} {H:Hp} {h:Heap} {a:Addr}
theorem jnu {u:HO} (ok:HOk P w H h) (e:Rd H a u):ObjOk P w H h a u:=e.ok ok
theorem Zn {kvs:List (ze×V)} (ok:HOk P w H h) (e:Rd H a (.dK kvs)):kvs.length<=sizeLine/\(a == sysModules)=false/\∃vs,KV kvs vs/\h.DictOf (jX P w) a vs:=show ObjOk P w H h a (.dK kvs) from jnu ok e
theorem jnW {kvs:List (ze×V)} (ok:HOk P w H h) (e:H a=some (.dK kvs)):kvs.length<=sizeLine/\(a == sysModules)=false/\∃vs,KV kvs vs/\h.DictOf (jX P w) a vs:=Zn ok (.inl e)
theorem Z5 {ks:List ze} (ok:HOk P w H h) (e:H a=some (.tup (ks.map kV))):(tupleKind (jX P w)).is h ks a:=by obtain ⟨_,tF,r,o,h1,h2,n,h3⟩:=(show ObjOk P w H h a (.tup (ks.map kV)) from ok a _ e);exact ⟨o,tF.toArray,n,h1,h2,h3,by simpa using jdH r⟩
theorem jcs {kvs:List (List ze×V)} (ok:HOk P w H h) (e:Rd H a (.dT kvs)):kvs.length<=sizeLine/\(a == sysModules)=false /\
 ∃xs,KT H kvs xs/\h.DictOfH (tupleKind (jX P w)) a xs:=by
 obtain ⟨z,y,xs,r,o,es,ep,h1,h2,h3,h4,h5⟩:=(show ObjOk P w H h a (.dT kvs) from jnu ok e);refine ⟨z,y,xs,r,o,es,ep,h1,h2,h3,h4,fun x hx=>?_,h5⟩;have all:∀{l:List (List ze×V)} {m:List (List ze×Addr×Value)},KT H l m->∀x∈m,(tupleKind (jX P w)).is h x.1 x.2.1:=by
  intro l m q;induction q with
  | nil=>intro x hx;exact nomatch hx
  | @cons p q ps qs hq t ih=>
    intro x hx;rcases Yl.mp hx with e | hx
    . subst e;exact Z5 ok (by rw [<-hq.1];exact hq.2.1)
    . exact ih x hx
 exact all r x hx
theorem jq2 {kvs:List (List ze×V)} (ok:HOk P w H h) (e:H a=some (.dT kvs)):kvs.length<=sizeLine/\(a == sysModules)=false /\
 ∃xs,KT H kvs xs/\h.DictOfH (tupleKind (jX P w)) a xs:=jcs ok (.inl e)
end
def jfY (H:Hp) (a:Addr) (y:V) (r:Option V):Prop:=(∃kvs k,Rd H a (.dK kvs)/\y=kV k/\r=ja2 kvs k)\/∃kvs k b,Rd H a (.dT kvs)/\y=.ref b/\H b=some (.tup (k.map kV))/\r=ja2 kvs k
def jqL (H:Hp) (a:Addr) (y v:V) (H':Hp):Prop:=
 (∃kvs k,H a=some (.dK kvs)/\y=kV k/\kvs.length<sizeLine/\H'=upd H a (.dK (ZG kvs k v))) \/
 ∃kvs k b,H a=some (.dT kvs)/\y=.ref b/\H b=some (.tup (k.map kV))/\kvs.length<sizeLine/\H'=upd H a (.dT (ZG kvs k v))
section
variable {X:Cx} {tf:List (Addr×Obj)} {σ:St} {H:Hp} {s:Shared} {a:Addr} {y v:V} {u r:Value} {o:Option V} {A:Around} {E:Value->Shared->Prop}
theorem Inv.big (I:Inv X tf σ H s):sysModules<s.heap.objs.size:=by have h:mainGlobals<s.heap.objs.size:=(I.mod.glob.keeps I.bk).lt;exact yE (by decide) h
theorem jji {Q:Value->Shared->Prop} (hu:A.units+1<cLine) (I:Inv X tf σ H s) (g:jfY H a y (some v)) (ry:RelV y u) (h:∀w' s',Inv X tf σ H s'->RelV v w'->Q w' s') :
 wpAny ‹"c"› A (getItem (.ref a) u) Q E s:=by
 rcases g with ⟨kvs,k,e,ey,l⟩ | ⟨kvs,k,b,e,ey,eb,l⟩
 . subst ey;obtain ⟨z,hd,vs,rel,dd⟩:=Zn I.hok e;obtain ⟨w',hw,rw'⟩:=RelO.some_of (v:=v) (o:=valueAt vs k) (by rw [l];exact rel.val k);exact wpAny_getItem_of (jb5 ry) dd.mapOf hw (h w' _ (I.tok _) rw')
 . subst ey;cases (show u=Value.ref b from ry);obtain ⟨z,hd,xs,rel,dd⟩:=jcs I.hok e;obtain ⟨w',hw,rw'⟩:=RelO.some_of (v:=v) (o:=(atKey xs k).map (·.2)) (by rw [l];exact rel.val k);obtain ⟨p,hp,hp2⟩:=Option.map_eq_some_iff.mp hw;refine wpAny_getItem_heap (Kg hu) (Z5 I.hok eb) dd hp ?_;rw [hp2];exact h w' _ (I.tok _) rw'
theorem jr6 {Q:Value->Shared->Prop} (hu:A.units+1<cLine) (I:Inv X tf σ H s) (g:jfY H a y o) (ry:RelV y u) (h:∀s',Inv X tf σ H s'->Q (.bool o.isSome) s') :
 wpAny ‹"c"› A (compareOp .In u (.ref a)) Q E s:=by
 rcases g with ⟨kvs,k,e,ey,l⟩ | ⟨kvs,k,b,e,ey,eb,l⟩
 . subst ey;obtain ⟨z,hd,vs,rel,dd⟩:=Zn I.hok e;refine wpAny_in_of (jb5 ry) hd dd.mapOf ?_;rw [<-(rel.val k).isSome_eq,<- l];exact h _ (I.tok _)
 . subst ey;cases (show u=Value.ref b from ry);obtain ⟨z,hd,xs,rel,dd⟩:=jcs I.hok e;refine wpAny_in_heap (Kg hu) (Z5 I.hok eb) hd dd ?_;have q:=(rel.val k).isSome_eq;rw [Option.isSome_map] at q;rw [<-q,<- l];exact h _ (I.tok _)
theorem jl5 {Q:Value->Shared->Prop} (hu:A.units+1<cLine) (I:Inv X tf σ H s) (g:jfY H a y o) (ry:RelV y u) (h:∀s',Inv X tf σ H s'->Q (.bool (!o.isSome)) s') :
 wpAny ‹"c"› A (compareOp .NotIn u (.ref a)) Q E s:=by
 rcases g with ⟨kvs,k,e,ey,l⟩ | ⟨kvs,k,b,e,ey,eb,l⟩
 . subst ey;obtain ⟨z,hd,vs,rel,dd⟩:=Zn I.hok e;refine wpAny_notIn_of (jb5 ry) hd dd.mapOf ?_;rw [<-(rel.val k).isSome_eq,<- l];exact h _ (I.tok _)
 . subst ey;cases (show u=Value.ref b from ry);obtain ⟨z,hd,xs,rel,dd⟩:=jcs I.hok e;refine wpAny_notIn_heap (Kg hu) (Z5 I.hok eb) hd dd ?_;have q:=(rel.val k).isSome_eq;rw [Option.isSome_map] at q;rw [<-q,<- l];exact h _ (I.tok _)
theorem jeG {h':Heap} {t':Nat} {ob:HO} (I:Inv X tf σ H s) (mu:Mut (H a)) (hs:Heap.SameBut a s.heap h') (he:∃q,h'.get? a=some q) (new:ObjOk X.prog X.w (upd H a ob) h' a ob) :
 Inv X tf σ (upd H a ob) { s with heap:=h',toks:=t' }:=
 I.write (x:=a) (e:=a) mu (.inl rfl) (fun b q hb z=>(hs.2 b hb).trans z) he new
theorem jhh {P:Program} {w:World} {H':Hp} {h':Heap} {kvs:List (ze×V)} {vs:List (ze×Value)} (z:kvs.length<=sizeLine) (hd:(a == sysModules)=false) (rel:KV kvs vs) (dd:h'.DictOf (jX P w) a vs) :
 ObjOk P w H' h' a (.dK kvs):=⟨z,hd,vs,rel,dd⟩
theorem jjg {H':Hp} {Q:Unit->Shared->Prop} (hu:A.units+1<cLine) (I:Inv X tf σ H s) (g:jqL H a y v H') (ry:RelV y u) (rv:RelV v r) (h:∀s',Inv X tf σ H' s'->Q () s') :
 wpAny ‹"c"› A (setItem (.ref a) u r) Q E s:=by
 rcases g with ⟨kvs,k,e,ey,l,eH⟩ | ⟨kvs,k,b,e,ey,eb,l,eH⟩
 . subst ey eH;obtain ⟨z,hd,vs,rel,dd⟩:=jnW I.hok e;have hz:vs.length<=sizeLine:=by rw [<-rel.length];exact z
   have hl:(ZG kvs k v).length<=sizeLine:=by have:=Zc kvs k v;omega
   refine wpAny_setItem_pairs (hsz:=hz) (jb5 ry) dd fun h' dd' hs=>h _ ?_;have he:∃q,h'.get? a=some q:=let ⟨q,_,_,hq,_⟩:=dd';⟨q,hq⟩;exact jeG I (by rw [e];exact True.intro) hs he (jhh hl hd (rel.put k rv) dd')
 . subst ey eH;cases (show u=Value.ref b from ry);obtain ⟨z,hd,xs,rel,dd⟩:=jq2 I.hok e;have hz:xs.length<=sizeLine:=by rw [<-Paired.length rel];exact z
   have hl:(ZG kvs k v).length<=sizeLine:=by have:=Zc kvs k v;omega
   refine wpAny_setItem_heap (hsz:=hz) (Kg hu) (Z5 I.hok eb) dd fun h' dd' hs=>h _ ?_;obtain ⟨q,es,ep,hq,h2,h3,h4,_,h5⟩:=dd';refine jeG I (by rw [e];exact True.intro) hs ⟨q,hq⟩ ⟨hl,hd,_,(rel.put k eb rv).keeps fun c ys ec=>?_,q,es,ep,hq,h2,h3,h4,h5⟩;rw [jA (jrg ec e (fun z=>nomatch z))];exact ec
end
section
variable {X:Cx} {tf:List (Addr×Obj)} {σ:St} {H:Hp} {s:Shared} {a:Addr} {kvs:List (ze×V)} {k:ze} {u:Value} {A:Around} {E:Value->Shared->Prop}
end
def jpa (i:Expr):Prop:=∀ov iv,subscripted i false ov iv=operate [ov,iv] (getItem ov iv)
theorem jng {prog:Program} {w:World} {A:Around} {E:Value->Shared->Prop} {s:Shared} {env:Env} {value slice:Expr} {pos:Pos} {T id:String} {Q:Value->Shared->Prop}
 (hl:typeLookup (.type T) "__getitem__"=pure (some (.builtin id))) (hs:jpa slice)
 (h:wpAny (model prog w) A (eval value env) (fun o s₁=>wpAny (model prog w) A (eval slice env) (fun i s₂=>s₂.TypeIs o T/\wpAny (model prog w) A (getItem o i) Q E s₂) E s₁) E s) :
 wpAny (model prog w) A (eval (.Subscript value slice pos) env) Q E s:=by
 refine Subscript_ (ye h (fun o s₁ h₁=>ye h₁ (fun i s₂ h₂=>?_) fun _ _ x=>x) fun _ _ x=>x);obtain ⟨hT,h₂⟩:=h₂;unfold subscriptTail;refine Yc ?_;rw [getitemInPython_of_ne hT.not_modules];refine Yc (yH hT hl ?_);have fin:wpAny (model prog w) A (subscripted slice false o i) (fun r s₃=>wpAny (model prog w) A (letTemporaryGo value o r >>= fun _=>pure r) Q E s₃) E s₂:=by rw [hs o i];exact wpAny_operating (ye h₂ (fun r s₃ h₃=>Yc (wpAny_letTemporaryGo (Yh h₃))) fun _ _ x=>x)
 first
  | exact Yh (Yc fin)
  | exact Yc (Yh (Yc fin))
  | exact Yc fin
theorem jfx {X:Cx} {tf:List (Addr×Obj)} {σ:St} {H:Hp} {s:Shared} {a:Addr} {y:V} {o:Option V} (I:Inv X tf σ H s) (g:jfY H a y o):s.TypeIs (.ref a) "dict":=by
 rcases g with ⟨kvs,k,e,_,_⟩ | ⟨kvs,k,b,e,_,_,_⟩
 . obtain ⟨_,_,vs,_,dd⟩:=Zn I.hok e;exact dd.typeIs
 . obtain ⟨_,_,xs,_,dd⟩:=jcs I.hok e;exact dd.typeIs
def jnn (td ty:TE):TE:=fun σ H Q=>td σ H fun x H1=>ty σ H1 fun y H2=>∃a v,x=.ref a/\jfY H2 a y (some v)/\Q v H2
def jnN (td ty tv:TE):TS:=fun D σ H=>tv σ H fun v H1=>td σ H1 fun x H2=>ty σ H2 fun y H3=>∃a H4,x=.ref a/\jqL H3 a y v H4/\D.nx σ H4
section
variable {X:Cx} {o i e value:Expr} {pos pos' tpos:Pos} {td ty tv:TE}
theorem jmL (hu:X.A.units+1<cLine) (ho:PE X o td) (hi:PE X i ty) (hs:jpa i):PE X (.Subscript o i pos) (jnn td ty):=by intro tf s σ H Q I h;refine jng PySem.F.slot_dict_getitem.lookup hs (qt (ho tf s σ H _ I h) fun u s1 ⟨x,H1,I1,rx,q1⟩=>qt (hi tf s1 σ H1 _ I1 q1) fun iv s2 zz=>?_);obtain ⟨y,H2,I2,ry,a,v,ex,g,q2⟩:=zz;subst ex;obtain rfl:u=Value.ref a:=rx;exact ⟨jfx I2 g,jji hu I2 g ry fun w' s3 I3 rw'=>⟨v,H2,I3,rw',q2⟩⟩
theorem jl4 (hu:X.A.units+1<cLine) (ho:PE X o td) (hi:PE X i ty) (hv:PE X value tv) (hs:swapsWith value (some (.Subscript o i pos')) pos.line X.env=pure false) :
 PS X (.Assign [.Subscript o i pos'] value pos) (jnN td ty tv):=by
 intro tf s σ H D I h;refine wpAny_Assign_Subscript (qt (hv tf s σ H _ I h) fun r s1 ⟨v,H1,I1,rv,q1⟩=>qt (ho tf s1 σ H1 _ I1 q1) fun u s2 ⟨x,H2,I2,rx,q2⟩=>qt (hi tf s2 σ H2 _ I2 q2) fun iv s3 zz=>?_) hs;obtain ⟨y,H3,I3,ry,a,H4,ex,g,q3⟩:=zz;subst ex;obtain rfl:u=Value.ref a:=rx;exact jjg hu I3 g ry rv fun s4 I4=>⟨σ,H4,I4,q3⟩
end
theorem jfi {P:Program} {w:World} {H:Hp} (h:Heap) (hb:sysModules<h.objs.size):ObjOk P w H (h.push { cls:=.type "dict",data:=.dict #[] }) h.objs.size (.dK []):=⟨yA _,KA.mpr (Ne.symm (Yr hb)),[],.nil,Heap.DictOf.new h⟩
def jj4:TE:=fun _ H Q=>∀p,H p=none->Q (.ref p) (upd H p (.dK []))
section
variable {X:Cx} {pos:Pos}
theorem jlm:PE X (.Dict [] [] pos) jj4:=fun tf s σ H Q I h=>wpAny_Dict_empty ⟨.ref s.heap.objs.size,_,I.laid (a:=s.heap.objs.size) (o:=.dK []) (t':=s.toks) (fun _ _ q=>Yg _ q) (Yn _) (jfi s.heap I.big),rfl,h _ (I.hok.fresh (Yn _))⟩
end
def jhi:List (TE×TE)->St->Hp->(List (V×V)->Hp->Prop)->Prop
 | [],_,H,Q=>Q [] H
 | (tk,tv)::r,σ,H,Q=>tk σ H fun x H1=>tv σ H1 fun y H2=>jhi r σ H2 fun ps H3=>Q ((x,y)::ps) H3
abbrev VV:List (V×V)->List (Value×Value)->Prop:=Paired fun p q=>RelV p.1 q.1/\RelV p.2 q.2
def PPs (X:Cx) (pos:Pos) (keys:List (Option Expr)) (values:List Expr) (trs:List (TE×TE)):Prop:=
 ∀(tf:List (Addr×Obj)) (s:Shared) (σ:St) (H:Hp) (Q:List (V×V)->Hp->Prop),Inv X tf σ H s->jhi trs σ H Q->
   wpAny ‹"c"› X.A (evalPairs (pairTrees keys values X.env pos)) (fun vs s'=>∃ps H',Inv X tf σ H' s'/\VV ps vs/\Q ps H') X.xe s
theorem jmi {X:Cx} {pos:Pos}:PPs X pos [] [] []:=fun tf s σ H Q I h=>pairTrees_nil_walk ⟨[],H,I,.nil,h⟩
theorem jls {X:Cx} {pos:Pos} {k v:Expr} {ks:List (Option Expr)} {vs:List Expr} {tk tv:TE} {trs:List (TE×TE)} (hk:PE X k tk) (hv:PE X v tv) (hr:PPs X pos ks vs trs) :
 PPs X pos (some k::ks) (v::vs) ((tk,tv)::trs):=fun tf s σ H Q I h=>
 pairTrees_cons_walk (qt (hk tf s σ H _ I h) fun u s1 ⟨x,H1,I1,rx,q1⟩=>qt (hv tf s1 σ H1 _ I1 q1) fun w2 s2 ⟨y,H2,I2,ry,q2⟩=>qt (hr tf s2 σ H2 _ I2 q2) fun ws s3 ⟨ps,H3,I3,rel,q3⟩=>⟨(x,y)::ps,H3,I3,.cons ⟨rx,ry⟩ rel,q3⟩)
def jdd (kvs more:List (ze×V)):List (ze×V):=more.foldl (fun tJ kv=>ZG tJ kv.1 kv.2) kvs
theorem KV.merge:∀{more:List (ze×V)} {rs:List (ze×Value)} {kvs:List (ze×V)} {vs:List (ze×Value)},KV more rs->KV kvs vs->KV (jdd kvs more) (merged vs rs):=by
 intro more rs kvs vs r;unfold KV at r;induction r generalizing kvs vs with
 | nil=>intro q;exact q
 | @cons p q ps qs h t ih=>
   intro r0;have e:KV (ZG kvs p.1 p.2) (stored vs q.1 q.2):=by have:=r0.put p.1 h.2;rw [<-h.1];exact this
   exact ih e
theorem ZT:∀(more kvs:List (ze×V)),(jdd kvs more).length<=kvs.length+more.length
 | [],kvs=>by show kvs.length<=kvs.length+0;omega
 | p::r,kvs=>by have h1:=ZT r (ZG kvs p.1 p.2);have h2:=Zc kvs p.1 p.2;show (jdd (ZG kvs p.1 p.2) r).length<=_;rw [YG];omega
theorem jdg {P:Program} {w:World}:∀{kvs:List (ze×V)} {ws:List (Value×Value)},VV (kvs.map fun kv=>(kV kv.1,kv.2)) ws->∃rs,Carries (jX P w) ws rs/\KV kvs rs
 | [],_,r=>by rw [yP] at r;cases r;exact ⟨[],True.intro,.nil⟩
 | p::kvs,_,r=>by
   rw [List.map_cons] at r;cases r with
   | @cons a b as bs h t=>obtain ⟨rs,c,q⟩:=jdg (P:=P) (w:=w) t;obtain ⟨b1,b2⟩:=b;exact ⟨(p.1,b2)::rs,⟨jb5 h.1,rfl,c⟩,.cons ⟨rfl,h.2⟩ q⟩
def jnv (trs:List (TE×TE)):TE:=fun σ H Q=>∀p,H p=none->jhi trs σ (upd H p (.dK [])) fun ps H2=>H2 p=some (.dK [])/\∃kvs:List (ze×V),ps=kvs.map (fun kv=>(kV kv.1,kv.2))/\kvs.length<=15/\Q (.ref p) (upd H2 p (.dK (jdd [] kvs)))
theorem jmW {X:Cx} {pos:Pos} {keys:List (Option Expr)} {values:List Expr} {trs:List (TE×TE)} (h:PPs X pos keys values trs) (hall:keys.all (·.isSome)=true) (hl:keys.length=values.length) (h0:keys≠[])
 (h15:keys.length<=15):PE X (.Dict keys values pos) (jnv trs):=by
 intro tf s σ H Q I q;have hn:=I.hok.fresh (Yn s.heap.objs.size);have I1:=I.laid (a:=s.heap.objs.size) (o:=.dK []) (h':=s.heap.push { cls:=.type "dict",data:=.dict #[] }) (t':=s.toks) (fun _ _ q=>Yg _ q) (Yn _) (jfi s.heap I.big);refine wpAny_Dict_walk (knd:=jX X.prog X.w) hall hl h0 h15 (qt (h tf _ σ _ _ I1 (q _ hn)) fun ws s2 zz=>?_);obtain ⟨ps,H2,I2,rel,e,kvs,ep,lk,q2⟩:=zz;subst ep;obtain ⟨rs,c,rk⟩:=jdg (P:=X.prog) (w:=X.w) rel;obtain ⟨z,hd,vs0,r0,dd⟩:=jnW I2.hok e;cases r0;refine ⟨rs,c,dd,fun h' dd' hs=>⟨.ref s.heap.objs.size,_,?_,rfl,q2⟩⟩;have hz:(jdd [] kvs).length<=sizeLine:=by have h1:=ZT kvs [];rw [yi] at h1;rw [sizeLine_eq];omega
 have he:∃q,h'.get? s.heap.objs.size=some q:=let ⟨q,_,_,hq,_⟩:=dd';⟨q,hq⟩;exact jeG I2 (by rw [e];exact True.intro) hs he (jhh hz hd (rk.merge .nil) dd')
structure M1 (X:Cx) (o:Expr) (m:Str) (apos:Pos) (e:Expr) (cpos:Pos):Prop where
 base:attributeBase o m X.env (eval o X.env)=eval o X.env
 few:((backTo cpos (starEach [e] X.env)).all (fun x=>!x.1) && (backToKw cpos (keywordEach [] X.env)).all (fun x=>x.1.isSome)
  && decide (([e]:List Expr).length+([]:List Keyword).length+(if ([]:List Keyword).isEmpty then 0 else 1)<30))=true
 line:(apos.endLine == cpos.line)=true
 trees:backTo cpos (starEach [e] X.env)=[(false,eval e X.env)]
def IsD (H:Hp) (a:Addr):Prop:=(∃kvs,Rd H a (.dK kvs))\/∃kvs,Rd H a (.dT kvs)
theorem jn5 {X:Cx} {tf:List (Addr×Obj)} {σ:St} {H:Hp} {s:Shared} {a:Addr} (I:Inv X tf σ H s) (d:IsD H a) :
 s.TypeIs (.ref a) "dict" ∧ (∀b,Value.ref a=.ref b → ∃ob,s.heap.get? b=some ob ∧ ob.dict=none) ∧ (a == sysModules)=false:=by
 rcases d with ⟨kvs,e⟩ | ⟨kvs,e⟩
 . obtain ⟨_,hd,vs,_,dd⟩:=Zn I.hok e;refine ⟨dd.typeIs,fun b q=>?_,hd⟩;cases q;obtain ⟨ob,_,_,h1,h2,_⟩:=dd;exact ⟨ob,h1,h2.2.1⟩
 . obtain ⟨_,hd,xs,_,dd⟩:=jcs I.hok e;refine ⟨dd.typeIs,fun b q=>?_,hd⟩;cases q;obtain ⟨ob,_,_,h1,h2,_⟩:=dd;exact ⟨ob,h1,h2.2.1⟩
section
variable {X:Cx} {tf:List (Addr×Obj)} {σ:St} {H:Hp} {s:Shared} {a:Addr} {y d:V} {u r:Value} {o:Option V} {A:Around} {E:Value->Shared->Prop}
theorem joB {Q:Value->Shared->Prop} (hu:A.units+1<cLine) (I:Inv X tf σ H s) (g:jfY H a y o) (ry:RelV y u) (h:∀w' s',Inv X tf σ H s'->RelV (o.getD .non) w'->Q w' s') :
 wpAny ‹"c"› A (call (.builtin "dict.get") [.ref a,u]) Q E s:=by
 rcases g with ⟨kvs,k,e,ey,l⟩ | ⟨kvs,k,b,e,ey,eb,l⟩
 . subst ey;obtain ⟨z,hd,vs,rel,dd⟩:=Zn I.hok e;refine call_meetsIn Kj dd.typeIs KM (KG _ _) (meets_dict_get (jX X.prog X.w) a (jb5 ry) hd) ⟨_,dd.mapOf,h _ _ (I.tok _) ?_⟩;rw [l];exact (rel.val k).getD rfl
 . subst ey;cases (show u=Value.ref b from ry);obtain ⟨z,hd,xs,rel,dd⟩:=jcs I.hok e;refine call_meetsIn Kj dd.typeIs KM (KG _ _) (meetsH_dict_get (tupleKind (jX X.prog X.w)) a b hd) ⟨Kg hu,k,xs,Z5 I.hok eb,dd,h _ _ (I.tok _) ?_⟩;rw [l];exact (rel.val k).getD rfl
end
section
variable {X:Cx} {o e f:Expr} {apos cpos:Pos} {td ty tx:TE}
end
section
variable {X:Cx} {tf:List (Addr×Obj)} {σ:St} {H:Hp} {s:Shared} {a:Addr} {kvs:List (ze×V)} {A:Around} {E:Value->Shared->Prop}
theorem jj8 {Q:Value → Shared → Prop} (I:Inv X tf σ H s) (e:Rd H a (.dK kvs)) (h:∀p s',H p=none → Inv X tf σ (upd H p (.dK kvs)) s' → Q (.ref p) s'):wpAny ‹"c"› A (call (.type "dict") [.ref a]) Q E s:=by obtain ⟨z,hd,vs,rel,dd⟩:=Zn I.hok e;refine kt_call_dict hd dd (by rw [<-rel.length];exact z) fun h' dd' hs=>?_;refine h _ _ (I.hok.fresh (Yn _)) (I.laid (a:=s.heap.objs.size) (o:=.dK kvs) (t':=s.toks) (fun b q hq=>?_) (Yn _) (jhh z (KA.mpr (Ne.symm (Yr I.big))) rel dd'));exact (hs.2 b (Yr (Yu hq))).trans (Yg _ hq)
end
section
variable {X:Cx} {tf:List (Addr×Obj)} {σ:St} {H:Hp} {s:Shared} {a:Addr} {y:V} {u:Value} {A:Around} {E:Value->Shared->Prop}
end
end L2
namespace L2S
open PySem
def Ris (xs:Array Nat):Prop:=∀i j,i<j->j<xs.size->xs.getD i 0<xs.getD j 0
theorem jcq {xs:Array Nat} {j:Nat} (R:Ris xs):∀(fuel lo hi:Nat),lo<=hi->hi<=xs.size->hi-lo<=fuel->(∀i,i<lo->xs.getD i 0<j)->(∀i,hi<=i->i<xs.size->j<=xs.getD i 0)->
 (SetTable.below.go xs j fuel lo hi<=xs.size)/\(∀i,i<SetTable.below.go xs j fuel lo hi->xs.getD i 0<j)/\(∀i,SetTable.below.go xs j fuel lo hi<=i->i<xs.size->j<=xs.getD i 0)
 | 0,lo,hi,h1,h2,h3,h4,h5=>by
   have:lo=hi:=by omega
   subst this;exact ⟨h2,h4,h5⟩
 | fuel+1,lo,hi,h1,h2,h3,h4,h5=>by
   unfold SetTable.below.go;by_cases hlt:lo<hi
   . rw [if_pos hlt];dsimp only;have hm:(lo+hi)/2<xs.size:=by omega
     have e:xs.getD ((lo+hi)/2) j=xs.getD ((lo+hi)/2) 0:=by simp [Array.getD,hm]
     rw [e];by_cases hc:xs.getD ((lo+hi)/2) 0<j
     . rw [if_pos hc];refine jcq R fuel _ _ (by omega) h2 (by omega) (fun i hi'=>?_) h5;rcases YW i ((lo+hi)/2) with q | q
       . exact yE (R i _ q hm) hc
       . have:i=(lo+hi)/2:=by omega
         subst this;exact hc
     . rw [if_neg hc];refine jcq R fuel _ _ (by omega) (by omega) (by omega) h4 (fun i hi' hs=>?_);rcases YW ((lo+hi)/2) i with q | q
       . exact YZ (Nat.le_of_not_lt hc) (yF (R _ i q hs))
       . have:i=(lo+hi)/2:=by omega
         subst this;exact Nat.le_of_not_lt hc
   . rw [if_neg hlt];have:lo=hi:=by omega
     subst this;exact ⟨h2,h4,h5⟩
theorem jcy {xs:Array Nat} {j:Nat} (R:Ris xs):SetTable.below xs j<=xs.size/\(∀i,i<SetTable.below xs j->xs.getD i 0<j)/\(∀i,SetTable.below xs j<=i->i<xs.size->j<=xs.getD i 0):=jcq R xs.size 0 xs.size (yA _) (Yn _) (by omega) (fun i h=>absurd h (Kl _)) fun i h1 h2=>absurd h2 (Nat.not_lt.mpr h1)
theorem jg6 {xs:Array Nat} {i:Nat} (R:Ris xs) (hi:i<xs.size):SetTable.below xs (xs.getD i 0+1)=i+1:=by
 obtain ⟨b1,b2,b3⟩:=jcy (j:=xs.getD i 0+1) R;rcases KP (SetTable.below xs (xs.getD i 0+1)) (i+1) with q | q | q
 . have:=b3 i (by omega) hi;omega
 . exact q
 . have:=b2 (i+1) q;have h2:i+1<xs.size:=by omega
   have:=R i (i+1) (by omega) h2;omega
theorem jgG {xs:Array Nat} (R:Ris xs):SetTable.below xs 0=0:=by
 obtain ⟨b1,b2,b3⟩:=jcy (j:=0) R;rcases Nat.eq_zero_or_pos (SetTable.below xs 0) with q | q
 . exact q
 . have:=b2 0 q;omega
theorem jdr {α:Type} (xs:Array α) (p:Nat) (x:α) (hp:p<=xs.size):(SetTable.insertAt xs p x).size=xs.size+1:=by unfold SetTable.insertAt;simp only [Array.size_append,Array.size_push,Array.size_extract];omega
theorem jbR {α:Type} (xs:Array α) (p:Nat) (x:α):(SetTable.insertAt xs p x).toList=xs.toList.take p++[x]++xs.toList.drop p:=by unfold SetTable.insertAt;simp [Array.toList_extract,List.extract];rw [List.take_of_length_le (by simp)]
theorem ZN (xs:Array Nat) (p x i:Nat) (hp:p<=xs.size):(SetTable.insertAt xs p x).getD i 0=if i<p then xs.getD i 0 else if i=p then x else xs.getD (i-1) 0:=by
 have e:=jbR xs p x;have g:∀(ys:Array Nat) (k:Nat),ys.getD k 0=ys.toList.getD k 0:=fun ys k=>by simp [Ko,Ya]
 rw [g,e,g,g];simp only [Ya];have hl:(xs.toList.take p).length=p:=by simp;omega
 split
 . rename_i h;rw [y0,Yw (by omega),List.getElem?_take_of_lt h]
 . split
   . rename_i h1 h2;subst h2;rw [y0,Yy (by omega)];simp [hl]
   . rename_i h1 h2;rw [Yy (by simp;omega),List.getElem?_drop];simp only [YD,hl,YG,yi];rw [show p+(i-(p+(0+1)))=i-1 by omega]
theorem jhe {xs:Array Nat} {j:Nat} (R:Ris xs) (hn:xs[SetTable.below xs j]?≠some j):Ris (SetTable.insertAt xs (SetTable.below xs j) j):=by
 obtain ⟨b1,b2,b3⟩:=jcy (j:=j) R;generalize SetTable.below xs j=p at *
 intro a b hab hb;rw [jdr _ _ _ b1] at hb;rw [ZN _ _ _ _ b1,ZN _ _ _ _ b1];have hp:p<xs.size->j<xs.getD p 0:=fun h=>by
  have h1:=b3 p (Yn _) h;have h2:xs.getD p 0≠j:=fun z=>hn (by rw [YH h];simp [Array.getD,h] at z;rw [z])
  omega
 have mono:∀c,p<=c->c<xs.size->j<xs.getD c 0:=fun c h1 h2=>by
  rcases YW p c with q | q
  . have:=R p c q h2;have:=hp (by omega);omega
  . have:c=p:=by omega
    subst this;exact hp h2
 split <;> split <;> (try split) <;> (try split);all_goals first
  | (rename_i h1 h2;exact R a b hab (by omega))
  | skip
 all_goals first
  | omega
  | (apply R;omega;omega)
  | (rename_i h1 h2 h3;exact b2 a h1)
  | skip
 all_goals first
  | (exact b2 _ (by omega))
  | (exact mono _ (by omega) (by omega))
  | (exact yE (b2 _ (by omega)) (mono _ (by omega) (by omega)))
  | skip
theorem Zt (n:Nat):Ris (Array.range n):=by intro i j h1 h2;rw [Array.size_range] at h2;simp [Array.getD,h2,show i<n by omega];exact h1
theorem ja7 (f:Nat->Option Nat):∀(l:List Nat),((l.filterMap fun j=>(f j).map (j,·)).map (·.1)).Sublist l
 | []=>by simp
 | a::l=>by
   rw [Ke];cases e:f a with
   | none=>exact (ja7 f l).cons a
   | some b=>exact (ja7 f l).cons₂ a
theorem jbO {l:List Nat} (h:l.Pairwise (· < ·)):Ris l.toArray:=by
 intro i j h1 h2;have h2':j<l.length:=by simpa using h2
 have:=(yR.mp h) i j (by omega) h2' h1;simp [Array.getD,h2',show i<l.length by omega];exact this
theorem jlD {mask finger moves:Nat} {led plain:Bool} {hs:Array Int} {t:SetTable} {o:Array Nat} (h:SetTable.laid mask finger moves led plain hs=some (t,o)):Ris t.place/\t.led=led/\t.plain=plain:=by
 unfold SetTable.laid at h;cases e:SetTable.layClean mask hs with
 | none=>rw [e] at h;cases h
 | some ow=>rw [e] at h;have h':=Option.some.inj h;have h1:=congrArg (·.1) h';dsimp only at h1;subst h1;refine ⟨?_,rfl,rfl⟩;dsimp only;refine jbO ?_;exact (List.pairwise_lt_range).sublist (ja7 (fun j=>ow.getD j none) (List.range (mask+1)))
end L2S
set_option maxHeartbeats 4000000
namespace L2
open PySem PySem.Spec PyProof.Rows
abbrev Jw (h:Heap) (z TI TO a:Addr) (f:Bool):Prop:=h.get? z=some { cls:=.type "zip",dict:=none,data:=.fields #[rawInt a,.bool f,.bool false,.ref TI,.ref TO],slots:=#[] }
section
variable {prog:Program} {w:World} {A:Around} {E:Value->Shared->Prop} {s:Shared}
theorem ltN {h:Heap} {b:Addr} {o:Obj} (e:h.get? b=some o):@LT.lt Nat instLTNat b h.objs.size:=Yu e
theorem jjT {a:Addr} {o:Obj} {Q:Option Obj->Shared->Prop} (ho:s.heap.get? a=some o) (h:Q (some o) s):wpAny (model prog w) A (loadIfAlive a) Q E s:=by
 have q:Q (s.heap.get? a) s:=by rw [ho];exact h
 exact fun _ _ _=>q
theorem jcx {z TI TO a:Addr} {f:Bool} {oa:Obj} {Q:Bool->Shared->Prop} (hz:Jw s.heap z TI TO a f) (ha:s.heap.get? a=some oa)
 (hQ:∀h',Jw h' z TI TO a true->Heap.SameBut z s.heap h'->Q false { s with heap:=h' }):wpAny (model prog w) A (Builtin.SmallTypes.ownedTupleIsFree (.ref z)) Q E s:=by
 unfold Builtin.SmallTypes.ownedTupleIsFree;refine Yc (K1 hz rfl (x:=rawInt a) rfl ?_);show wpAny _ _ (loadIfAlive ((a:Int).toNat) >>= _) _ _ _;rw [Ym];refine Yc (jjT ha ?_);simp only [Option.isNone_some,Y0,ym];refine Yc (K1 hz rfl (x:=.bool f) rfl ?_);cases f with
 | true=>rw [if_neg (show ¬((Value.bool true != Value.bool true)=true) from Yf)];exact Yh (hQ s.heap hz (Heap.SameBut.refl _ _))
 | false=>rw [if_pos (show (Value.bool false != Value.bool true)=true from rfl)];refine Yc (yn hz (by simp) fun h' hz' hs'=>?_);exact Yh (hQ h' hz' hs')
theorem jdo {z TI TO i1 i2 l1 l2 a:Addr} {f:Bool} {oa:Obj} {k1 k2:Nat} {xs ys:Array Value} {x y:Value} {Q:Option Value->Shared->Prop} (D:ZipApart z TI TO i1 i2 l1 l2)
 (hz:Jw s.heap z TI TO a f) (ha:s.heap.get? a=some oa) (hTI:IsPair s.heap TI (.ref i1) (.ref i2))
 (h1:s.heap.IsListIter i1 l1 k1) (h2:s.heap.IsListIter i2 l2 k2) (hl1:s.heap.IsList l1 xs) (hl2:s.heap.IsList l2 ys) (hx:xs[k1]?=some x) (hy:ys[k2]?=some y)
 (hQ:∀h',Jw h' z TI TO a true->h'.IsListIter i1 l1 (k1+1)->h'.IsListIter i2 l2 (k2+1)->IsPair h' s.heap.objs.size x y->h'.objs.size=s.heap.objs.size+1->
  (∀c o,c≠z->c≠i1->c≠i2->s.heap.get? c=some o->h'.get? c=some o)->Q (some (.ref s.heap.objs.size)) { s with heap:=h' }) :
 wpAny (model prog w) A (pyNext (.ref z)) Q E s:=by
 have hT:s.TypeIs (.ref z) "zip":=⟨_,hz,rfl⟩;unfold pyNext;refine Yc ‹"2"›;show wpAny _ _ (field (.ref z) 2 >>= _) _ _ _;refine Yc (K1 hz rfl (x:=.bool false) rfl ?_);show wpAny _ _ (field (.ref z) 3 >>= _) _ _ _;refine Yc (K1 hz rfl (x:=.ref TI) rfl ?_);refine Yc (Kt hTI rfl ?_);show wpAny _ _ (Builtin.SmallTypes.ownedTupleIsFree (.ref z) >>= _) _ _ _;refine Yc (jcx hz ha fun g1 hz1 s1=>?_);simp only [Y0,ym];rw [<-Array.forIn_toList];simp only [List.forIn_cons,List.forIn_nil];refine Yc (Yc (Yc (Y7 ?_)));show wpAny _ _ (Builtin.SmallTypes.nextOf (.ref i1) >>= _) _ _ _;refine Yc ‹"aA"›;refine Yc (Yc (Y7 ?_));show wpAny _ _ (Builtin.SmallTypes.nextOf (.ref i2) >>= _) _ _ _;refine Yc (KL ((h2.extBut s1.extBut D.i2z).extBut s2.extBut D.i12.symm) ((hl2.extBut s1.extBut D.l2z).extBut s2.extBut D.l2i1) hy fun g3 p3 s3=>Yh (Yh (Yh ?_)));dsimp only;refine Yc (wpAny_newTuple (hsz:=by show 2<=sizeLine;decide) ?_);have hsz:g3.objs.size=s.heap.objs.size:=by rw [s3.1,s2.1,s1.1]
 have hz3:Jw g3 z TI TO a true:=s3.extBut _ _ D.i2z.symm (s2.extBut _ _ D.i1z.symm hz1);refine Yh ⟨_,rfl,Yh ?_⟩;show Q (some (.ref g3.objs.size)) _;rw [hsz];refine hQ _ (Yg _ hz3) ((p2.extBut s3.extBut D.i12).at fun o e=>Yg _ e) (p3.at fun o e=>Yg _ e) ?_ (by rw [Y5,hsz]) fun c o c1 c2 c3 e=>Yg _ (s3.extBut _ _ c3 (s2.extBut _ _ c2 (s1.extBut _ _ c1 e)));rw [<-hsz];exact Yv _ rfl
theorem jd9 {z TI TO i1 i2 l1 l2 a:Addr} {f:Bool} {oa:Obj} {k1 k2:Nat} {xs ys:Array Value} {Q:Option Value->Shared->Prop} (hh:A.handled=none) (D:ZipApart z TI TO i1 i2 l1 l2)
 (hz:Jw s.heap z TI TO a f) (ha:s.heap.get? a=some oa) (hTI:IsPair s.heap TI (.ref i1) (.ref i2))
 (h1:s.heap.IsListIter i1 l1 k1) (h2:s.heap.IsListIter i2 l2 k2) (hl1:s.heap.IsList l1 xs) (hl2:s.heap.IsList l2 ys) (hend:xs[k1]?=none\/ys[k2]?=none)
 (hQ:∀h',(∀c o,c≠z->c≠i1->c≠i2->s.heap.get? c=some o->h'.get? c=some o)->Q none { s with heap:=h' }):wpAny (model prog w) A (pyNext (.ref z)) Q E s:=by
 have hT:s.TypeIs (.ref z) "zip":=⟨_,hz,rfl⟩;have stop:∀(h':Heap) (e:Addr),(∀c o,c≠z → c≠i1 → c≠i2 → s.heap.get? c=some o → h'.get? c=some o) → (∃o,h'.get? e=some o ∧ o.cls=.type "StopIteration") →
  wpAny (model prog w) A (do let b ← isInstance (.ref e) (.type "StopIteration");if b=true then pure none else throw (.ref e)) Q E { s with heap:=h' }:=by
  rintro h' e hk ⟨o,ho,hc⟩;refine Yc (KU (T := "StopIteration") (b:=true) ⟨o,ho,hc⟩ isSubtype_stop ?_);exact Yh (hQ _ hk)
 unfold pyNext;refine Yc ‹"2"›;show wpAny _ _ (field (.ref z) 2 >>= _) _ _ _;refine Yc (K1 hz rfl (x:=.bool false) rfl ?_);show wpAny _ _ (field (.ref z) 3 >>= _) _ _ _;refine Yc (K1 hz rfl (x:=.ref TI) rfl ?_);refine Yc (Kt hTI rfl ?_);show wpAny _ _ (Builtin.SmallTypes.ownedTupleIsFree (.ref z) >>= _) _ _ _;refine Yc (jcx hz ha fun g1 hz1 s1=>?_);simp only [Y0,ym];rw [<-Array.forIn_toList];simp only [List.forIn_cons,List.forIn_nil];refine Yc (Yc (Yc (Y7 ?_)));show wpAny _ _ (Builtin.SmallTypes.nextOf (.ref i1) >>= _) _ _ _;cases hx:xs[k1]? with
 | none=>exact Yc (wpAny_nextOf_list_end hh (h1.extBut s1.extBut D.i1z) (hl1.extBut s1.extBut D.l1z) hx fun g2 e s2 he=>stop g2 e (fun c o c1 c2 c3 q=>s2 _ _ c2 (s1.extBut _ _ c1 q)) he)
 | some x=>
   have hy:ys[k2]?=none:=by
    rcases hend with q | q
    . rw [hx] at q;cases q
    . exact q
   refine Yc ‹"aA"›;refine Yc (Yc (Y7 ?_));show wpAny _ _ (Builtin.SmallTypes.nextOf (.ref i2) >>= _) _ _ _;exact Yc (wpAny_nextOf_list_end hh ((h2.extBut s1.extBut D.i2z).extBut s2.extBut D.i12.symm) ((hl2.extBut s1.extBut D.l2z).extBut s2.extBut D.l2i1) hy fun g3 e s3 he=>stop g3 e (fun c o c1 c2 c3 q=>s3 _ _ c3 (s2.extBut _ _ c2 (s1.extBut _ _ c1 q))) he)
theorem jbK {R:Result->Shared->Prop} {S I:Addr} {res:Value} (St:Nat->Array Value->Shared->Prop)
 (turn:∀n tJ s,St n tJ s->tJ.size<sizeLine/\wpAny (model prog w) A.in1 (pyNext (.ref I)) (fun r s'=>match r with
  | none=>R (.ok (.ret res)) s'
  | some v=>(∃c,s'.heap.get? S=some { cls:=.type "list",data:=.seq tJ c }) ∧
      ∀h' c',h'.get? S=some { cls:=.type "list",data:=.seq (tJ.push v) c' } → Heap.SameBut S s'.heap h' → ∃m,m<n ∧ St m (tJ.push v) { s' with heap:=h' }) (fun e s'=>R (.error e) s') s) :
 ∀n tJ s,St n tJ s → codeAny (model prog w) A (.builtin "list.extend.loop" ⟨[.ref S,.ref I,res],[]⟩) R s:=by
 intro n;induction n using Nat.strongRecOn with
 | ind n ih=>
   intro tJ s hs;obtain ⟨hz,t⟩:=turn n tJ s hs;refine yX F.entry_extend_loop ?_;rw [yB K6 _];show wpAny _ A.in1 (pyNext (.ref I) >>= _) _ _ s;refine Yc (ye t (fun r s' q=>?_) fun _ _ q=>q);cases r with
   | none=>exact Yh q
   | some v=>obtain ⟨⟨c,e⟩,q⟩:=q;show wpAny _ A.in1 (updateSeq S (·.push v) >>= _) _ _ _;refine Yc ?_;refine yw e rfl (Yh ⟨yM K6 _,?_⟩) (by omega) (by show (tJ.push v).size<=sizeLine+1;rw [Array.size_push];omega);have e2:=YS (Obj.mapSeq (·.push v)) e rfl;obtain ⟨m,hm,hs'⟩:=q _ _ e2 (Heap.SameBut.update ..);exact ih m hm _ _ hs'
theorem jgQ:typeLookup (.type "zip") "__len__"=pure none:=by rw [KD,yN];kernel_rfl
theorem jf6:typeLookup (.type "zip") "__length_hint__"=pure none:=by rw [KD,yN];kernel_rfl
theorem jks {z TI TO:Addr} {f0:Value} {Q:Bool->Shared->Prop} (hz:IsZip s.heap z TI TO f0) (h:Q true s):wpAny (model prog w) A (Builtin.List.listLengthHint (.ref z)) Q E s:=by have hT:s.TypeIs (.ref z) "zip":=⟨_,hz,rfl⟩;unfold Builtin.List.listLengthHint;refine Yc (yH hT jgQ ?_);show wpAny _ _ (specialOf (Value.ref z) (Str.ofString "__length_hint__") >>= _) _ _ s;refine Yc (yH hT jf6 ?_);exact Yh h
structure ZipMade (h₀ h:Heap) (S z TO i1 i2:Addr) (xs ys tJ:Array Value) (i:Nat):Prop where
 size:tJ.size=i
 pair:∀j,j<i->∃T x y,tJ[j]?=some (.ref T)/\xs[j]?=some x/\ys[j]?=some y/\IsPair h T x y/\h₀.objs.size<=T/\T≠S/\(T≠z/\T≠TO/\T≠i1/\T≠i2)/\∀k,k<j->tJ[k]?≠some (.ref T)
 keep:∀b o,h₀.get? b=some o->h.get? b=some o
theorem jlE {z TI TO i1 i2 l1 l2:Addr} {xs ys:Array Value} {h₀:Heap} {Q:Value->Shared->Prop} (hh:A.handled=none) (D:ZipApart z TI TO i1 i2 l1 l2)
 (hz:IsZip s.heap z TI TO .none) (hTI:IsPair s.heap TI (.ref i1) (.ref i2)) (hTO:∃a b,IsPair s.heap TO a b) (h1:s.heap.IsListIter i1 l1 0) (h2:s.heap.IsListIter i2 l2 0) (hl1:h₀.IsList l1 xs) (hl2:h₀.IsList l2 ys)
 (hk:∀b o,h₀.get? b=some o->s.heap.get? b=some o) (hge:h₀.objs.size<=z/\h₀.objs.size<=TO/\h₀.objs.size<=i1/\h₀.objs.size<=i2) (hle:h₀.objs.size<=s.heap.objs.size) (hn:xs.size<sizeLine)
 (hQ:∀S h' tJ c,h₀.objs.size ≤ S → h'.get? S=some { cls:=.type "list",data:=.seq tJ c } → ZipMade h₀ h' S z TO i1 i2 xs ys tJ (min xs.size ys.size) → Q (.ref S) { s with heap:=h' }) :
 wpAny (model prog w) A (call (.type "list") [.ref z]) Q E s:=by
 refine callType_codes (Q₁:=fun obj s₁=>obj=.ref s.heap.objs.size ∧ s₁={ s with heap:=s.heap.push { cls:=.type "list",data:=.seq #[] } }) F.called_list (F.typeCall_list_1 _) F.entry_list_init (code_list_new _ ⟨rfl,rfl⟩) fun obj s₁ e₁=>?_;obtain ⟨rfl,rfl⟩:=e₁;generalize hSd:s.heap.objs.size=S at *
 have hS:(s.heap.push { cls:=.type "list",data:=.seq #[] }).get? S=some { cls:=.type "list",data:=.seq #[] }:=by rw [← hSd];exact Yv _ rfl
 refine ⟨⟨_,hS,rfl⟩,F.args_list_init_2 _ _,?_⟩;generalize hG:s.heap.push { cls:=.type "list",data:=.seq #[] }=G at *
 have up:∀b o,s.heap.get? b=some o->G.get? b=some o:=fun b o e=>by rw [<-hG];exact Yg _ e
 have nS:∀b o,s.heap.get? b=some o->b≠S:=fun b o e=>by rw [<-hSd];exact Yr (Yu e)
 obtain ⟨ta,tb,hTO⟩:=hTO;obtain ⟨oi1,ei1,_⟩:=id h1;obtain ⟨oi2,ei2,_⟩:=id h2;have zS:=nS _ _ hz;have i1S:=nS _ _ ei1;have i2S:=nS _ _ ei2;have TIS:=nS _ _ hTI;have TOS:=nS _ _ hTO;have zl:z<S:=by have q:=ltN hz;rw [hSd] at q;exact q
 have TOl:TO<S:=by have q:=ltN hTO;rw [hSd] at q;exact q
 have i1l:i1<S:=by have q:=ltN ei1;rw [hSd] at q;exact q
 have i2l:i2<S:=by have q:=ltN ei2;rw [hSd] at q;exact q
 -- the list is emptied, then filled
 show wpAny _ _ (do let old <- Builtin.List.listItems (.ref S);Builtin.List.listUpdate (.ref S) (fun _=>#[]);letGo old.toList.reverse;Builtin.List.listExtendWith (.ref S) (.ref z) .none) _ _ _;refine Yc ?_;unfold Builtin.List.listItems;refine Yc (Kt hS rfl (Yh ?_));show wpAny _ _ (updateSeq S (fun _=>#[]) >>= fun _=>letGo (#[]:Array Value).toList.reverse >>= fun _=>Builtin.List.listExtendWith (.ref S) (.ref z) .none) _ _ _;refine Yc (yw hS rfl ?_);have hS2:=YS (Obj.mapSeq (fun _=>(#[]:Array Value))) hS rfl;refine Yc (wpAny_letGo ?_);have sb1:Heap.SameBut S G (G.update S ‹"av"›):=Heap.SameBut.update ..
 generalize G.update S ‹"av"›=G1 at hS2 sb1 ⊢;have up1:∀b o,s.heap.get? b=some o->G1.get? b=some o:=fun b o e=>sb1.extBut b o (nS b o e) (up b o e);unfold Builtin.List.listExtendWith;refine Yc (wpAny_typeOf (T := "zip") ⟨_,up1 _ _ hz,rfl⟩ ?_);have hsr:Builtin.List.listSameRef (.ref S) (.ref z)=false:=by simp [Builtin.List.listSameRef,Ne.symm zS]
 have t1:(Value.type "zip" == Value.type "list")=false:=by decide
 have t2:(Value.type "zip" == Value.type "tuple")=false:=by decide
 simp only [hsr,t1,t2,Bool.or_false,Y0,ym];refine Yc (wpAny_pyIter_zip (up1 _ _ hz) ?_);refine Yc (Y7 (jks (up1 _ _ hz) ?_));simp only [Bool.true_or,yC];refine Yc (wpAny_rule ?_);refine Yc ?_;show wpAny _ _ (updateSeq S (·.push .none) >>= fun _=>updateSeq S (·.pop)) _ _ _;refine Yc (yw hS2 rfl ?_);have hS3:=YS (Obj.mapSeq (·.push Value.none)) hS2 rfl;have sb2:Heap.SameBut S G1 (G1.update S (Obj.mapSeq (·.push Value.none))):=Heap.SameBut.update ..
 generalize G1.update S (Obj.mapSeq (·.push Value.none))=G2 at hS3 sb2 ⊢;refine yw (hz:=by seq_fits) hS3 rfl ?_;have hS4:=YS (Obj.mapSeq (·.pop)) hS3 rfl;have sb3:Heap.SameBut S G2 (G2.update S (Obj.mapSeq (·.pop))):=Heap.SameBut.update ..
 generalize G2.update S (Obj.mapSeq (·.pop))=G3 at hS4 sb3 ⊢;have up3:∀b o,s.heap.get? b=some o->G3.get? b=some o:=fun b o e=>sb3.extBut b o (nS b o e) (sb2.extBut b o (nS b o e) (up1 b o e));refine Yh ⟨yM K6 _,?_⟩;refine jbK (fun n tJ s'=>∃(i c:Nat) (h:Heap),s'={ s with heap:=h } ∧ n=xs.size+1-i ∧ i ≤ xs.size ∧ i ≤ ys.size ∧ ZipMade h₀ h S z TO i1 i2 xs ys tJ i ∧ h.get? S=some { cls:=.type "list",data:=.seq tJ c } ∧ IsPair h TI (.ref i1) (.ref i2) ∧
  h.IsListIter i1 l1 i/\h.IsListIter i2 l2 i/\h₀.objs.size<=h.objs.size/\((IsZip h z TI TO .none/\∃a b,IsPair h TO a b)\/∃a f oa,Jw h z TI TO a f/\h.get? a=some oa/\a≠z/\a≠i1/\a≠i2/\a≠S)) ?_ (xs.size+1) #[] _
  ⟨0,_,G3,rfl,by omega,yA _,yA _,⟨rfl,fun j hj=>absurd hj (Kl _),fun b o e=>up3 b o (hk b o e)⟩,hS4,up3 _ _ hTI,h1.at fun o e=>up3 _ o e,h2.at fun o e=>up3 _ o e,
   by rw [sb3.1,sb2.1,sb1.1,<- hG,Y5];omega,.inl ⟨up3 _ _ hz,_,_,up3 _ _ hTO⟩⟩
 rintro n tJ s' ⟨i,c,h,rfl,rfl,hix,hiy,M,hSl,pTI,p1,p2,hsz,zs⟩;have hb0:∀{b:Addr} {o:Obj},h₀.get? b=some o->b≠z/\b≠TO/\b≠i1/\b≠i2/\b≠S:=fun {b o} e=>by have q:=ltN e;exact ⟨Yr (Yj q hge.1),Yr (Yj q hge.2.1),Yr (Yj q hge.2.2.1),Yr (Yj q hge.2.2.2),Yr (Yj q hle)⟩
 have hl1':h.IsList l1 xs:=hl1.at fun o e=>M.keep _ o e;have hl2':h.IsList l2 ys:=hl2.at fun o e=>M.keep _ o e;obtain ⟨ol1,el1,_⟩:=id hl1;obtain ⟨ol2,el2,_⟩:=id hl2;refine ⟨by rw [M.size];omega,?_⟩;have ltS:S<h.objs.size:=ltN hSl
 -- behind a pair
 have next:∀(h':Heap) (x y:Value) (a:Addr) (f:Bool) (oa:Obj),xs[i]?=some x->ys[i]?=some y->IsPair h' h.objs.size x y->h'.objs.size=h.objs.size+1->Jw h' z TI TO a f->h'.get? a=some oa->a≠z->a≠i1->a≠i2->a≠S->
  h'.IsListIter i1 l1 (i+1)->h'.IsListIter i2 l2 (i+1)->(∀c o,c≠z->c≠TO->c≠i1->c≠i2->h.get? c=some o->h'.get? c=some o)->
  (∃c,h'.get? S=some { cls:=.type "list",data:=.seq tJ c }) ∧
  ∀h'' c',h''.get? S=some { cls:=.type "list",data:=.seq (tJ.push (.ref h.objs.size)) c' } → Heap.SameBut S h' h'' → ∃m,m<xs.size+1-i ∧ ∃(i' c:Nat) (g:Heap),({ s with heap:=h'' }:Shared)={ s with heap:=g } ∧ m=xs.size+1-i' ∧ i' ≤ xs.size ∧ i' ≤ ys.size ∧ ZipMade h₀ g S z TO i1 i2 xs ys (tJ.push (.ref h.objs.size)) i' ∧
    g.get? S=some { cls:=.type "list",data:=.seq (tJ.push (.ref h.objs.size)) c } ∧ IsPair g TI (.ref i1) (.ref i2) ∧ g.IsListIter i1 l1 i' ∧ g.IsListIter i2 l2 i' ∧ h₀.objs.size ≤ g.objs.size ∧
    ((IsZip g z TI TO .none/\∃a b,IsPair g TO a b)\/∃a f oa,Jw g z TI TO a f/\g.get? a=some oa/\a≠z/\a≠i1/\a≠i2/\a≠S):=by
  intro h' x y a f oa hx hy pT hs' zh ea az a1 a2 aS q1 q2 kk;have hxl:i<xs.size:=by
   rcases YW i xs.size with q | q
   . exact q
   . rw [yf q] at hx;cases hx
  have hyl:i<ys.size:=by
   rcases YW i ys.size with q | q
   . exact q
   . rw [yf q] at hy;cases hy
  have TS:h.objs.size≠S:=Y8 ltS;refine ⟨⟨c,kk _ _ (Ne.symm zS) (Ne.symm TOS) (Ne.symm i1S) (Ne.symm i2S) hSl⟩,fun h'' c' eS sb=>⟨xs.size+1-(i+1),by omega,i+1,c',h'',rfl,rfl,hxl,hyl,⟨by rw [Array.size_push,M.size],fun j hj=>?_,fun b o e=>?_⟩,eS,sb.extBut _ _ TIS (kk _ _ D.TIz D.TITO D.TIi1 D.TIi2 pTI),q1.extBut sb.extBut i1S,q2.extBut sb.extBut i2S,by rw [sb.1];omega,
   .inr ⟨a,f,oa,sb.extBut _ _ zS zh,sb.extBut _ _ aS ea,az,a1,a2,aS⟩⟩⟩
  . rcases YW j i with q | q
    . obtain ⟨T',x',y',e1,e2,e3,e4,e5,e6,e8,e7⟩:=M.pair j q;have hT':=ltN e4;refine ⟨T',x',y',by rw [KB,if_neg (by rw [M.size];omega)];exact e1,e2,e3,?_,e5,e6,e8,fun k hk'=>by rw [KB,if_neg (by rw [M.size];omega)];exact e7 k hk'⟩;obtain ⟨t1',t2',t3',t4'⟩:=e8;exact sb.extBut _ _ e6 (kk _ _ t1' t2' t3' t4' e4)
    . have e:j=i:=by omega
      subst e;refine ⟨h.objs.size,x,y,by rw [KB,if_pos M.size.symm],hx,hy,sb.extBut _ _ TS pT,hsz,TS,⟨Y8 (yE zl ltS),Y8 (yE TOl ltS),Y8 (yE i1l ltS),Y8 (yE i2l ltS)⟩,fun k hk'=>?_⟩;obtain ⟨T',x',y',e1,e2,e3,e4,e5,e6,e8,e7⟩:=M.pair k hk';have hT':=ltN e4;rw [KB,if_neg (by rw [M.size];omega),e1];intro z';have:T'=h.objs.size:=by injection z' with z';injection z'
      exact absurd this (Yr hT')
  . obtain ⟨b1,b2,b3,b4,b5⟩:=hb0 e;exact sb.extBut _ _ b5 (kk _ _ b1 b2 b3 b4 (M.keep b o e))
 have none_of:¬(i<xs.size/\i<ys.size)->(xs[i]?=none\/ys[i]?=none)/\i=min xs.size ys.size:=fun q=>by
  refine ⟨?_,by omega⟩;rcases YW i xs.size with q1 | q1
  . exact .inr (yf (by omega))
  . exact .inl (yf q1)
 by_cases hij:i<xs.size/\i<ys.size
 . have hx:=YH hij.1;have hy:=YH hij.2;rcases zs with ⟨zf,ta',tb',pTO⟩ | ⟨a,f,oa,zh,ea,az,a1,a2,aS⟩
   . refine wpAny_pyNext_zip_item D zf pTI pTO p1 p2 hl1' hl2' hx hy fun h' r1 r2 r3 r4 r5 r6 r7=>?_;exact next h' _ _ _ false _ hx hy r5 r6 r1 r5 (Y8 (yE zl ltS)) (Y8 (yE i1l ltS)) (Y8 (yE i2l ltS)) (Y8 ltS) r3 r4 r7
   . refine jdo D zh ea pTI p1 p2 hl1' hl2' hx hy fun h' r1 r3 r4 r5 r6 r7=>?_;exact next h' _ _ a true oa hx hy r5 r6 r1 (r7 _ _ az a1 a2 ea) az a1 a2 aS r3 r4 fun c o c1 _ c3 c4 e=>r7 c o c1 c3 c4 e
 . obtain ⟨he,hm⟩:=none_of hij;have fin:∀h':Heap,(∀c o,c≠z->c≠TO->c≠i1->c≠i2->h.get? c=some o->h'.get? c=some o)->wants (fun r s₂=>r=Value.none/\Q (.ref S) s₂) E (.ok (.ret .none)) { s with heap:=h' }:=fun h' kk=>by
    refine ⟨rfl,hQ S h' tJ c hle (kk _ _ (Ne.symm zS) (Ne.symm TOS) (Ne.symm i1S) (Ne.symm i2S) hSl) ⟨by rw [M.size,hm],fun j hj=>?_,fun b o e=>?_⟩⟩
    . obtain ⟨T',x',y',e1,e2,e3,e4,e5,e6,e8,e7⟩:=M.pair j (by omega);exact ⟨T',x',y',e1,e2,e3,kk _ _ e8.1 e8.2.1 e8.2.2.1 e8.2.2.2 e4,e5,e6,e8,e7⟩
    . obtain ⟨b1,b2,b3,b4,b5⟩:=hb0 e;exact kk _ _ b1 b2 b3 b4 (M.keep b o e)
   rcases zs with ⟨zf,ta',tb',pTO⟩ | ⟨a,f,oa,zh,ea,az,a1,a2,aS⟩
   . exact wpAny_pyNext_zip_end hh D zf pTI pTO p1 p2 hl1' hl2' he fun h' kk=>fin h' kk
   . exact jd9 hh D zh ea pTI p1 p2 hl1' hl2' he fun h' kk=>fin h' fun c o c1 _ c3 c4 e=>kk c o c1 c3 c4 e
end
end L2
namespace L2S
open PySem PySem.Spec PyProof.Rows
def jau (t:SetTable) (j:Nat):Prop:=t.place[SetTable.below t.place j]?≠some j
theorem jb7 {t:SetTable} {j:Nat} (h:∀i,t.slot j≠.live i):jau t j:=by intro q;refine h (SetTable.below t.place j) ?_;unfold SetTable.slot;simp [q]
theorem Z7 {t:SetTable} {f:Nat->Int} {h:Int}:∀(fuel:Nat) (p:SetTable.Probe) (j:Nat) (d:Option Nat),(∀x,p.dummy=some x->jau t x)->SetTable.probe.go t f h fuel p=some (.empty j d)->jau t j/\∀x,d=some x->jau t x
 | 0,p,j,d,_,e=>by unfold SetTable.probe.go at e;cases e
 | fuel+1,p,j,d,hp,e=>by
   unfold SetTable.probe.go at e;have adv:∀q:SetTable.Probe,(t.advance q).dummy=q.dummy:=fun q=>by unfold SetTable.advance;split <;> rfl
   cases hs:t.slot p.j with
   | empty=>rw [hs] at e;have e':=Option.some.inj e;injection e' with e1 e2;subst e1 e2;exact ⟨jb7 (fun i z=>by rw [hs] at z;cases z),hp⟩
   | dummy=>rw [hs] at e;refine Z7 fuel _ j d (fun x hx=>?_) e;rw [adv] at hx;have hx':p.j=x:=Option.some.inj hx;subst hx';exact jb7 fun i z=>by rw [hs] at z;cases z
   | live i=>
     rw [hs] at e;dsimp only at e;split at e
     . cases e
     . exact Z7 fuel _ j d (fun x hx=>by rw [adv] at hx;exact hp x hx) e
theorem jfs {t:SetTable} {h:Int} {j:Nat} {b:Bool} (e:t.freeSlot h=some (j,b)):jau t j:=by
 unfold SetTable.freeSlot at e;split at e
 . rename_i j' d hp;have q:=Z7 _ _ _ _ (fun x hx=>by cases hx) hp;have e':=congrArg Prod.fst (Option.some.inj e);dsimp only at e';subst e';cases d with
   | none=>exact q.1
   | some x=>exact q.2 x rfl
 . cases e
theorem jha {t:SetTable} (es:Array (Int×Value)) (h:Int) (x:Value) (R:Ris t.place):Ris (layNew t es h x).2.1.place/\(layNew t es h x).2.1.led=t.led:=by
 unfold layNew;split
 . rename_i j wd e;dsimp only;unfold SetTable.orStandIn;split
   . exact ⟨jhe R (jfs e),rfl⟩
   . exact ⟨Zt _,rfl⟩
 . exact ⟨Zt _,rfl⟩
theorem jeq {t:SetTable} (es:Array (Int×Value)) (n:Nat):Ris (relayAll t es n).2.1.place/\(relayAll t es n).2.1.led=t.led:=by
 unfold relayAll;split
 . rename_i t' o e;dsimp only;split
   . have q:=jlD e;exact ⟨q.1,q.2.1⟩
   . exact ⟨Zt _,rfl⟩
 . exact ⟨Zt _,rfl⟩
theorem jad {α:Type}:∀{l:List α} {i:Nat} (h:i<l.length),(l[i]::l.eraseIdx i).Perm l
 | a::l,0,_=>.rfl
 | a::l,i+1,h=>by have ih:=jad (l:=l) (i:=i) (by simpa using h);rw [List.eraseIdx_cons_succ,List.getElem_cons_succ];exact (List.Perm.swap _ _ _).trans (ih.cons a)
theorem jhQ {α:Type} (next:Nat->Nat):∀(fuel k:Nat) (left:List α) (out:Array α),left.length<=fuel->(pickOrder.go next fuel k left out).toList.Perm (out.toList++left)
 | 0,k,left,out,h=>by have:left=[]:=List.length_eq_zero_iff.mp (by omega);subst this;unfold pickOrder.go;simp
 | fuel+1,k,left,out,h=>by
   unfold pickOrder.go;cases left with
   | nil=>simp
   | cons a l=>
     have hlt:next k%(a::l).length<(a::l).length:=Nat.mod_lt _ (by simp)
     rw [Yb hlt];dsimp only;refine (jhQ next fuel (k+1) _ _ ?_).trans ?_
     . rw [List.length_eraseIdx_of_lt hlt];simp at h ⊢;omega
     . rw [Array.toList_push,y0];refine List.Perm.append_left _ ?_;exact (jad hlt)
theorem jjr {α:Type} (next:Nat->Nat) (xs:Array α):(pickOrder next xs).toList.Perm xs.toList:=by
 have:=jhQ next xs.size 0 xs.toList #[] (by simp)
 simpa [pickOrder] using this
section
variable {prog:Program} {w:World} {A:Around} {E:Value->Shared->Prop} {s:Shared}
theorem jjz {src:Source} {n:Nat} {Q:Nat->Shared->Prop} (hn:n≠0) (h:∀i d,i<n->Q i { s with drawn:=d }):wpAny (model prog w) A (choose src n) Q E s:=fun _ _ _=>⟨hn,h _ _ (Nat.mod_lt _ (Nat.pos_of_ne_zero hn))⟩
theorem jhK {α:Type}:∀(n:Nat) (xs:List α) (s:Shared) {Q:List α->Shared->Prop},n=xs.length->(∀ys d,ys.Perm xs->Q ys { s with drawn:=d })->wpAny (model prog w) A (drawOrder n xs) Q E s
 | 0,xs,s,Q,hn,h=>by have:xs=[]:=List.length_eq_zero_iff.mp hn.symm;subst this;unfold drawOrder;exact Yh (h [] s.drawn .rfl)
 | n+1,[],s,Q,hn,h=>by simp at hn
 | n+1,x::xs,s,Q,hn,h=>by unfold drawOrder;refine Yc (jjz (by simp) fun i d hi=>?_);rw [Yb hi];dsimp only;refine Yc (jhK n ((x::xs).eraseIdx i) _ (by rw [List.length_eraseIdx_of_lt hi];omega) fun ys d' hp=>Yh ?_);exact h _ d' (((List.Perm.cons _ hp)).trans (jad hi))
def je0:Value->Int
 | .int k _=>k
 | _=>0
def ZH (prog:Program) (w:World) (h:Heap) (a:Addr) (ns:List Int):Prop:=
 ∃o es ep t,h.get? a=some o/\o.ExactSet/\o.data=.set es ep t/\ElemsOf ‹"X"› es.toList/\(∀k,k∈ns ↔ ∃e∈es.toList,‹"X"›.is k e.2=true)/\t.fits es.size=true/\es.size<=ns.length /\
   (es.toList.map fun e=>je0 e.2).Nodup ∧ Ris t.place ∧ (w.params.followText "set-order"=false → t.led=true)
theorem jaS {es:List (Int×Value)} (h:ElemsOf ‹"X"› es) {e:Int×Value} (he:e∈es):∃k t,e.2=.int k t:=by obtain ⟨⟨k,hk,_⟩,_⟩:=h e he;obtain ⟨t,q⟩:=Value.isInt_shape (k:=k) (v:=e.2) hk;exact ⟨k,t,q⟩
theorem is_int {k j:Int} {t:Tok}:‹"X"›.is k (.int j t)=true ↔ k=j:=by
 constructor
 . intro h;obtain ⟨t',e⟩:=Value.isInt_shape (k:=k) (v:=.int j t) h;injection e with e1 _;exact e1.symm
 . rintro rfl;exact intKind_is _ _ _ _
theorem jhx {b:Bool} {Q:Unit → Shared → Prop} (h:Q () s):wpAny (model prog w) A (match b with | true=>rule "set.scan.the-table-gave-way" | false=>pure ()) Q E s:=by
 cases b
 . exact Yh h
 . exact wpAny_rule h
theorem stored {a:Addr} {o:Obj} {es es':Array (Int×Value)} {ep:Nat} {t t':SetTable} {ns:List Int} {h:Heap} (ho:h.get? a=some o) (hex:o.ExactSet) (hd:o.data=.set es ep t) (h1:ElemsOf ‹"X"› es'.toList)
 (h2:∀k,k∈ns ↔ ∃e∈es'.toList,‹"X"›.is k e.2=true) (h3:t'.fits es'.size=true) (h4:es'.size ≤ ns.length) (h5:(es'.toList.map fun e=>je0 e.2).Nodup) (h6:Ris t'.place) (h7:w.params.followText "set-order"=false → t'.led=true) :
 (h.update a (Obj.putSet es' t')).get? a=some { o with data:=.set es' (ep+1) t' }/\ZH prog w (h.update a (Obj.putSet es' t')) a ns:=by
 have e:(h.update a (Obj.putSet es' t')).get? a=some { o with data:=.set es' (ep+1) t' }:=by
  have q:=YS (Obj.putSet es' t') ho (by rw [putSet_of es' t' hd];rfl)
  rwa [putSet_of es' t' hd] at q
 exact ⟨e,_,es',ep+1,t',e,hex,rfl,h1,h2,h3,h4,h5,h6,h7⟩
theorem jqz {a:Addr} {ns:List Int} {k:Int} {tk:Tok} {Q:Bool->Shared->Prop} (hS:ZH prog w s.heap a ns) (hroom:ns.length+1<scanBound)
 (h:∀h' b,Heap.SameBut a s.heap h'->ZH prog w h' a (ns++[k])->Q b { s with heap:=h' }):wpAny (model prog w) A (setAddHashed a (.int k tk) (‹"X"›.hash k)) Q E s:=by
 obtain ⟨o,es,ep,t,ho,hex,hd,hel,hmem,hf,hle,hnd,hris,hled⟩:=hS;have hb:es.size<scanBound:=by omega
 have hkey:‹"X"›.is k (.int k tk)=true:=intKind_is _ _ _ _;have hsc:(Value.int k tk).scannable=true:=rfl;unfold setAddHashed setAddHashedIn;refine Y7 (Yc (Y6 ho hd hf ?_));dsimp only;rw [byScan_of hsc hb hel,if_pos rfl];unfold setAddByScan;refine Yc (Yc (wpAny_rule (Yc (wpAny_setScan_of hkey ho hd hf hel ?_))));cases hr:List.findIdx? (fun e=>‹"X"›.is k e.2) es.toList with
 | some j=>
   dsimp only;obtain ⟨hj,hpj,_⟩:=List.findIdx?_eq_some_iff_getElem.mp hr;have hk:k∈ns:=(hmem k).mpr ⟨es.toList[j],K0 hj,hpj⟩;refine Yh (Yh ?_);have:=h s.heap false (Heap.SameBut.refl a s.heap) ⟨o,es,ep,t,ho,hex,hd,hel,fun k'=>by rw [YL,Yq,<- hmem k'];exact ⟨fun z=>z.elim id fun e=>e ▸ hk,.inl⟩,hf,by rw [YD];omega,hnd,hris,hled⟩
   exact this
 | none=>
   dsimp only;have hno:∀e∈es.toList,‹"X"›.is k e.2=false:=fun e he=>by have:=List.findIdx?_eq_none_iff.mp hr e he;simpa using this
   have hp:=layNew_perm t es (‹"X"›.hash k) (.int k tk);have hfits:=layNew_fits t es (‹"X"›.hash k) (.int k tk);have hR:=jha es (‹"X"›.hash k) (.int k tk) hris;generalize layNew t es (‹"X"›.hash k) (.int k tk)=L at hp hfits hR ⊢;obtain ⟨es1,t1,wd,gave⟩:=L;dsimp only at hp hfits hR ⊢;rw [Array.toList_push] at hp;have hel1:ElemsOf ‹"X"› es1.toList:=(hel.push hkey hsc).perm hp;have hmem1:∀k',k'∈ns++[k] ↔ ∃e∈es1.toList,‹"X"›.is k' e.2=true:=fun k'=>by
    rw [YL,Yq,hmem k'];constructor
    . rintro (⟨e,he,q⟩ | rfl)
      . exact ⟨e,hp.mem_iff.mpr (Ys _ he),q⟩
      . exact ⟨_,hp.mem_iff.mpr (YB _ (Yq.mpr rfl)),hkey⟩
    . rintro ⟨e,he,q⟩;rcases YL.mp (hp.mem_iff.mp he) with he | he
      . exact .inl ⟨e,he,q⟩
      . rw [Yq] at he;subst he;exact .inr (is_int.mp q)
   have hsz1:es1.size=es.size+1:=by rw [<-YU,hp.length_eq,YD,YU];rfl
   have hnd1:(es1.toList.map fun e=>je0 e.2).Nodup:=by refine ((hp.map _).nodup_iff).mpr ?_;rw [YT,List.nodup_append];refine ⟨hnd,by simp,fun x hx y hy=>?_⟩;rw [List.map_singleton,Yq] at hy;rw [hy];obtain ⟨e,he,rfl⟩:=YO.mp hx;obtain ⟨j,tj,q⟩:=jaS hel he;have:=hno e he;rw [q] at this ⊢;intro z;have z':j=k:=z;rw [z',intKind_is] at this;cases this
   refine Yc (jhx ?_);have tail:∀t2:SetTable,t2.fits es1.size=true->Ris t2.place->t2.led=t.led->wpAny (model prog w) A (do
       storeSet a es1 t2
       if (!wd && t2.tooFull)=true then do
           (match (relayAll t2 es1 ‹"aa"›).2.2 with | true=>rule "set.scan.the-table-gave-way" | false=>pure ())
           storeSet a (relayAll t2 es1 ‹"aa"›).1 (relayAll t2 es1 ‹"aa"›).2.1
           pure (some true)
        else pure (some true)) (fun (x:Option Bool) s'=>∃h',x=some true/\s'={ s with heap:=h' }/\Heap.SameBut a s.heap h'/\ZH prog w h' a (ns++[k])) E s:=by
    intro t2 hf2 hr2 hl2;have hz1:es1.size<scanBound:=by omega
    refine Yc (wpAny_storeSet_of ho hd ?_ (fits_of_scanBound hz1));obtain ⟨ho1,hS1⟩:=stored (prog:=prog) (w:=w) (ns:=ns++[k]) ho hex hd hel1 hmem1 hf2 (by rw [YD,hsz1];simp;omega) hnd1 hr2 (fun q=>hl2.trans (hled q));have sb:=Heap.SameBut.update s.heap a (Obj.putSet es1 t2);split
    . have hp2:=relayAll_perm t2 es1 ‹"aa"›;have hf3:=relayAll_fits t2 es1 ‹"aa"›;have hR2:=jeq (t:=t2) es1 ‹"aa"›;generalize relayAll t2 es1 ‹"aa"›=L2 at hp2 hf3 hR2 ⊢;obtain ⟨es2,t3,g2⟩:=L2;dsimp only at hp2 hf3 hR2 ⊢;have hsz2:es2.size=es1.size:=by rw [<-YU,hp2.length_eq,YU]
      refine Yc (jhx ?_);refine Yc (wpAny_storeSet_of ho1 rfl ?_ (fits_of_scanBound (by rw [hsz2];exact hz1)));obtain ⟨_,hS2⟩:=stored (prog:=prog) (w:=w) (ns:=ns++[k]) ho1 hex rfl (hel1.perm hp2) (fun k'=>(hmem1 k').trans ⟨fun ⟨e,he,q⟩=>⟨e,hp2.mem_iff.mpr he,q⟩,fun ⟨e,he,q⟩=>⟨e,hp2.mem_iff.mp he,q⟩⟩) hf3
       (by rw [YD,hsz2,hsz1];simp;omega) (((hp2.map _).nodup_iff).mpr hnd1) hR2.1 (fun q=>(hR2.2.trans hl2).trans (hled q))
      exact Yh ⟨_,rfl,rfl,sb.trans (Heap.SameBut.update _ a _),hS2⟩
    . exact Yh ⟨_,rfl,rfl,sb,hS1⟩
   have fin:∀(x:Option Bool) (s':Shared),(∃h',x=some true/\s'={ s with heap:=h' }/\Heap.SameBut a s.heap h'/\ZH prog w h' a (ns++[k]))->
       wpAny (model prog w) A (match x with | some added=>pure added | none=>setAddHashedIn a (.int k tk) (‹"X"›.hash k) 99999) Q E s':=by
    rintro _ _ ⟨h',rfl,rfl,sb,hS'⟩;exact Yh (h h' true sb hS')
   split
   . rw [hashByValue_scannable 8 hsc];refine Yc (Yh ?_);exact ye (tail t1 hfits hR.1 hR.2) fin fun _ _ q=>q
   . refine Yc (Yh ?_);exact ye (tail t1 hfits hR.1 hR.2) fin fun _ _ q=>q
theorem jdw {R:Result->Shared->Prop} {S l I:Addr} {items:Array Value} {ns:List Int} (hh:A.handled=none) (hi:IntsAre items.toList ns) (hlI:l≠I) (hSl:S≠l) (hSI:S≠I) (hb:ns.length+1<scanBound) :
 ∀(k i:Nat) (s:Shared),ns.length-i=k->i<=ns.length->s.heap.IsListIter I l i->s.heap.IsList l items->ZH prog w s.heap S (ns.take i)->
   (∀h' tk,(∀b o,b≠S->b≠I->s.heap.get? b=some o->h'.get? b=some o)->ZH prog w h' S ns->R (.ok (.ret .none)) { s with heap:=h',toks:=tk })->
   codeAny (model prog w) A (.builtin "set.update.loop" ⟨[.ref S,.ref I],[]⟩) R s:=by
 have tL:items.size=ns.length:=by have:=hi.length;simpa using this
 have moveS:∀{h h':Heap} {m:List Int},ZH prog w h S m->(∀o,h.get? S=some o->h'.get? S=some o)->ZH prog w h' S m:=by rintro h h' m ⟨o,es,ep,t,ho,r⟩ hk;exact ⟨o,es,ep,t,hk o ho,r⟩
 intro k;induction k with
 | zero=>
   intro i s hk hi' st hl hS hR;have e:i=ns.length:=by omega
   subst e;refine yX Ku ?_;rw [yB yD _];show wpAny _ A.in1 (pyNext (.ref I) >>= _) _ _ s;refine Yc (wpAny_pyNext_list_end hh st hl (yf (by omega)) fun h' he=>?_);show wpAny _ A.in1 (ret Value.none) _ _ _;refine Yh (hR h' s.toks (fun b o _ b2 q=>he b o b2 q) (moveS (by rw [List.take_length] at hS;exact hS) fun o q=>he S o hSI q))
 | succ k ih=>
   intro i s hk hi' st hl hS hR;have hlt:i<ns.length:=by omega
   have hlt':i<items.size:=by omega
   obtain ⟨tk,hv⟩:=IntsAre.int_at hi i items[i] (by rw [yy];exact YH hlt');refine yX Ku ?_;rw [yB yD _];show wpAny _ A.in1 (pyNext (.ref I) >>= _) _ _ s;refine Yc (wpAny_pyNext_list_item st hl (x:=items[i]) (YH hlt') fun h1 st1 sb1=>?_);rw [hv];generalize hval:ns.getD i 0=v;show wpAny _ A.in1 (holding [Value.int v tk] (setAdd S (.int v tk)) >>= _) _ _ _;refine Yc (Y7 ?_);unfold setAdd;refine Y7 (Yc (‹"X"›.pyHash (k:=v) (intKind_is _ _ _ _) ?_));have hS1:ZH prog w h1 S (ns.take i):=moveS hS fun o q=>sb1.extBut S o hSI q;refine jqz (s:={ s with heap:=h1,toks:=s.toks+1 }) hS1 (by rw [KZ];omega) fun h2 b sb2 hS2=>?_;have e2:ns.take i++[v]=ns.take (i+1):=by rw [List.take_succ,Yb hlt,<- hval,Ya,Yb hlt];rfl
   rw [e2] at hS2;refine Yh ⟨yM yD _,ih (i+1) _ (by omega) hlt (st1.extBut sb2.extBut (Ne.symm hSI)) ((hl.extBut sb1.extBut hlI).extBut sb2.extBut (Ne.symm hSl)) hS2 fun h' tk' kk hS'=>?_⟩;exact hR h' tk' (fun b o b1 b2 q=>kk b o b1 b2 (sb2.extBut b o b1 (sb1.extBut b o b2 q))) hS'
theorem jjf (a:Value) {Q₁:Value->Shared->Prop}
 (h:∀led:Bool,led=!w.params.followText "set-order" → Q₁ (.ref s.heap.objs.size) { s with heap:=s.heap.push { cls:=.type "set",dict:=none,data:=.set #[] 0 (.fresh 0 0 led) } }) :
 codeAny (model prog w) A (.call (.builtin "set.__new__") ⟨[.type "set",a],[]⟩) (wants Q₁ E) s:=by
 refine codeAny_of_tree ?_;show wpAny _ A.in1 (do checkBuiltinCall "set.__new__" ⟨[.type "set",a],[]⟩;again (.builtin "set.__new__" ⟨[.type "set",a],[]⟩)) _ _ s;refine Yc (wpAny_of_eq (PySem.F.newCall_set_1 a) (Yh ⟨yM PySem.F.plain_set_new _,yX PySem.F.entry_set_new ?_⟩));rw [yB PySem.F.plain_set_new _];unfold Builtin.«set.__new__» Builtin.Frozenset.newClass;have hsub:=sub_set_self;obtain ⟨hp,g,d,tk,os⟩:=s;dsimp only
 wp_walk
 refine KW (Yh ?_);dsimp only;simp only [newObj];refine Yc (wpAny_alloc (Yh ?_));exact Yh (h _ rfl)
set_option maxHeartbeats 4000000 in
theorem jgS {l:Addr} {items:Array Value} {ns:List Int} {Q:Value->Shared->Prop} (hh:A.handled=none) (hl:s.heap.IsList l items) (hi:IntsAre items.toList ns) (hb:ns.length+1<scanBound)
 (h:∀(h':Heap) (tk:Nat),ZH prog w h' s.heap.objs.size ns->(∀b o,s.heap.get? b=some o->h'.get? b=some o)->Q (.ref s.heap.objs.size) { s with heap:=h',toks:=tk }) :
 wpAny (model prog w) A (call (.type "set") [.ref l]) Q E s:=by
 obtain ⟨c,tl,hmro⟩:=PySem.F.called_set.mro;have hmade:=PySem.F.called_set.made;have hsub:=PySem.F.called_set.sub;refine wpAny_call (codeAny_of_tree ?_);show wpAny _ _ (callAny (.type "set") _) _ _ _;refine Yh ⟨Code.quiet_builtin _ ‹"ah"›,yX PySem.F.entry_type_call ?_⟩;rw [Around.under_plain (weight_type_call_type "set" [.ref l] []) rfl];have h1:=PySem.F.called_set.notType;have h2:=PySem.F.called_set.canCreate;have hct:=PySem.F.typeCall_set_1 (.ref l)
 repeat (any_goals (first | assumption | wp_step))
 refine ka (jjf (.ref l) (E:=E) (Q₁:=fun obj s₁=>∃led:Bool,led=(!w.params.followText "set-order") ∧ obj=.ref s.heap.objs.size ∧ s₁={ s with heap:=s.heap.push { cls:=.type "set",dict:=none,data:=.set #[] 0 (.fresh 0 0 led) } }) fun led e=>⟨led,e,rfl,rfl⟩) fun r s₁ hr=>?_;cases r with
 | error e=>exact hr
 | ok fl=>
   cases fl with
   | ret obj=>
     obtain ⟨led,hled,rfl,rfl⟩:=hr;generalize hSd:s.heap.objs.size=S at *
     have hS:‹"Q"›.get? S=some { cls:=.type "set",dict:=none,data:=.set #[] 0 (.fresh 0 0 led) }:=by rw [← hSd];exact Yv _ rfl
     have hGs:‹"Q"›.objs.size=S+1:=by rw [← hSd,Y5]
     have up:∀b o,s.heap.get? b=some o → ‹"Q"›.get? b=some o:=fun b o e=>Yg _ e;generalize s.heap.push { cls:=.type "set",dict:=none,data:=.set #[] 0 (.fresh 0 0 led) }=G at *
     have hT:Shared.TypeIs { s with heap:=G } (.ref S) "set":=⟨_,hS,rfl⟩;have hli:=PySem.F.called_set.init.lookup;have hbi:=PySem.F.called_set.init.bind (.ref S)
     repeat (any_goals (first | assumption | wp_step))
     refine ka (codeAny_call_builtin (R:=wants (fun r s₂=>r=.none/\∃h' tk,s₂={ s with heap:=h',toks:=tk }/\ZH prog w h' S ns/\(∀b o,s.heap.get? b=some o->h'.get? b=some o)) E) PySem.F.called_set.init.plain PySem.F.entry_set_init (check_set_init_1 hT ?_)) fun r₂ s₂ hr₂=>?_
     . obtain ⟨ol,hol,hcl,nl,hdl⟩:=hl;obtain ⟨ocls,odict,odata,oslots⟩:=ol;simp only at hcl hdl;subst hcl;subst hdl;have hol':=up _ _ hol;have hsls:=PySem.F.sub_list_set;have hslf:=PySem.F.sub_list_frozenset;have hne:(Value.type "list" == Value.type "dict")=false:=by decide
       have hl1:G.IsList l items:=⟨_,hol',rfl,nl,rfl⟩;unfold Builtin.«set.__init__» noKeywords Builtin.Frozenset.updateFrom;generalize hPI:pyIter=PI
       wp_walk
       subst hPI;refine wpAny_pyIter_list hl1 ?_;refine Yc (wpAny_runValue ?_);have hlS:@LT.lt Nat instLTNat l S:=by have q:=L2.ltN hol;rwa [hSd] at q
       have hh3:A.in1.in1.in1.handled=none:=by simp [hh]
       refine jdw (A:=A.in1.in1) (S:=S) (l:=l) (items:=items) (ns:=ns) hh3 hi (I:=G.objs.size) ?_ (Y8 hlS) ?_ hb (ns.length-0) 0 _ rfl (yA _) ⟨_,Yv _ rfl,rfl,rfl⟩ (hl1.push _) ?_ ?_
       . rw [hGs];exact Yr (yG hlS)
       . rw [hGs];exact Yr (yL _)
       . refine ⟨_,#[],0,.fresh 0 0 led,Yg _ hS,⟨rfl,rfl,rfl⟩,rfl,fun e he=>by simp at he,fun k=>by simp,rfl,by simp,by simp,fun i j _ hj=>by simp [SetTable.fresh] at hj,fun q=>?_⟩;show led=true;rw [hled,q];rfl
       . intro h' tk kk hS';show wpAny _ _ _ _ _ _;refine Yh ?_;show wpAny _ _ (ret Value.none) _ _ _;refine Yh ⟨rfl,h',tk,rfl,hS',fun b o e=>kk b o ?_ ?_ (Yg _ (up b o e))⟩
         . have q:=L2.ltN e;rw [hSd] at q;exact Yr q
         . have q:=L2.ltN e;rw [hSd] at q;rw [hGs];exact Yr (yG q)
     . cases r₂ with
       | error e=>exact hr₂
       | ok fl₂=>
         cases fl₂ with
         | ret r=>
           obtain ⟨rfl,h',tk,rfl,hS',hk'⟩:=hr₂
           repeat (any_goals (first | assumption | wp_step))
           exact h _ _ hS' hk'
         | _=>exact hr₂.elim
   | _=>exact hr.elim
end
end L2S
namespace L2S
open PySem PySem.Spec PyProof.Rows
theorem slot_setit_next:Slot "set_iterator" "__next__" "set_iterator.__next__":=
 .of (owner := "set_iterator") (n:="__next__") (by rw [KD,yN];kernel_rfl) ‹"ah"› ‹"ah"› ‹"ah"›
  (by first | exact .inl ‹"ah"› | exact .inr ‹"ah"›) (by rw [isSubtype_type];kernel_rfl)
theorem Qf:entryFor table "set_iterator.__next__"=some Builtin.«set_iterator.__next__»:=entryFor_of_tree (by kernel_rfl)
theorem QV (a:Value):argsOk "set_iterator.__next__" ⟨[a],[]⟩:=by unfold argsOk;kernel_rfl
theorem jda:entryFor table "set.__iter__"=some Builtin.«frozenset.__iter__»:=entryFor_alias (id' := "frozenset.__iter__") (by kernel_rfl) rfl ‹"ah"› (by kernel_rfl)
abbrev SIt (h:Heap) (it:Addr) (first:Value) (i:Nat) (a:Addr) (n ep:Nat):Prop:=h.get? it=some { cls:=.type "set_iterator",dict:=none,data:=.fields #[first,rawInt i,.ref a,rawInt n,rawInt ep],slots:=#[] }
inductive Mode (w:World) (h:Heap) (a:Addr) (es:Array (Int×Value)) (ep:Nat) (t:SetTable):Value->Nat->List Value->Prop where
 | text {sl i:Nat} (hb:w.params.followText "set-order"=true):Mode w h a es ep t (rawInt sl) i ((pickOrder (w.params.setOrder a ep) es).toList.map (·.2))
 | plain {sl i:Nat} (hb:w.params.followText "set-order"=false) (hd:(!t.plain && decide (es.size>1))=false) (hs:SetTable.below t.place sl=i):Mode w h a es ep t (rawInt sl) i (es.toList.map (·.2))
 | drawn {T:Addr} {i:Nat} {pl:List Nat} (hb:w.params.followText "set-order"=false) (hT:h.get? T=some { cls:=.type "tuple",data:=.seq (pl.map fun (j:Nat)=>rawInt j).toArray }) (hp:pl.Perm (List.range es.size)) :
  Mode w h a es ep t (.ref T) i (pl.filterMap fun j=>(es[j]?).map (·.2))
theorem Mode.perm {w:World} {h:Heap} {a:Addr} {es:Array (Int×Value)} {ep:Nat} {t:SetTable} {f:Value} {i:Nat} {q:List Value} (M:Mode w h a es ep t f i q):q.Perm (es.toList.map (·.2)):=by
 cases M with
 | text hb=>exact (jjr _ es).map _
 | plain hb hd hs=>exact .rfl
 | drawn hb hT hp=>refine (hp.filterMap _).trans ?_;have e:=filterMap_getElem?_range es;rw [<-e,List.map_filterMap]
theorem Mode.at {w:World} {h h':Heap} {a:Addr} {es:Array (Int×Value)} {ep:Nat} {t:SetTable} {f:Value} {i:Nat} {q:List Value} (M:Mode w h a es ep t f i q) (k:∀T o,f=.ref T->h.get? T=some o->h'.get? T=some o):Mode w h' a es ep t f i q:=by
 cases M with
 | text hb=>exact .text hb
 | plain hb hd hs=>exact .plain hb hd hs
 | drawn hb hT hp=>exact .drawn hb (k _ _ rfl hT) hp
theorem jfz {es:Array (Int×Value)}:∀{pl:List Nat} {i j:Nat},(∀x∈pl,x<es.size)->pl[i]?=some j->(pl.filterMap fun j=>(es[j]?).map (·.2))[i]?=(es[j]?).map (·.2)
 | [],i,j,_,e=>by simp at e
 | a::l,i,j,h,e=>by
   have ha:a<es.size:=h a Ye;rw [Ke,YH ha];dsimp only [Option.map];cases i with
   | zero=>
     have:a=j:=by simpa using e
     subst this;rw [YH ha];rfl
   | succ i=>rw [List.getElem?_cons_succ];exact jfz (fun x hx=>h x (Yk _ hx)) (by simpa using e)
section
variable {prog:Program} {w:World} {A:Around} {E:Value->Shared->Prop} {s:Shared}
theorem zY {Q:Bool → Shared → Prop} (h:Q (w.params.followText "set-order") s):wpAny (model prog w) A setsByText Q E s:=by unfold setsByText;exact Yc (KW (Yh h))
theorem Z8 {a:Addr} {o:Obj} {es:Array (Int×Value)} {ep:Nat} {t:SetTable} {Q:Array (Int×Value)->Shared->Prop} (ho:s.heap.get? a=some o) (hd:o.data=.set es ep t) (hf:t.fits es.size=true) (h:Q es s):wpAny (model prog w) A (setEntries a) Q E s:=by unfold setEntries;exact Yc (Y6 ho hd hf (Yh h))
structure SetL (w:World) (h:Heap) (a:Addr) (o:Obj) (es:Array (Int×Value)) (ep:Nat) (t:SetTable):Prop where
 ob:h.get? a=some o
 ex:o.ExactSet
 dt:o.data=.set es ep t
 fit:t.fits es.size=true
 ris:Ris t.place
 led:w.params.followText "set-order"=false → t.led=true
theorem SetL.psize {w:World} {h:Heap} {a:Addr} {o:Obj} {es:Array (Int×Value)} {ep:Nat} {t:SetTable} (L:SetL w h a o es ep t):t.place.size=es.size:=by have:=L.fit;simp only [SetTable.fits,Ky,beq_iff_eq] at this;exact this.1
theorem jln {it a:Addr} {o:Obj} {es:Array (Int×Value)} {ep:Nat} {t:SetTable} {f:Value} {i:Nat} {q:List Value} {v:Value} {Q:Option Value->Shared->Prop} (L:SetL w s.heap a o es ep t) (ha:a≠it) (hf:∀T,f=.ref T->T≠it)
 (hi:SIt s.heap it f i a es.size ep) (M:Mode w s.heap a es ep t f i q) (hx:q[i]?=some v)
 (hQ:∀h' f',SIt h' it f' (i+1) a es.size ep->Mode w h' a es ep t f' (i+1) q->(∀T,f'=.ref T->T≠it)->Heap.SameBut it s.heap h'->Q (some v) { s with heap:=h' }):wpAny (model prog w) A (pyNext (.ref it)) Q E s:=by
 have hT:s.TypeIs (.ref it) "set_iterator":=⟨_,hi,rfl⟩;unfold pyNext;refine Yc ‹"6"›;show wpAny _ _ (fieldsOf (.ref it) >>= _) _ _ _;refine Yc (wpAny_fieldsOf hi rfl ?_);show wpAny _ _ (setEntries a >>= _) _ _ _;refine Yc (Z8 L.ob L.dt L.fit ?_);rw [if_neg (by simp)];dsimp only
 -- the two stores behind a place in the table or in the given order
 have two:∀(sl nx:Nat) (x:Value),SIt s.heap it (rawInt sl) i a es.size ep->x=v->(∀h',Mode w h' a es ep t (rawInt nx) (i+1) q)->wpAny (model prog w) A.in1 (do
       setField (.ref it) 0 (rawInt (nx:Int))
       setField (.ref it) 1 (rawInt ((i:Int)+1))
       ret x) (fun fin s'=>∃v,fin=.done (.ret v)/\wpAny (model prog w) A (pure (some v)) Q E s') (fun _ _=>False) s:=by
  intro sl nx x hi' hxv hm;refine Yc (yn hi' (by simp) fun h1 e1 s1=>?_);replace e1:SIt h1 it (rawInt nx) i a es.size ep:=e1;refine Yc (yn e1 (by simp) fun h2 e2 s2=>?_);have e3:SIt h2 it (rawInt nx) (i+1) a es.size ep:=by
   have c:((i+1:Nat):Int)=(i:Int)+1:=by omega
   unfold SIt;rw [c];exact e2
  refine Yh ⟨x,rfl,Yh ?_⟩;rw [hxv];exact hQ h2 _ e3 (hm h2) (fun T z=>nomatch z) (s1.trans s2)
 cases M with
 | @text sl _ hb=>
   show wpAny _ _ (setNext a (sl:Int).toNat (i:Int).toNat (ep:Int).toNat >>= _) _ _ _;rw [Ym,Ym,Ym];refine Yc ?_;unfold setNext;refine Yc (Y6 L.ob L.dt L.fit ?_);dsimp only;refine Yc (zY ?_);rw [hb,if_pos rfl,if_neg (by simp)];refine Yc ?_;unfold setWalk;refine Yc (Y6 L.ob L.dt L.fit ?_);dsimp only;refine Yc (zY ?_);rw [hb,if_pos rfl];refine Yc (KW (Yh (Yh ?_)));show wpAny _ _ (match ((pickOrder (w.params.setOrder a ep) es)[i]?).map fun e=>(e.2,sl) with | some (x,next)=>_ | none=>_) _ _ _;have hx':((pickOrder (w.params.setOrder a ep) es)[i]?).map (·.2)=some v:=by rw [List.getElem?_map,yy] at hx;exact hx
   cases e:(pickOrder (w.params.setOrder a ep) es)[i]? with
   | none=>rw [e] at hx';cases hx'
   | some p=>rw [e] at hx';exact ye (two sl sl p.2 hi (Option.some.inj hx') fun h'=>.text hb) (fun _ _ z=>z) fun _ _ z=>z.elim
 | @plain sl _ hb hd hs=>
   show wpAny _ _ (setNext a (sl:Int).toNat (i:Int).toNat (ep:Int).toNat >>= _) _ _ _;rw [Ym,Ym,Ym];refine Yc ?_;unfold setNext;refine Yc (Y6 L.ob L.dt L.fit ?_);dsimp only;refine Yc (zY ?_);rw [hb,if_neg Yf];show wpAny _ _ (if (!t.plain && decide (es.size>1))=true then _ else _) _ _ _;rw [if_neg (by rw [hd];exact Yf)];show wpAny _ _ ((if (!t.led && !es.isEmpty)=true then _ else _) >>= _) _ _ _;rw [if_neg (by rw [L.led hb];simp)];refine Yc (Yh ?_);have hil:i<es.size:=by
    rcases YW i es.size with z | z
    . exact z
    . rw [YC (by simpa using z)] at hx;cases hx
   have hip:i<t.place.size:=by rw [L.psize];exact hil
   have hx':es[i].2=v:=by rw [List.getElem?_map,yy,YH hil] at hx;exact Option.some.inj hx
   rw [hs,YH hil,YH hip];refine Yh ?_;have g:t.place.getD i 0=t.place[i]:=by simp [Array.getD,hip]
   have nxt:=jg6 L.ris hip;rw [g] at nxt;exact ye (two sl (t.place[i]+1) es[i].2 hi hx' fun h'=>.plain hb hd nxt) (fun _ _ z=>z) fun _ _ z=>z.elim
 | @drawn T _ pl hb hT' hp=>
   have tL:pl.length=es.size:=by have:=hp.length_eq;simpa using this
   have hall:∀x∈pl,x<es.size:=fun x hx=>List.mem_range.mp (hp.mem_iff.mp hx);show wpAny _ _ (seqItems? (.ref T) >>= _) _ _ _;refine Yc (Kt hT' rfl ?_);have hil:i<pl.length:=by
    rcases YW i pl.length with z | z
    . exact z
    . have z':(pl.filterMap fun j=>(es[j]?).map (·.2)).length<=i:=YZ (List.length_filterMap_le _ _) z;rw [YC z'] at hx;cases hx
   have hj:pl[i]<es.size:=hall _ (K0 hil);have hx':es[pl[i]].2=v:=by rw [jfz hall (Yb hil),YH hj] at hx;exact Option.some.inj hx
   have e:((pl.map fun (j:Nat)=>rawInt j).toArray)[(i:Int).toNat]?=some (Value.int (pl[i]:Nat) 0):=by rw [Ym,List.getElem?_toArray,List.getElem?_map,Yb hil];rfl
   dsimp only;rw [e];dsimp only;refine Yc ?_;unfold setNextDrawn;refine Yc (Y6 L.ob L.dt L.fit ?_);dsimp only;rw [if_neg (by simp),Ym,YH hj];refine Yh ?_;refine Yc (yn hi (by simp) fun h2 e2 s2=>?_);have e3:SIt h2 it (.ref T) (i+1) a es.size ep:=by
    have c:((i+1:Nat):Int)=(i:Int)+1:=by omega
    unfold SIt;rw [c];exact e2
   refine Yh ⟨_,rfl,Yh ?_⟩;show Q (some es[pl[i]].2) _;rw [hx'];exact hQ h2 _ e3 (.drawn hb (s2.extBut _ _ (hf T rfl) hT') hp) hf s2
end
end L2S
namespace L2S
open PySem PySem.Spec PyProof.Rows
section
variable {prog:Program} {w:World} {A:Around} {E:Value->Shared->Prop} {s:Shared}
theorem jm1 {α:Type} {Q:α → Shared → Prop} (hh:A.handled=none) (h:∀h' e,(∀b o,s.heap.get? b=some o → h'.get? b=some o) → (∃o,h'.get? e=some o ∧ o.cls=.type "StopIteration") → E (.ref e) { s with heap:=h' }) :
 wpAny (model prog w) A (do let x ← newExc (.type "StopIteration") [];raiseNew x:Sem α) Q E s:=by
 refine Yc ?_;simp only [newExc,newTuple];refine Yc (Kp ?_ (by size_fits));refine Yc (m:=firstArgMember _ _) (wpAny_of_eq (a:=Value.none) (by first | rfl | (simp only [firstArgMember];rfl)) ?_);refine Kp ?_ (by size_fits);simp only [raiseNew];refine Yc (wpAny_handled ?_);rw [hh];refine Yc (Yh (wpAny_throw ?_));exact h _ _ (fun b o e=>Yg _ (Yg _ e)) ⟨_,Yv _ rfl,rfl⟩
theorem jm9 {it a:Addr} {o:Obj} {es:Array (Int×Value)} {ep:Nat} {t:SetTable} {f:Value} {i:Nat} {q:List Value} {Q:Option Value->Shared->Prop} (hh:A.handled=none) (L:SetL w s.heap a o es ep t)
 (hi:SIt s.heap it f i a es.size ep) (M:Mode w s.heap a es ep t f i q) (hx:i=q.length)
 (hQ:∀h',(∀b o,b≠it->s.heap.get? b=some o->h'.get? b=some o)->Q none { s with heap:=h' }):wpAny (model prog w) A (pyNext (.ref it)) Q E s:=by
 have hT:s.TypeIs (.ref it) "set_iterator":=⟨_,hi,rfl⟩;have tL:q.length=es.size:=by have:=M.perm.length_eq;simpa using this
 unfold pyNext;refine Yc ‹"6"›;show wpAny _ _ (fieldsOf (.ref it) >>= _) _ _ _;refine Yc (wpAny_fieldsOf hi rfl ?_);show wpAny _ _ (setEntries a >>= _) _ _ _;refine Yc (Z8 L.ob L.dt L.fit ?_);rw [if_neg (by simp)];dsimp only;have stop:∀(h1:Heap),(∀b o,b≠it → s.heap.get? b=some o → h1.get? b=some o) → wpAny (model prog w) A.in1 (do let x ← newExc (.type "StopIteration") [];raiseNew x:Sem Fin) (fun fin s'=>∃v,fin=.done (.ret v) ∧ wpAny (model prog w) A (pure (some v)) Q E s')
  (fun e s'=>wpAny (model prog w) A (do let b ← isInstance e (.type "StopIteration");if b=true then pure none else throw e) Q E s') { s with heap:=h1 }:=fun h1 k1=>by
  refine jm1 (s:={ s with heap:=h1 }) (by simpa using hh) fun h' e k zz=>?_;obtain ⟨oe,ho,hc⟩:=zz;refine Yc (KU (T := "StopIteration") (b:=true) ⟨oe,ho,hc⟩ isSubtype_stop ?_);exact Yh (hQ h' fun b o hb e=>k b o (k1 b o hb e))
 cases M with
 | @text sl _ hb=>show wpAny _ _ (setNext a (sl:Int).toNat (i:Int).toNat (ep:Int).toNat >>= _) _ _ _;rw [Ym,Ym,Ym];refine Yc ?_;unfold setNext;refine Yc (Y6 L.ob L.dt L.fit ?_);dsimp only;refine Yc (zY ?_);rw [hb,if_pos rfl,if_neg (by simp)];refine Yc ?_;unfold setWalk;refine Yc (Y6 L.ob L.dt L.fit ?_);dsimp only;refine Yc (zY ?_);rw [hb,if_pos rfl];refine Yc (KW (Yh (Yh ?_)));show wpAny _ _ (match ((pickOrder (w.params.setOrder a ep) es)[i]?).map fun e=>(e.2,sl) with | some (x,next)=>_ | none=>_) _ _ _;rw [yf (by rw [hx,Yd,YU];exact Yn _)];refine Yc (yn hi (by simp) fun h1 e1 s1=>?_);exact stop h1 fun b o hb e=>s1.extBut b o hb e
 | @plain sl _ hb hd hs=>show wpAny _ _ (setNext a (sl:Int).toNat (i:Int).toNat (ep:Int).toNat >>= _) _ _ _;rw [Ym,Ym,Ym];refine Yc ?_;unfold setNext;refine Yc (Y6 L.ob L.dt L.fit ?_);dsimp only;refine Yc (zY ?_);rw [hb,if_neg Yf];show wpAny _ _ (if (!t.plain && decide (es.size>1))=true then _ else _) _ _ _;rw [if_neg (by rw [hd];exact Yf)];show wpAny _ _ ((if (!t.led && !es.isEmpty)=true then _ else _) >>= _) _ _ _;rw [if_neg (by rw [L.led hb];simp)];refine Yc (Yh ?_);rw [hs,yf (by omega)];refine Yh ?_;dsimp only;refine Yc (yn hi (by simp) fun h1 e1 s1=>?_);exact stop h1 fun b o hb e=>s1.extBut b o hb e
 | @drawn T _ pl hb hT' hp=>
   have hpl:pl.length=es.size:=by have:=hp.length_eq;simpa using this
   show wpAny _ _ (seqItems? (.ref T) >>= _) _ _ _;refine Yc (Kt hT' rfl ?_);have e:((pl.map fun (j:Nat)=>rawInt j).toArray)[(i:Int).toNat]?=none:=by rw [Ym,List.getElem?_toArray];exact YC (by rw [Yd];omega)
   dsimp only;rw [e];dsimp only;refine Yc (yn hi (by simp) fun h1 e1 s1=>?_);refine Yc (yn e1 (by simp) fun h2 e2 s2=>?_);exact stop h2 fun b o hb e=>s2.extBut b o hb (s1.extBut b o hb e)
theorem jke {a:Addr} {o:Obj} {es:Array (Int×Value)} {ep:Nat} {t:SetTable} {Q:Value->Shared->Prop} (L:SetL w s.heap a o es ep t) (hz:es.size<=sizeLine)
 (hQ:∀h' d it f q,SIt h' it f 0 a es.size ep->Mode w h' a es ep t f 0 q->(∀T,f=.ref T->T≠it)->s.heap.objs.size<=it->(∀b o,s.heap.get? b=some o->h'.get? b=some o)->Q (.ref it) { s with heap:=h',drawn:=d }) :
 wpAny (model prog w) A (pyIter (.ref a)) Q E s:=by
 have hT:s.TypeIs (.ref a) "set":=⟨_,L.ob,L.ex.1⟩;refine wpAny_pyIter_slot hT PySem.F.slot_set_iter (yp PySem.F.slot_set_iter hT jda ?_ (PySem.F.args_set_iter_1 _));show wpAny _ _ (Builtin.Frozenset.sizeOf a >>= _) _ _ _;unfold Builtin.Frozenset.sizeOf;refine Yc (Yc (Z8 L.ob L.dt L.fit (Yh ?_)));show wpAny _ _ (setDrawn a >>= _) _ _ _;refine Yc ?_;unfold setDrawn;refine Yc (Y6 L.ob L.dt L.fit ?_);dsimp only;refine Yc (zY (Yh ?_));show wpAny _ _ (if (!w.params.followText "set-order" && (!t.plain && decide (es.size>1)))=true then _ else _) _ _ _;have fin:∀(g:Heap) (d:Drawn) (f:Value) (q:List Value),(∀b o,s.heap.get? b=some o->g.get? b=some o)->s.heap.objs.size<=g.objs.size->(∀h',(∀b o,g.get? b=some o->h'.get? b=some o)->Mode w h' a es ep t f 0 q)->(∀T,f=.ref T->@LT.lt Nat instLTNat T g.objs.size)->
  wpAny (model prog w) A.in1 (do ret (← newFields "set_iterator" [f,rawInt 0,.ref a,rawInt es.size,rawInt (← setEpoch a)])) (fun fin s'=>∃v,fin=.done (.ret v) ∧ ∃T' r,s'.TypeIs v T' ∧ typeLookup (.type T') "__next__"=pure (some r) ∧ Q v s') E { s with heap:=g,drawn:=d }:=by
  intro g d f q k hle hm hf;refine Yc (wpAny_setEpoch_of (s:={ s with heap:=g,drawn:=d }) (k _ _ L.ob) L.dt L.fit ?_);unfold newFields;refine Yc (Kp ?_ (by size_fits));refine Yh ⟨_,rfl, "set_iterator",_,⟨_,Yv _ rfl,rfl⟩,slot_setit_next.lookup,?_⟩;exact hQ _ d _ f q (Yv _ rfl) (hm _ fun b o e=>Yg _ e) (fun T z=>Yr (hf T z)) hle fun b o e=>Yg _ (k b o e)
 cases hb:w.params.followText "set-order" with
 | true=>rw [if_neg (by simp)];exact fin s.heap s.drawn (rawInt (0:Nat)) _ (fun b o e=>e) (Yn _) (fun h' _=>.text hb) fun T z=>nomatch z
 | false=>
   cases hd:(!t.plain && decide (es.size>1)) with
   | false=>rw [if_neg (by simp)];exact fin s.heap s.drawn (rawInt (0:Nat)) _ (fun b o e=>e) (Yn _) (fun h' _=>.plain hb hd (jgG L.ris)) fun T z=>nomatch z
   | true=>
     rw [if_pos (by simp)];refine Yc (jhK es.size (List.range es.size) s (by simp) fun ys d hp=>?_);have hyl:ys.length=es.size:=by have:=hp.length_eq;simpa using this
     refine Yc (wpAny_newTuple (hsz:=by rw [Yd,hyl];exact hz) ?_);refine fin _ d (.ref s.heap.objs.size) _ (fun b o e=>Yg _ e) (by rw [Y5];exact Nat.le_succ _) (fun h' k=>.drawn hb (k _ _ (Yv _ rfl)) hp) fun T z=>?_;injection z with z;rw [<-z,Y5];exact yL _
theorem jkt {a:Addr} {Q:Bool → Shared → Prop} (hT:s.TypeIs (.ref a) "set") (h:Q false s):wpAny (model prog w) A (Builtin.List.listLengthHint (.ref a)) Q E s:=by
 unfold Builtin.List.listLengthHint;refine Yc (yH hT PySem.F.slot_set_len.lookup ?_);generalize hid:("set.__len__":String)=id0
 wp_delta
 rw [show splitId id0=some ("set","__len__") from by subst hid;decide +kernel];subst hid;refine Yc (KU (T := "set") (b:=true) hT (by rw [isSubtype_type];kernel_rfl) ?_);refine yU (fun hab=>absurd hab (by decide)) (fun _=>?_);refine yU (fun _=>?_) (fun hab=>absurd ‹"ah"› hab);refine Yc (wpAny_typeOf hT ?_);exact Yh h
theorem jfL {a:Addr} {o:Obj} {es:Array (Int×Value)} {ep:Nat} {t:SetTable} {Q:List Value->Shared->Prop} (hh:A.handled=none) (L:SetL w s.heap a o es ep t) (hz:es.size<sizeLine)
 (h:∀h' d tk (vs:List Value),(∀b o,s.heap.get? b=some o->h'.get? b=some o)->s.heap.objs.size<=h'.objs.size->vs.Perm (es.toList.map (·.2))->Q vs { s with heap:=h',drawn:=d,toks:=tk }):wpAny (model prog w) A (collect (.ref a)) Q E s:=by
 unfold collect;refine Yc (wpAny_runValue (yX entry_proto_collect' ?_));rw [yB PySem.F.plain_proto_collect _];show wpAny _ A.in1 (newList [] >>= fun l=>again (.builtin "list.__iadd__" ⟨[l,.ref a],[]⟩)) _ _ s;refine Yc (Kp ?_);refine Yh ⟨yM PySem.F.plain_list_iadd _,yX entry_list_iadd' ?_⟩;rw [yB PySem.F.plain_list_iadd _];generalize hSd:s.heap.objs.size=S at *
 have hS:‹"V"›.get? S=some { cls:=.type "list",data:=.seq #[] }:=by rw [← hSd];exact Yv _ rfl
 have up:∀b o,s.heap.get? b=some o → ‹"V"›.get? b=some o:=fun b o e=>Yg _ e;have hGs:‹"V"›.objs.size=S+1:=by rw [← hSd,Y5]
 generalize s.heap.push { cls:=.type "list",data:=.seq ([]:List Value).toArray }=G at *
 have nS:∀b o,s.heap.get? b=some o->b≠S:=fun b o e=>by have q:=L2.ltN e;rw [hSd] at q;exact Yr q
 have aS:=nS _ _ L.ob;have L1:SetL w G a o es ep t:=⟨up _ _ L.ob,L.ex,L.dt,L.fit,L.ris,L.led⟩;have hT:Shared.TypeIs { s with heap:=G } (.ref a) "set":=⟨_,L1.ob,L.ex.1⟩;show wpAny _ A.in1 (Builtin.List.listExtendWith (.ref S) (.ref a) (.ref S)) _ _ _;unfold Builtin.List.listExtendWith;refine Yc (wpAny_typeOf (T := "set") hT ?_);have e1:Builtin.List.listSameRef (.ref S) (.ref a)=false:=by simp [Builtin.List.listSameRef,Ne.symm aS]
 have e2:(Value.type "set" == Value.type "list")=false:=by decide
 have e3:(Value.type "set" == Value.type "tuple")=false:=by decide
 simp only [e1,e2,e3,Bool.or_false,Y0,ym];refine Yc (jke (s:={ s with heap:=G }) L1 (yF hz) fun G1 d it f q hit M hf hle k1=>?_);have itS:it≠S:=by
  have z:S+1<=it:=by have:=hle;show S+1<=it;rw [<-hGs];exact this
  exact Y8 z
 have ait:a≠it:=by
  have z:S+1<=it:=by have:=hle;show S+1<=it;rw [<-hGs];exact this
  have z2:=L2.ltN L.ob;rw [hSd] at z2;exact Yr (Yj (yG z2) z)
 have hT1:Shared.TypeIs { s with heap:=G1,drawn:=d } (.ref a) "set":=⟨_,k1 _ _ L1.ob,L.ex.1⟩;refine Yc (Y7 (jkt hT1 ?_));have tL:q.length=es.size:=by have:=M.perm.length_eq;simpa using this
 have key:∀(h1:Heap) (c:Nat),Heap.SameBut S G1 h1 → h1.get? S=some { cls:=.type "list",data:=.seq #[] c } →
  codeAny (model prog w) A (.builtin "list.extend.loop" ⟨[.ref S,.ref it,.ref S],[]⟩) (fun r s'=>match r with
    | .ok (.ret v)=>wpAny (model prog w) A (match v with
     | .ref a=>do
       let o <- load a
       match o.data with
         | .seq xs _=>pure xs.toList
         | _=>unsupported "internal:collect"
     | _=>unsupported "internal:collect") Q E s'
    | .ok _=>False
    | .error e=>E e s') { s with heap:=h1,drawn:=d }:=by
  intro h1 c sb hS1;have nT:∀(g:Heap) (tJ:Array Value) (c:Nat),g.get? S=some { cls:=.type "list",data:=.seq tJ c } → ∀(f:Value) (i:Nat) (q:List Value),Mode w g a es ep t f i q → ∀T,f=.ref T → T≠S:=by
   rintro g tJ c e f i q Mg T rfl z;cases Mg with
   | drawn hb hT hp=>rw [z,e] at hT;have y:(Value.type "list")=Value.type "tuple":=congrArg Obj.cls (Option.some.inj hT);injection y with y;exact absurd y (by decide)
  refine L2.jbK (fun n tJ s'=>∃(i c:Nat) (g:Heap) (f:Value),s'={ s with heap:=g,drawn:=d } ∧ n=es.size+1-i ∧ i ≤ es.size ∧ tJ=(q.take i).toArray ∧ g.get? S=some { cls:=.type "list",data:=.seq tJ c } ∧ SIt g it f i a es.size ep ∧ Mode w g a es ep t f i q ∧ SetL w g a o es ep t ∧
      (∀T,f=.ref T->T≠it)/\∀b o,s.heap.get? b=some o->g.get? b=some o) ?_ (es.size+1) #[] _
   ⟨0,c,h1,f,rfl,rfl,yA _,rfl,hS1,sb.extBut _ _ itS hit,M.at fun T o z e=>sb.extBut _ _ (nT G1 #[] 0 (k1 _ _ hS) f 0 q M T z) e,⟨sb.extBut _ _ aS (k1 _ _ L1.ob),L.ex,L.dt,L.fit,L.ris,L.led⟩,hf,fun b o e=>sb.extBut _ _ (nS b o e) (k1 _ _ (up b o e))⟩
  rintro n tJ s' ⟨i,c,g,f,rfl,rfl,hi,rfl,hSg,sit,Mg,Lg,hfg,kg⟩;refine ⟨by simp;omega,?_⟩;rcases YW i es.size with hlt | hge
  . have hx:q[i]?=some q[i]:=Yb (by omega);refine jln (s:={ s with heap:=g,drawn:=d }) Lg ait hfg sit Mg hx fun h' f' sit' M' hf' sb'=>?_;have hS':=sb'.extBut _ _ (Ne.symm itS) hSg;refine ⟨⟨c,hS'⟩,fun h'' c' e'' sb''=>⟨es.size+1-(i+1),by omega,i+1,c',h'',f',rfl,rfl,hlt,?_,e'',sb''.extBut _ _ itS sit',M'.at fun T o z e=>sb''.extBut _ _ (nT h' _ c hS' f' (i+1) q M' T z) e,⟨sb''.extBut _ _ aS (sb'.extBut _ _ ait Lg.ob),L.ex,L.dt,L.fit,L.ris,L.led⟩,hf',fun b o e=>sb''.extBut _ _ (nS b o e) (sb'.extBut _ _ ?_ (kg b o e))⟩⟩
    . rw [List.take_succ,hx];simp
    . have z:=L2.ltN e;rw [hSd] at z;have z2:S+1<=it:=by have:=hle;show S+1<=it;rw [<-hGs];exact this
      exact Yr (Yj (yG z) z2)
  . have e:i=q.length:=by omega
    refine jm9 (s:={ s with heap:=g,drawn:=d }) (by simpa using hh) Lg sit Mg e fun h' k'=>?_;have hS':=k' _ _ (Ne.symm itS) hSg;show wpAny _ A (load S >>= _) _ _ _;refine Yc (wpAny_load hS' ?_);refine Yh ?_;have e2:q.take i=q:=by rw [e,List.take_length]
    have:((q.take i).toArray).toList=q:=by rw [e2]
    rw [this];refine h h' d s.toks q (fun b o e=>k' _ _ ?_ (kg b o e)) (yF (L2.ltN hS')) M.perm;have z:=L2.ltN e;rw [hSd] at z;have z2:S+1<=it:=by have:=hle;show S+1<=it;rw [<-hGs];exact this
    exact Yr (Yj (yG z) z2)
 have hS1:=k1 _ _ hS;refine yU (fun _=>?_) (fun _=>Yh ⟨yM yQ _,key G1 0 (Heap.SameBut.refl _ _) hS1⟩);refine Yc (wpAny_rule ?_);refine Yc ?_;show wpAny _ _ (updateSeq S (·.push .none) >>= fun _=>updateSeq S (·.pop)) _ _ _;refine Yc (yw hS1 rfl ?_);have hS2:=YS (Obj.mapSeq (·.push Value.none)) hS1 rfl;refine yw (hz:=by seq_fits) hS2 rfl ?_;have hS3:=YS (Obj.mapSeq (·.pop)) hS2 rfl;exact Yh ⟨yM yQ _,key _ _ ((Heap.SameBut.update ..).trans (Heap.SameBut.update ..)) hS3⟩
theorem jhs {a:Addr} {ns:List Int} {Q:Value->Shared->Prop} (hh:A.handled=none) (hS:ZH prog w s.heap a ns) (h64:ns.length<64)
 (h:∀h' d tk l out c ks,(∀b o,s.heap.get? b=some o → h'.get? b=some o) → s.heap.objs.size ≤ l → h'.get? l=some { cls:=.type "list",data:=.seq out c } → IntsAre out.toList ks → ks.Pairwise (· < ·) → (∀k,k∈ks ↔ k∈ns) → ks.length ≤ ns.length →
  Q (.ref l) { s with heap:=h',drawn:=d,toks:=tk }):wpAny (model prog w) A (call (.builtin "sorted") [.ref a]) Q E s:=by
 obtain ⟨o,es,ep,t,ho,hex,hd,hel,hmem,hf,hle,hnd,hris,hled⟩:=hS;have L:SetL w s.heap a o es ep t:=⟨ho,hex,hd,hf,hris,hled⟩;refine Calls.call_function_entry kind_sorted plain_sorted entry_sorted (args_sorted1 _) ?_;unfold Builtin.«sorted»;refine Yc (m:=checkCount "sorted" 1 1 _) (Yh ?_);refine Yc (jfL (by simpa using hh) L (Yj (by omega:es.size<64) (by decide)) fun h1 d tk vs k1 sz1 hp=>?_);have hvl:vs.length=es.size:=by have:=hp.length_eq;simpa using this
 refine Yc (wpAny_newList (hsz:=YZ (by omega:vs.length<=64) (by decide)) ?_);have allI:∀{us:List Value},(∀v∈us,∃k t,v=Value.int k t)->IntsAre us (us.map je0):=by
  intro us;induction us with
  | nil=>intro _;exact .nil
  | cons v us ih=>intro hv;obtain ⟨k,t,rfl⟩:=hv v Ye;exact .cons k t (ih fun x hx=>hv x (Yk _ hx))
 have hI:IntsAre vs (vs.map je0):=allI fun v hv=>by obtain ⟨e,he,rfl⟩:=YO.mp (hp.mem_iff.mp hv);exact jaS hel he
 have hkp:(vs.map je0).Perm (es.toList.map fun e=>je0 e.2):=by
  have:=hp.map je0
  rwa [YF] at this
 have hoL:(h1.push (seqObj "list" vs.toArray 0)).get? h1.objs.size=some (seqObj "list" vs.toArray 0):=Yv _ rfl;refine Yc (Y7 (yp slot_list_sort ⟨_,hoL,rfl⟩ entry_list_sort (list_sort_tree (s:={ s with heap:=h1.push (seqObj "list" vs.toArray 0),drawn:=d,toks:=tk }) hoL hI (by omega) fun out ks q1 q2 q3=>⟨_,rfl,?_⟩) (args_list_sort _)));refine Yh ⟨_,rfl,?_⟩;have hlt:h1.objs.size<(h1.push (seqObj "list" vs.toArray 0)).objs.size:=by rw [size_push'];exact yL _
 obtain ⟨c,hc⟩:=sortedHeap_at (out:=out) hoL;have hk2:(vs.map je0).Nodup:=(hkp.nodup_iff).mpr hnd;have hk3:ks.Nodup:=(q2.nodup_iff).mpr hk2;refine h _ d tk h1.objs.size out c ks (fun b o e=>?_) sz1 hc q1 ?_ (fun k=>?_) ?_
 . have hb:b≠h1.objs.size:=Yr (Yu (k1 b o e));rw [sortedHeap_old hb (yE (Yu (k1 b o e)) hlt)];exact Yg _ (k1 b o e)
 . refine List.Pairwise.imp₂ (fun a b (x:a<=b) (y:a≠b)=>?_) q3 hk3;omega
 . rw [q2.mem_iff,hkp.mem_iff,YO,hmem k];constructor
   . rintro ⟨e,he,rfl⟩;obtain ⟨j,tj,q⟩:=jaS hel he;refine ⟨e,he,?_⟩;rw [q];exact is_int.mpr rfl
   . rintro ⟨e,he,q⟩;obtain ⟨j,tj,q'⟩:=jaS hel he;refine ⟨e,he,?_⟩;rw [q'] at q ⊢;exact (is_int.mp q).symm
 . have:=q2.length_eq;rw [Yd] at this;omega
end
end L2S
namespace L2
open PySem PySem.Spec PyProof.Rows
def jcH (cells:List (Str×Addr)):List (Str×NameKind)->List (Str×Addr)->List (Str×Addr)
 | [],tJ=>tJ
 | (n,k)::r,tJ=>jcH cells r (if (k == NameKind.free)=true then (match cells.lookup n with | some c=>(n,c)::tJ | none=>tJ) else tJ)
theorem jch {α β:Type} {f:α->β->Sem (ForInStep β)} {g:α->β->β}:∀(l:List α) (b:β),(∀x∈l,∀b,f x b=pure (.yield (g x b)))->forIn l b f=pure (l.foldl (fun b x=>g x b) b)
 | [],b,_=>rfl
 | x::l,b,h=>by rw [List.forIn_cons,h x Ye,pure_bind];exact jch l _ fun y hy=>h y (Yk _ hy)
theorem jc0 (cells:List (Str×Addr)):∀(names:List (Str×NameKind)) (tJ:List (Str×Addr)),
 names.foldl (fun b x=>if (x.2 == NameKind.free)=true then (match cells.lookup x.1 with | some c=>(x.1,c)::b | none=>b) else b) tJ=jcH cells names tJ
 | [],_=>rfl
 | (n,k)::r,tJ=>by rw [List.foldl_cons,jc0 cells r];rfl
theorem ZS {scope:Scope} {env:Env} (h:∀n,(n,NameKind.free)∈scope.names->∃c,env.cells.lookup n=some c):closureFor scope env=pure (jcH env.cells scope.names []):=by
 unfold closureFor;rw [<-jc0];have key:=jch (f:=fun (x:Str×NameKind) (cs:List (Str×Addr))=>match x with
  | (name,kind)=>if (kind == NameKind.free)=true then (do let c <- cellOf env name;pure (ForInStep.yield ((name,c)::cs))) else pure (ForInStep.yield cs))
  (g:=fun x b=>if (x.2 == NameKind.free)=true then (match env.cells.lookup x.1 with | some c=>(x.1,c)::b | none=>b) else b) scope.names [] (by
   rintro ⟨n,k⟩ hx b;dsimp only;by_cases hk:(k == NameKind.free)=true
   . have e:k=NameKind.free:=by simpa using hk
     subst e;obtain ⟨c,hc⟩:=h n hx;rw [if_pos hk,if_pos hk];unfold cellOf;rw [hc];rfl
   . rw [if_neg hk,if_neg hk])
 first
  | exact key
  | (refine Eq.trans ?_ key;rfl)
  | (simp only [key];rfl)
  | (show (forIn scope.names [] _ >>= fun cs=>pure cs)=_;rw [bind_pure];exact key)
theorem jf3 {cells:List (Str×Addr)}:∀{names:List (Str×NameKind)} {tJ:List (Str×Addr)} {n:Str} {c:Addr},(∀n c,(n,c)∈tJ->cells.lookup n=some c)->(n,c)∈jcH cells names tJ->cells.lookup n=some c
 | [],tJ,n,c,h,q=>h n c q
 | (m,k)::r,tJ,n,c,h,q=>by
   refine jf3 (names:=r) ?_ q;intro n' c' q';by_cases hk:(k == NameKind.free)=true
   . rw [if_pos hk] at q';cases e:cells.lookup m with
     | none=>rw [e] at q';exact h n' c' q'
     | some d=>
       rw [e] at q';rcases Yl.mp q' with z | z
       . cases z;exact e
       . exact h n' c' z
   . rw [if_neg hk] at q';exact h n' c' q'
theorem Zw {α:Type}:∀{l:List (Str×α)} {n:Str} {c:α},l.lookup n=some c->(n,c)∈l
 | [],_,_,h=>by simp at h
 | (m,d)::r,n,c,h=>by
   rw [YK] at h;cases e:n == m with
   | true=>
     rw [e] at h;have e':n=m:=by simpa using e
     subst e';cases h;exact Ye
   | false=>rw [e] at h;exact Yk _ (Zw h)
theorem jd2 {α:Type}:∀{l:List (Str×α)} {n:Str} {c:α},(n,c)∈l->∃d,l.lookup n=some d
 | (m,d)::r,n,c,h=>by
   rw [YK];cases e:n == m with
   | true=>exact ⟨d,rfl⟩
   | false=>
     rcases Yl.mp h with z | z
     . cases z;simp at e
     . exact jd2 z
theorem JD {cells:List (Str×Addr)} {names:List (Str×NameKind)} {n:Str} {c:Addr} (q:(jcH cells names []).lookup n=some c):cells.lookup n=some c:=jf3 (tJ:=[]) (fun _ _ z=>absurd z YE) (Zw q)
theorem jdR {cells:List (Str×Addr)}:∀{names:List (Str×NameKind)} {tJ:List (Str×Addr)} {p:Str×Addr},p∈tJ->p∈jcH cells names tJ
 | [],tJ,p,h=>h
 | (m,k)::r,tJ,p,h=>by
   refine jdR (names:=r) ?_;by_cases hk:(k == NameKind.free)=true
   . rw [if_pos hk];cases e:cells.lookup m with
     | none=>exact h
     | some d=>exact Yk _ h
   . rw [if_neg hk];exact h
theorem jfA {cells:List (Str×Addr)}:∀{names:List (Str×NameKind)} {tJ:List (Str×Addr)} {n:Str} {c:Addr},(n,NameKind.free)∈names->cells.lookup n=some c->(n,c)∈jcH cells names tJ
 | (m,k)::r,tJ,n,c,h,q=>by
   rcases Yl.mp h with z | z
   . have z1:n=m:=congrArg Prod.fst z;have z2:NameKind.free=k:=congrArg Prod.snd z;subst z1 z2;show (n,c)∈jcH cells r (if (NameKind.free == NameKind.free)=true then _ else _);rw [if_pos (show (NameKind.free == NameKind.free)=true from rfl),q];exact jdR Ye
   . exact jfA (names:=r) z q
theorem jfy {cells:List (Str×Addr)} {names:List (Str×NameKind)} {n:Str} {c:Addr} (h:(n,NameKind.free)∈names) (q:cells.lookup n=some c):(jcH cells names []).lookup n=some c:=by obtain ⟨d,e⟩:=jd2 (jfA (tJ:=[]) h q);have:=JD e;rw [q] at this;cases this;exact e
theorem jaK {env:Env}:∀{names:List (Str×NameKind)} {x:Str},names.lookup x=some .free->
 ((names.map fun (n,k)=>if ‹"v"› then (n,NameKind.cell) else (n,k)).lookup x=some .cell \/
  (names.map fun (n,k)=>if (k == NameKind.free && env.scope.kind == .function && env.kindOf n == some .cell) then (n,NameKind.cell) else (n,k)).lookup x=some .free)
 | [],_,h=>by simp at h
 | (n,k)::r,x,h=>by
   rw [List.map_cons];rw [YK] at h;cases hx:x == n with
   | true=>
     rw [hx] at h;have h:k=.free:=by simpa using h
     subst h;by_cases hk:(NameKind.free == NameKind.free && env.scope.kind == .function && env.kindOf n == some .cell)=true
     . left;simp only [hk,yC,YK,hx]
     . right;simp only [hk,Y0,ym,YK,hx]
   | false=>
     rw [hx] at h;have ih:=jaK (env:=env) (names:=r) (x:=x) h;by_cases hk:‹"v"›=true
     . simpa only [hk,yC,YK,hx] using ih
     . simpa only [hk,Y0,ym,YK,hx] using ih
theorem jcX {x:Str}:∀(names:List (Str×NameKind)) (n:Nat) (tJ:List (Str×Addr)) (c:Addr),tJ.lookup x=some c->∃d,(cellsFrom n names tJ).lookup x=some d
 | [],n,tJ,c,h=>⟨c,h⟩
 | (m,k)::r,n,tJ,c,h=>by
   unfold cellsFrom;split
   . cases e:x == m with
     | true=>exact jcX r (n+1) _ n (by rw [YK,e])
     | false=>exact jcX r (n+1) _ c (by rw [YK,e];exact h)
   . exact jcX r n tJ c h
theorem jer {x:Str}:∀(names:List (Str×NameKind)) (n:Nat) (tJ:List (Str×Addr)),(x,NameKind.cell)∈names->∃d,(cellsFrom n names tJ).lookup x=some d
 | (m,k)::r,n,tJ,h=>by
   rcases Yl.mp h with z | z
   . have z1:x=m:=congrArg Prod.fst z;have z2:NameKind.cell=k:=congrArg Prod.snd z;subst z1 z2;unfold cellsFrom;rw [if_pos (show (NameKind.cell == NameKind.cell)=true from rfl)];exact jcX r (n+1) _ n (by rw [YK,beq_self_eq_true])
   . unfold cellsFrom;split
     . exact jer r (n+1) _ z
     . exact jer r n tJ z
theorem jcc {x:Str}:∀(names:List (Str×NameKind)) (n:Nat) (tJ:List (Str×Addr)),(x,NameKind.cell)∉names->(cellsFrom n names tJ).lookup x=tJ.lookup x
 | [],n,tJ,h=>rfl
 | (m,k)::r,n,tJ,h=>by
   have hr:(x,NameKind.cell)∉r:=fun z=>h (Yk _ z);unfold cellsFrom;split
   . rename_i hk;have hk':k=.cell:=by simpa using hk
     rw [jcc r (n+1) _ hr,YK];have:(x == m)=false:=by rw [KA];intro e;subst e hk';exact h Ye
     rw [this]
   . exact jcc r n tJ hr
theorem jeV {x:Str} {c:Addr}:∀(names:List (Str×NameKind)) (n:Nat) (tJ:List (Str×Addr)),(x,NameKind.cell)∈names->(cellsFrom n names tJ).lookup x=some c->n<=c
 | (m,k)::r,n,tJ,h,q=>by
   unfold cellsFrom at q;by_cases hr:(x,NameKind.cell)∈r
   . split at q
     . exact Nat.le_of_succ_le (jeV r (n+1) _ hr q)
     . exact jeV r n tJ hr q
   . rcases Yl.mp h with z | z
     . have z1:x=m:=congrArg Prod.fst z;have z2:NameKind.cell=k:=congrArg Prod.snd z;subst z1 z2;rw [if_pos (show (NameKind.cell == NameKind.cell)=true from rfl),jcc r (n+1) _ hr,YK,beq_self_eq_true] at q;cases q;exact Yn _
     . exact absurd z hr
theorem jll {x:Str} {c:Addr}:∀(names:List (Str×NameKind)) (h:Heap) (tJ:List (Str×Addr)),(cellsFrom h.objs.size names tJ).lookup x=some c->tJ.lookup x=some c\/((pushCells h names).IsCell c none/\h.objs.size<=c)
 | [],h,tJ,q=>.inl q
 | (m,k)::r,h,tJ,q=>by
   unfold cellsFrom at q;unfold pushCells;split at q
   . rename_i hk;rw [if_pos hk];rw [← Y5 h { cls:=.type "cell",data:=.cell none }] at q;rcases jll r _ _ q with z | ⟨z1,z2⟩
     . rw [YK] at z;cases e:x == m with
       | true=>rw [e] at z;cases z;exact .inr ⟨(show (h.push { cls:=.type "cell",data:=.cell none }).IsCell h.objs.size none from ⟨_,Yv _ rfl,rfl⟩).keeps (K3 r _),Yn _⟩
       | false=>rw [e] at z;exact .inl z
     . rw [Y5] at z2;exact .inr ⟨z1,Nat.le_of_succ_le z2⟩
   . rename_i hk;rw [if_neg hk];exact jll r h tJ q
theorem jg2:∀(names:List (Str×NameKind)) (n:Nat) (tJ:List (Str×Addr)),(∀x c,tJ.lookup x=some c->c<n)->(∀x y c,tJ.lookup x=some c->tJ.lookup y=some c->x=y)->
 ∀x y c,(cellsFrom n names tJ).lookup x=some c->(cellsFrom n names tJ).lookup y=some c->x=y
 | [],n,tJ,_,h=>h
 | (m,k)::r,n,tJ,hl,h=>by
   unfold cellsFrom;split
   . refine jg2 r (n+1) _ (fun x c q=>?_) fun x y c q1 q2=>?_
     . rw [YK] at q;cases e:x == m with
       | true=>rw [e] at q;cases q;exact yL _
       | false=>rw [e] at q;exact yG (hl x c q)
     . rw [YK] at q1 q2;cases e1:x == m with
       | true=>
         cases e2:y == m with
         | true=>rw [beq_iff_eq.mp e1,beq_iff_eq.mp e2]
         | false=>rw [e1] at q1;rw [e2] at q2;cases q1;exact absurd (hl y _ q2) (YV _)
       | false=>
         cases e2:y == m with
         | true=>rw [e1] at q1;rw [e2] at q2;cases q2;exact absurd (hl x _ q1) (YV _)
         | false=>rw [e1] at q1;rw [e2] at q2;exact h x y c q1 q2
   . exact jg2 r n tJ hl h
theorem jbH {env:Env}:∀{names:List (Str×NameKind)} {x:Str},
 ((names.map fun (n,k)=>if ‹"v"› then (n,NameKind.cell) else (n,k)).lookup x=some .cell \/
  (names.map fun (n,k)=>if (k == NameKind.free && env.scope.kind == .function && env.kindOf n == some .cell) then (n,NameKind.cell) else (n,k)).lookup x=some .free)->(x,NameKind.free)∈names\/(x,NameKind.cell)∈names
 | [],_,h=>by simp at h
 | (n,k)::r,x,h=>by
   have ih:=jbH (env:=env) (names:=r) (x:=x);rw [List.map_cons] at h;by_cases hx:x=n
   . subst hx;by_cases hk:(k == NameKind.free && env.scope.kind == .function && env.kindOf x == some .cell)=true
     . have:k=NameKind.free:=by simp only [Ky] at hk;simpa using hk.1.1
       subst this;exact .inl Ye
     . simp only [hk,YK,beq_self_eq_true] at h;rcases h with h | h
       . have:k=NameKind.cell:=by simpa using h
         subst this;exact .inr Ye
       . have:k=NameKind.free:=by simpa using h
         subst this;exact .inl Ye
   . have hb:(x == n)=false:=by simpa using hx
     have ih':=ih (by
       by_cases hk:‹"v"›=true
       . simpa only [hk,yC,YK,hb] using h
       . simpa only [hk,Y0,ym,YK,hb] using h)
     rcases ih' with z | z
     . exact .inl (Yk _ z)
     . exact .inr (Yk _ z)
def jab (scope:Scope) (x:Str):Bool:=match scope.names.lookup x with
 | some .cell=>true
 | _=>false
theorem jcI {scope:Scope} {x:Str} (h:jab scope x=true):(x,NameKind.cell)∈scope.names:=by
 unfold jab at h;split at h
 . rename_i e;exact Zw e
 . cases h
def bcl (C:Addr) (scope:Scope) (cells:List (Str×Addr)):List (Str×Addr):=cellsFrom (C+1) scope.names (jcH cells scope.names [])
section
variable {M:Model} {A:Around} {E:Value->Shared->Prop} {s:Shared}
theorem J9 {scope:Scope} {globals:Addr} {closure:List (Str×Addr)} {qual:Str} {func:Option Addr} {code:Value} {outer:Env} {builtins:Addr} {Q:Env->Shared->Prop}
 (hQ:Q (newEnv scope s.heap.objs.size globals (cellsFrom (s.heap.objs.size+1) scope.names closure) qual func code (some outer) builtins) { s with heap:=pushCells (s.heap.push { cls:=.type "dict",data:=.dict #[] }) scope.names }) :
 wpAny M A (newFunctionEnv scope globals closure [] qual func code (some outer) builtins) Q E s:=by
 simp only [newFunctionEnv,Option.isSome_some,yC];refine Yc (wpAny_alloc ?_);refine Yc (wpAny_layCells _ (fun name kind cells=>by cases hkc:kind == NameKind.cell <;> simp [hkc]) _ _ _ _ ?_);rw [show ({ s with heap:=s.heap.push { cls:=.type "dict",data:=.dict #[] } }:Shared).heap.objs.size=s.heap.objs.size+1 from Y5 ..];rw [List.forIn_nil];exact Yc (Yh (Yh hQ))
end
def Cx.blk (X:Cx) (N:List Str) (scope:Scope) (C:Addr) (s:Shared) (H:Hp) (fp:List Addr):Cx:={ X with N:=N,s₀:=s,H₀:=H,env:=compEnvC scope (bcl C scope X.env.cells) C X.env,outer:=X.stack,stack:=X.stack,ex:=fp,fn:=jab scope,pn:=[],xe:=fun _ _=>False }
def capt (σ:St) (ix:List Nat):St:=ix.map fun k=>(σ[k]?).getD none
def Jn (n:Nat) (σ:St) (ix:List Nat):St:=List.replicate n none++capt σ ix
def jgY (n:Nat) (g:TG):Prop:=∀x σ H Q,g x σ H Q->g x σ H fun σ2 H2=>Q σ2 H2/\σ2.length=σ.length/\∀j,n<=j->σ2[j]?=σ[j]?
theorem jju {n i:Nat} (h:i<n):jgY n (ZK i):=fun x σ H Q q=>⟨q,by simp,fun j hj=>by rw [YM (by omega)]⟩
def PTs (X:Cx) (ifs:List Expr) (t:TT):Prop:=
 ∀(tf:List (Addr×Obj)) (s:Shared) (σ:St) (H:Hp) (Q:Bool->Hp->Prop) (E:Value->Shared->Prop),(∀e s',X.xe e s'->E e s')->Inv X tf σ H s->t σ H Q->
   wpAny ‹"c"› X.A (forIn ifs true fun c r=>if r=true then do let ok <- isTrue c X.env (eval c X.env);pure (ForInStep.yield ok) else pure (ForInStep.yield r)) (TP X tf σ Q) E s
def jnx:TT:=fun _ H Q=>Q true H
theorem jmZ {X:Cx}:PTs X [] jnx:=fun _ _ _ H _ _ _ I h=>wpAny_tests_nil ⟨H,I,h⟩
theorem jl0 {X:Cx} {c:Expr} {t:TT} (h:PT X c t):PTs X [c] t:=fun tf s σ H Q E hE I q=>wpAny_tests_one (ye (h tf s σ H Q I q) (fun _ _ z=>z) hE)
def tLC (wi:TI) (g:TG) (tt:TT) (te:TE) (n:Nat) (ix:List Nat):TE:=fun σ H Q=>wi σ H fun J H1=>∃W:Nat->Nat->List V->Hp->Prop,(∃m,W 0 m [] H1)/\∀i m ys H,W i m ys H->
 (J.stop i H/\ys.length<=sizeLine/\∀p,H p=none->Q (.ref p) (upd H p (.lst ys))) \/
 (J.go i H/\ys.length<sizeLine/\∃N:List V->Hp->Prop,(∀ys' H',N ys' H'->∃m',m'<m/\W (i+1) m' ys' H')/\∀x H',J.yld i H x H'->g x (Jn n σ ix) H' fun σ2 H2=>tt σ2 H2 fun b H3=>if b=true then te σ2 H3 fun v H4=>N (ys++[v]) H4 else N ys H3)
section
variable {prog:Program} {w:World} {A:Around} {E:Value->Shared->Prop} {R:Result->Shared->Prop} {s:Shared}
theorem Zi {elt target iter:Expr} {ifs:List Expr} {scope:Scope} {pos:Pos} {it tJ:Value} {env:Env} (I:Nat->Shared->Prop)
 (turn:∀n s,I n s->wpAny (model prog w) A (pyNext it) (fun r s₁=>match r with
  | none=>R (.ok .next) s₁
  | some v=>wpAny (model prog w) A (letOwnedTupleGo target it v) (fun _ s₁'=>wpAny (model prog w) A (assign target env v) (fun _ s₂=>
      wpAny (model prog w) A (forIn ifs true fun c r=>if r=true then do let ok <- isTrue c env (eval c env);pure (ForInStep.yield ok) else pure (ForInStep.yield r)) (fun ok s₃=>
        if ok=true then wpAny (model prog w) A (eval elt env) (fun x s₄=>wpAny (model prog w) A (call (.builtin "list.append") [tJ,x]) (fun _ s₅=>∃m,m<n ∧ I m s₅) (fun _ _=>False) s₄) (fun _ _=>False) s₃
        else ∃m,m<n/\I m s₃) (fun _ _=>False) s₂) (fun _ _=>False) s₁') (fun _ _=>False) s₁) (fun _ _=>False) s)
 (n:Nat) (h:I n s) :
 codeAny (model prog w) A (.compLoop (.ListComp elt [⟨target,iter,ifs,0⟩] scope pos) 0 it tJ env) R s:=by
 refine codeAny_loop rfl I (fun n s hI=>?_) n h;show wpAny _ A ((compTurn (.ListComp elt [⟨target,iter,ifs,0⟩] scope pos) 0 it tJ env).onRaise (fun x=>do noteFrame x env;theTreesLotGoes x)) _ _ s;refine wpAny_noted ?_;rw [compTurn_list];refine Yc (wpAny_standAt (Yc (ye (turn n s hI) (fun r s₁ h₁=>?_) fun _ _ h'=>h'.elim)));cases r with
 | none=>exact Yh h₁
 | some v=>
   refine Yc (ye h₁ (fun _ s₁' h₁'=>?_) fun _ _ h'=>h'.elim);refine Yc (ye h₁' (fun _ s₂ h₂=>Yc (ye h₂ (fun ok s₃ h₃=>?_) fun _ _ h'=>h'.elim)) fun _ _ h'=>h'.elim);cases ok with
   | false=>exact Yh ⟨rfl,h₃⟩
   | true=>exact Yc (Yc (ye h₃ (fun x s₄ h₄=>Yc (ye h₄ (fun _ s₅ h₅=>Yh (Yh ⟨rfl,h₅⟩)) fun _ _ h'=>h'.elim)) fun _ _ h'=>h'.elim))
end
section
variable {X:Cx} {tf:List (Addr×Obj)} {σ:St} {H:Hp} {s:Shared} {scope:Scope} {C:Addr} {fp:List Addr}
theorem Inv.bclOld (I:Inv X tf σ H s) (hC:s.heap.objs.size<=C) {x:Str} {c:Addr} (e:(bcl C scope X.env.cells).lookup x=some c):X.env.cells.lookup x=some c\/C<c:=by
 by_cases h:(x,NameKind.cell)∈scope.names
 . exact .inr (jeV _ _ _ h e)
 . unfold bcl at e;rw [jcc _ _ _ h] at e;exact .inl (JD e)
theorem Inv.blkOk (I:Inv X tf σ H s) (N:List Str) (hC:s.heap.objs.size<=C) (hkind:scope.kind=.function)
 (hfree:∀n,(n,NameKind.free)∈scope.names->X.env.scope.names.lookup n=some .cell\/X.env.scope.names.lookup n=some .free)
 (hf:∀b∈fp,jct X tf H b) (hfl:∀b∈fp,b<s.heap.objs.size):(X.blk N scope C s H fp).Ok where
 mod:=I.ok.mod
 kind:=hkind
 glob:=I.ok.glob
 blt:=I.ok.blt
 above:=hC
 inj:=jg2 _ _ _ (fun x c e=>by obtain ⟨v,q⟩:=I.cell x c (JD e);exact yG (Yj q.lt hC)) fun x y c e1 e2=>I.ok.inj x y c (JD e1) (JD e2)
 has:=fun x hx=>by
  rcases jbH (env:=X.env) hx with q | q
  . obtain ⟨c,e⟩:=I.ok.has x (hfree x q);exact jcX _ _ _ c (jfy q e)
  . exact jer _ _ _ q
 cab:=fun x c e q=>YZ hC (yF (jeV _ _ _ (jcI e) q))
 hd:=I.ok.hd
 frames:=I.ok.frames
 stk:=.inl rfl
 exf:=fun b hb=>⟨Yr (Yj (hfl b hb) hC),fun x c e=>by
  rcases I.bclOld hC e with z | z
  . exact (hf b hb).2.2.2.2.1 x c z
  . exact Y8 (Yj (hfl b hb) (YZ hC (yF z)))⟩
 bs:=I.bs
 bsz:=YZ I.ok.bsz I.sz
 noex:=fun b o e hb=>by
  rcases (hf b hb).2.2.2.1 with z | z
  . exact I.ok.noex b o e z
  . exact absurd (Yj (Yu (I.ok.bs b o e).1) z) (YV _)
 exfs:=fun b hb z=>by
  rcases Yl.mp (I.stkSub b z) with q | q
  . exact (hf b hb).2.1 q
  . exact (hf b hb).2.2.1 q
 funs:=I.stack
 frf:=I.stkFree
theorem Inv.unblk {σ':St} {H':Hp} {s':Shared} {N:List Str} {D:Addr} {ys:List V} {tF:List Value} {n:Nat} {pl:List (Addr×Obj)} (I:Inv X tf σ H s) (hf:∀b∈fp,jct X tf H b) (hD:s.heap.objs.size<=D)
 (J:Inv (X.blk N scope C s H fp) pl σ' H' s') (hv:Vals ys tF) (hz:ys.length ≤ sizeLine) (hl:s'.heap.get? D=some { cls:=.type "list",data:=.seq tF.toArray n }) (hn:H' D=none):Inv X tf σ (upd H' D (.lst ys)) s':=by
 have u:Un (frs X.stack) fp H H' s.heap s'.heap:=J.base;have neD:∀b o,s.heap.get? b=some o->b≠D:=fun b o e=>Yr (Yj (Yu e) hD);refine I.call' (ch:=fp) J.os (u:=⟨u.keep,u.slot,fun b o e n' hx=>?_,u.there,fun b xs e=>?_,fun b o x e=>?_,fun b ps e=>?_⟩) ?_ J.bare fun b hb=>⟨(hf b hb).2.2.2.1,(hf b hb).2.1,(hf b hb).2.2.2.2.1,(hf b hb).2.2.2.2.2⟩
 . rw [jA (neD b o e)];exact u.free b o e n' hx
 . rw [jA (jE (u.tups b xs e) hn)];exact u.tups b xs e
 . rw [jA (jE (u.frzs b o x e) hn)];exact u.frzs b o x e
 . obtain ⟨more,q⟩:=u.tbls b ps e;exact ⟨more,by rw [jA (jE q hn)];exact q⟩
 . intro b o e;by_cases hb:b=D
   . subst hb;rw [jC] at e;cases e;exact ⟨hz,tF,n,hv,hl⟩
   . rw [jA hb] at e;exact (J.hok b o e).stay (fun c v _ q=>q) (fun c q=>by rw [jA (jE q hn)];exact q) fun c xs q=>by rw [jA (jE q hn)];exact q
end
section
variable {X:Cx} {elt iter tg:Expr} {ifs:List Expr} {scope:Scope} {pos:Pos} {Lc F:List Str} {ix:List Nat} {wi:TI} {g:TG} {tt:TT} {te:TE}
theorem jkn {σ:St} {ix:List Nat} {j:Nat} {v:V} (h:(capt σ ix)[j]?=some (some v)):∃k,ix[j]?=some k/\σ[k]?=some (some v):=by
 unfold capt at h;rw [List.getElem?_map] at h;cases e:ix[j]? with
 | none=>rw [e] at h;cases h
 | some k=>
   rw [e] at h;have h':(σ[k]?).getD none=some v:=Option.some.inj h;refine ⟨k,rfl,?_⟩;cases q:σ[k]? with
   | none=>rw [q] at h';cases h'
   | some o=>rw [q] at h';rw [show o=some v from h']
theorem jfW {tf:List (Addr×Obj)} {σ:St} {H:Hp} {s:Shared} {it:Addr} {fp:List Addr} {tn:Nat->Heap->Prop} {J:It} {E:Value->Shared->Prop} {Qv:List V->Hp->Prop} {RR:Value->Addr->Result->Shared->Prop}
 (hc:X.calm=true) (hkind:scope.kind=.function) (hcell:∀y∈scope.names,y.2=.cell->scope.names.lookup y.1=some .cell)
 (hfree:∀n,(n,NameKind.free)∈scope.names->X.env.scope.names.lookup n=some .cell\/X.env.scope.names.lookup n=some .free)
 (hix:ix.length=F.length) (hF:∀(j:Nat) (x:Str) (k:Nat),F[j]?=some x->ix[j]?=some k->X.N[k]?=some x/\(X.env.scope.names.lookup x=some .cell\/X.env.scope.names.lookup x=some .free)/\scope.names.lookup x=some .free)
 (hg:∀C s H fp,PG ‹"b"› tg g) (hloc:jgY Lc.length g) (ht:∀C s H fp,PTs ‹"b"› ifs tt) (he:∀C s H fp,PE ‹"b"› elt te)
 (I:Inv X tf σ H s) (T:Turn X.prog X.w X.K tg J fp it tn) (st0:tn 0 s.heap) (hf:∀b∈fp,jct X tf H b)
 (W:Nat->Nat->List V->Hp->Prop) (w0:∃m,W 0 m [] H)
 (turn:∀i m ys H,W i m ys H->(J.stop i H/\ys.length<=sizeLine/\Qv ys H) \/
  (J.go i H/\ys.length<sizeLine/\∃N:List V->Hp->Prop,(∀ys' H',N ys' H'->∃m',m'<m/\W (i+1) m' ys' H')/\∀x H',J.yld i H x H'->g x (Jn Lc.length σ ix) H' fun σ2 H2=>tt σ2 H2 fun b H3=>if b=true then te σ2 H3 fun v H4=>N (ys++[v]) H4 else N ys H3))
 (hRR:∀(D C:Addr) (H':Hp) (s':Shared) (ys:List V) (m:Str->Option Value),D≠C->s.heap.objs.size<=D->s.heap.objs.size<=C->H' D=none->H' C=none->s'.heap.Ns C m->Inv X tf σ (upd H' D (.lst ys)) s'->Qv ys H'->RR (.ref D) C (.ok .next) s') :
 wpAny ‹"c"› X.A (newList []) (fun tJ s₃=>wpAny ‹"c"› X.A (newFunctionEnv scope X.env.globals (jcH X.env.cells scope.names []) [] X.env.qual none .none (some X.env)) (fun cenv s₄=>codeAny ‹"c"› X.A (.compStart ‹"m"› 0 (.ref it) tJ { cenv with scope:=relabel scope X.env }) (RR tJ cenv.locals) s₄) E s₃) E s:=by
 refine Kp (J9 ?_);dsimp only;generalize hH2:s.heap.push { cls:=.type "list",dict:=none,data:=.seq ([]:List Value).toArray }=G;have hCs:G.objs.size=s.heap.objs.size+1:=by rw [<-hH2,Y5]
 have hDC:s.heap.objs.size≠G.objs.size:=by rw [hCs];exact Yr (yL _)
 have hCle:s.heap.objs.size<=G.objs.size:=by rw [hCs];exact Nat.le_succ _
 have hns₁:‹"A"›.Ns G.objs.size fun _=>none:=(Heap.Ns.new G (.type "dict")).keeps (K3 _ _);have old:∀b o,s.heap.get? b=some o → ‹"A"›.get? b=some o:=fun b o e=>K3 _ _ _ _ (Yg _ (hH2 ▸ Yg _ e));have hacc:‹"A"›.get? s.heap.objs.size=some { cls:=.type "list",data:=.seq ([]:List Value).toArray }:=K3 _ _ _ _ (Yg _ (hH2 ▸ Yv _ rfl));have hcs:∀x c,(bcl G.objs.size scope X.env.cells).lookup x=some c → X.env.cells.lookup x=some c ∨ (‹"A"›.IsCell c none ∧ G.objs.size<c):=fun x c e=>by
  unfold bcl at e;rw [← Y5 G { cls:=.type "dict",data:=.dict #[] }] at e;rcases jll _ _ _ e with z | ⟨z1,z2⟩
  . exact .inl (JD z)
  . rw [Y5] at z2;exact .inr ⟨z1,z2⟩
 generalize hh1:pushCells (G.push { cls:=.type "dict",data:=.dict #[] }) scope.names=h₁ at hns₁ old hacc hcs ⊢;generalize hD:s.heap.objs.size=D at *
 generalize hC:G.objs.size=C at *
 have hfl:∀b∈fp,b<D:=fun b hb=>by obtain ⟨o,e,_⟩:=T.obj 0 _ st0 b hb;rw [<-hD];exact Yu e
 have hfl':∀b∈fp,b<s.heap.objs.size:=fun b hb=>by rw [hD];exact hfl b hb
 have ok:‹"b"›.Ok:=I.blkOk (Lc++F) (by rw [hD];exact hCle) hkind hfree hf hfl';have hσl:(Jn Lc.length σ ix).length=(Lc++F).length:=by unfold Jn capt;rw [YD,YD,List.length_replicate,Yd,hix]
 have fpB:∀{H':Hp} {pl:List (Addr×Obj)},(∀b∈fp,H' b=none)->(∀p∈pl,p.1=D)->∀b∈fp,jct ‹"b"› pl H' b:=fun {H' pl} hn hp b hb=>
  ⟨hn b hb,Yr (Yj (hfl b hb) hCle),ok.exfs b hb,.inl hb,(ok.exf b hb).2,fun p hp'=>by
   have hp2:p∈pl:=by simpa [Cx.blk] using hp'
   rw [hp p hp2];exact Y8 (hfl b hb)⟩
 have HD:H D=none:=I.hok.fresh (by rw [hD];exact Yn _);have HC:H C=none:=I.hok.fresh (by rw [hD];exact hCle);have nfsD:∀b,D<=b->b∉frs X.stack:=fun b hb z=>by obtain ⟨_,o,ho,_⟩:=I.stack.mem z;have:=Yu ho;rw [hD] at this;exact absurd (Yj this hb) (YV _)
 have nD:∀x c,(bcl C scope X.env.cells).lookup x=some c->c≠D:=fun x c e z=>by
  rcases hcs x c e with e | ⟨_,e⟩
  . obtain ⟨v,q⟩:=I.cell x c e;have:=q.lt;rw [hD,z] at this;exact absurd this (YV _)
  . rw [z] at e;exact absurd (yz hCle e) (YV _)
 have ZM:∀s3:Shared,s3={ s with heap:=h₁ } → Inv ‹"b"› [(D,{ cls:=.type "list",data:=.seq ([]:List Value).toArray })] (Jn Lc.length σ ix) H s3:=by
  rintro s3 rfl;refine ⟨ok,rfl,I.bare,Un.kept old,⟨_,hns₁,fun i x v e1 e2 e3=>?_⟩,fun x c e=>?_,HC,fun x c e=>?_,fun p hp=>?_,I.hok.kept old,hσl⟩
  . have hi:Lc.length<=i:=by
      rcases YW i Lc.length with q | q
      . unfold Jn at e2;rw [Yw (by simpa using q),List.getElem?_replicate] at e2;rw [if_pos q] at e2;cases e2
      . exact q
    have e2':(capt σ ix)[i-Lc.length]?=some (some v):=by
      unfold Jn at e2
      rwa [Yy ‹"5"›,List.length_replicate] at e2
    have e1':F[i-Lc.length]?=some x:=by
      have e1'':(Lc++F)[i]?=some x:=e1
      rwa [Yy hi] at e1''
    obtain ⟨k,hk,hσ⟩:=jkn e2';obtain ⟨hN,hcl,hfr⟩:=hF _ x k e1' hk;obtain ⟨m,hn,hl⟩:=I.loc;obtain ⟨u,r,lk⟩:=hl k x v hN hσ (by rcases hcl with z | z;exact .inr (.inl z);exact .inr (.inr z));refine ⟨u,r,.inr ⟨?_,?_⟩⟩
    . exact jaK (env:=X.env) hfr
    . rcases lk with ⟨hk1,_⟩ | ⟨_,c,hc1,hc2⟩
      . have hk1':X.env.scope.names.lookup x=some .local:=hk1;rcases hcl with z | z <;> · rw [hk1'] at z;cases z
      . refine ⟨c,(jcc _ _ _ fun z=>?_).trans (jfy (Zw hfr) hc1),?_⟩
        . have:=hcell _ z rfl;rw [hfr] at this;cases this
        obtain ⟨o,ho,hd⟩:=hc2;exact ⟨o,old c o ho,hd⟩
  . rcases hcs x c e with e | ⟨e,_⟩
    . obtain ⟨v,o,ho,hd⟩:=I.cell x c e;exact ⟨v,o,old c o ho,hd⟩
    . exact ⟨none,e⟩
  . rcases hcs x c e with e | ⟨_,e⟩
    . exact I.freeC x c e
    . exact I.hok.fresh (by rw [hD];exact YZ hCle (yF e))
  . have:p=(D,{ cls:=.type "list",data:=.seq ([]:List Value).toArray }):=by simpa [Cx.blk] using hp
    subst this;exact ⟨hacc,HD,hDC,nfsD D (Yn _),fun v z=>nomatch z⟩
 have loop:∀s3:Shared,s3={ s with heap:=h₁ }->
  codeAny ‹"c"› X.A (.compLoop ‹"m"› 0 (.ref it) (.ref D) ‹"b"›.env) (RR (.ref D) C) s3:=by
  intro s3 hs3;obtain ⟨m0,w0⟩:=w0;have st3:tn 0 s3.heap:=by subst hs3;exact T.keep 0 _ _ st0 fun b _ o e=>old b o e
  refine Zi (fun n s'=>∃i ys tF k H',Inv ‹"b"› [(D,{ cls:=.type "list",data:=.seq tF.toArray k })] (Jn Lc.length σ ix) H' s' ∧ Vals ys tF ∧ tn i s'.heap ∧ (∀b∈fp,H' b=none) ∧ W i n ys H')
   ?_ m0 ⟨0,[],[],0,H,ZM s3 hs3,.nil,st3,fun b hb=>(hf b hb).1,w0⟩
  rintro n s4 ⟨i,ys,tF,k,H4,I4,rv,st4,fr4,w4⟩;have pD:∀p∈[((D,{ cls:=.type "list",data:=.seq tF.toArray k }):Addr×Obj)],p.1=D:=fun p hp=>by simp at hp;rw [hp]
  rcases turn i n ys H4 w4 with ⟨stop,hz,q⟩ | ⟨go,hz,N,hN,step⟩
  . refine qt (T.done ‹"b"› rfl rfl rfl hc i _ s4 _ H4 _ I4 (fpB fr4 pD) st4 stop) fun r s5 zz=>?_;obtain ⟨hr,I5⟩:=zz;subst hr;obtain ⟨p1,p2,p3,p4,p5⟩:=I5.pin _ (YB _ Ye);obtain ⟨m,hn,_⟩:=I5.loc;exact hRR D C H4 s5 ys m hDC (Yn _) hCle p2 I5.free hn (I.unblk (C:=C) (scope:=scope) hf (by rw [hD];exact Yn _) I5 rv hz p1 p2) q
  . refine qt (T.item ‹"b"› rfl rfl rfl hc i _ s4 _ H4 _ I4 (fpB fr4 pD) st4 go) fun r s5 zz=>?_;obtain ⟨u,hr,h5⟩:=zz;subst hr;refine qt h5 fun _ s6 zz=>?_;obtain ⟨x,H6,I6,r6,y6,st6,fr6⟩:=zz;have I6':=I6.pinned (fpB fr6 pD) (T.obj _ _ st6);refine qt (hg C s H fp _ s6 _ H6 x u _ I6' r6 (hloc _ _ _ _ (step x H6 y6))) fun _ s7 zz=>?_;obtain ⟨σ7,H7,I7,q7,l7,k7⟩:=zz;have weak:∀(j:Nat) v,(Jn Lc.length σ ix)[j]?=some (some v)->σ7[j]?=some (some v):=fun j v e=>by
      rw [k7 j ?_];exact e;rcases YW j Lc.length with z | z
      . unfold Jn at e;rw [Yw (by simpa using z),List.getElem?_replicate,if_pos z] at e;cases e
      . exact z
    have fin:∀{s':Shared} {H':Hp} {i':Nat} {ys':List V} {its':List Value} {k':Nat},Inv ‹"b"› [] σ7 H' s' → s'.heap.get? D=some { cls:=.type "list",data:=.seq its'.toArray k' } → H' D=none → Inv ‹"b"› [(D,{ cls:=.type "list",data:=.seq its'.toArray k' })] (Jn Lc.length σ ix) H' s':=fun {s' H' i' ys' its' k'} I' e n'=>
      (I'.weak (by rw [l7]) weak).pins_of fun p hp=>by
       have:p=(D,{ cls:=.type "list",data:=.seq its'.toArray k' }):=by simpa using hp
       subst this;exact ⟨e,n',hDC,nfsD D (Yn _),fun v z=>nomatch z⟩
    refine qt (ht C s H fp _ s7 σ7 H7 _ _ (fun _ _ z=>z) I7 q7) fun b s8 zz=>?_;obtain ⟨H8,I8,q8⟩:=zz;have keepS:∀{s':Shared} {H':Hp},Inv ‹"b"› ([((D,{ cls:=.type "list",data:=.seq tF.toArray k }):Addr×Obj)]++jcO fp s6.heap) σ7 H' s' → tn (i+1) s'.heap ∧ (∀b∈fp,H' b=none) ∧ s'.heap.get? D=some { cls:=.type "list",data:=.seq tF.toArray k } ∧ H' D=none:=fun {s' H'} I'=>by
      refine ⟨T.keep _ _ _ st6 fun b hb o e=>(I'.pin (b,o) (YB _ (YB _ (Qs hb e)))).1,fun b hb=>?_,?_⟩
      . obtain ⟨o,e,d⟩:=T.obj _ _ st6 b hb;exact (I'.pin (b,o) (YB _ (YB _ (Qs hb e)))).2.1
      . have:=I'.pin (D,{ cls:=.type "list",data:=.seq tF.toArray k }) (YB _ (Ys _ Ye));exact ⟨this.1,this.2.1⟩
    cases b with
    | false=>rw [if_neg Yf] at q8 ⊢;obtain ⟨m',hm,w8⟩:=hN _ _ q8;obtain ⟨a1,a2,a3,a4⟩:=keepS I8;exact ⟨m',hm,i+1,ys,tF,k,H8,fin (i':=i) (ys':=ys) (I8.pins_of fun p hp=>nomatch hp) a3 a4,rv,a1,a2,w8⟩
    | true=>
      rw [if_pos rfl] at q8 ⊢;refine qt (he C s H fp _ s8 σ7 H8 _ I8 q8) fun xv s9 zz=>?_;obtain ⟨v,H9,I9,r9,q9⟩:=zz;obtain ⟨m',hm,w9⟩:=hN _ _ q9;obtain ⟨a1,a2,a3,a4⟩:=keepS I9;have tL:=rv.length;refine wpAny_list_append_plain (hsz:=by simp;omega) ⟨k,a3⟩ fun h10 hl10 hs10=>?_;obtain ⟨k10,e10⟩:=hl10;have I9':Inv ‹"b"› [] σ7 H9 s9:=I9.pins_of fun p hp=>nomatch hp;have I10:Inv ‹"b"› [] σ7 H9 { s9 with heap:=h10,toks:=s9.toks }:=I9'.turned (it:=D) (fun b o hb e=>(hs10.2 b hb).trans e) a4 hDC (.inr (by show s.heap.objs.size<=D;rw [hD];exact Yn _)) nD (fun p hp=>nomatch hp);have e10':h10.get? D=some { cls:=.type "list",data:=.seq (tF++[xv]).toArray k10 }:=by rw [e10,List.push_toArray]
      refine ⟨m',hm,i+1,ys++[v],tF++[xv],k10,H9,fin (i':=i) (ys':=ys) I10 e10' a4,Paired.snoc rv r9,?_,a2,w9⟩;exact T.keep _ _ _ a1 fun b hb o e=>(hs10.2 b (Yr (hfl b hb))).trans e
 exact codeAny_compStart_list (loop _ rfl) (T.self _ 0 _ _ _ (T.keep 0 _ _ st0 fun b _ o e=>old b o e) (loop _ rfl))
theorem jqC (hc:X.calm=true) (hkind:scope.kind=.function) (hnames:∀x∈scope.names,x.2=.local->scope.names.lookup x.1=some .local) (hcell:∀y∈scope.names,y.2=.cell->scope.names.lookup y.1=some .cell)
 (hfree:∀n,(n,NameKind.free)∈scope.names->X.env.scope.names.lookup n=some .cell\/X.env.scope.names.lookup n=some .free)
 (hix:ix.length=F.length) (hF:∀(j:Nat) (x:Str) (k:Nat),F[j]?=some x->ix[j]?=some k->X.N[k]?=some x/\(X.env.scope.names.lookup x=some .cell\/X.env.scope.names.lookup x=some .free)/\scope.names.lookup x=some .free)
 (hi:PI X tg iter wi) (hg:∀C s H fp,PG ‹"b"› tg g) (hloc:jgY Lc.length g) (ht:∀C s H fp,PTs ‹"b"› ifs tt) (he:∀C s H fp,PE ‹"b"› elt te)
 (hs:∀x,foldedSetIterable iter X.env x=pure x:=by intro _;rfl):PE X ‹"m"› (tLC wi g tt te Lc.length ix):=by
 intro tf s σ H Q I h;rw [eval_ListComp];refine wpAny_comprehension_free (use:=none) rfl hs (ZS fun n hn=>I.ok.has n (hfree n hn)) hkind hnames (qt (hi tf s σ H _ I h) fun xv s₁ h₁=>qt h₁ fun itv s₂ h₂=>?_);obtain ⟨it,fp,tn,J,H2,rfl,I2,T,st2,f2,W,w0,turn⟩:=h₂;refine jfW (RR:=fun tJ C=>compPost ‹"c"› X.A X.xe none (EP X tf σ Q) tJ C) (Qv:=fun ys H'=>∀p,H' p=none->Q (.ref p) (upd H' p (.lst ys))) hc hkind hcell hfree hix hF hg hloc ht he I2 T st2 f2 W w0 turn ?_;intro D C H' s' ys m hDC hD hC nD nC hn I' q;refine ⟨m,hn,fun h' hsb=>⟨.ref D,upd H' D (.lst ys),?_,rfl,q D nD⟩⟩;refine I'.turned (it:=C) (t':=s'.toks) (fun b o hb e=>(hsb.2 b hb).trans e) (by rw [jA (Ne.symm hDC)];exact nC) (fun z=>?_) (.inr (YZ I2.sz hC)) (fun x c e z=>?_) fun p hp z=>?_
 . exact absurd (Yj (by rw [z];exact I2.lt) hC) (YV _)
 . obtain ⟨v,w⟩:=I2.cell x c e;exact absurd (Yj w.lt (by rw [z];exact hC)) (YV _)
 . have:=Yu (I2.pin p hp).1;rw [z] at this;exact absurd (Yj this hC) (YV _)
theorem jjA {i:Nat} {y:Str} {py spos:Pos} (hN:X.N.Nodup) (hy:X.N[i]?=some y) (hyl:X.env.scope.names.lookup y=some .local)
 (hc:X.calm=true) (hkind:scope.kind=.function) (hnames:∀x∈scope.names,x.2=.local->scope.names.lookup x.1=some .local) (hcell:∀y∈scope.names,y.2=.cell->scope.names.lookup y.1=some .cell)
 (hfree:∀n,(n,NameKind.free)∈scope.names->X.env.scope.names.lookup n=some .cell\/X.env.scope.names.lookup n=some .free)
 (hix:ix.length=F.length) (hF:∀(j:Nat) (x:Str) (k:Nat),F[j]?=some x->ix[j]?=some k->X.N[k]?=some x/\(X.env.scope.names.lookup x=some .cell\/X.env.scope.names.lookup x=some .free)/\scope.names.lookup x=some .free)
 (hi:PI X tg iter wi) (hg:∀C s H fp,PG ‹"b"› tg g) (hloc:jgY Lc.length g) (ht:∀C s H fp,PTs ‹"b"› ifs tt) (he:∀C s H fp,PE ‹"b"› elt te)
 (hsw:swapsWith ‹"m"› (some (.Name y py)) spos.line X.env=pure true)
 (hs:∀x,foldedSetIterable iter X.env x=pure x:=by intro _;rfl):PS X (.Assign [.Name y py] ‹"m"› spos) (jdA (tLC wi g tt te Lc.length ix) (ZK i)):=by
 intro tf s σ H D₀ I h;rw [exec_Assign_Name_used _ _ _ _ hsw];refine Yc (wpAny_standAt (Yc ?_));show wpAny _ X.A (do let _ <- comprehension ‹"m"› scope X.env _ (newList []) false (eval iter X.env) (some (assign (.Name y py) X.env))) _ _ s;refine Yc (ye (wpAny_comprehension_free (use:=some (assign (.Name y py) X.env)) (Q:=fun _ s'=>SP X tf D₀ .next s') rfl hs (ZS fun n hn=>I.ok.has n (hfree n hn)) hkind hnames
  (qt (hi tf s σ H _ I h) fun xv s₁ h₁=>qt h₁ fun itv s₂ h₂=>?_)) (fun _ s' hq=>Yh (Yh hq)) fun _ _ e=>e)
 obtain ⟨it,fp,tn,J,H2,rfl,I2,T,st2,f2,W,w0,turn⟩:=h₂;refine jfW (RR:=fun tJ C=>compPost ‹"c"› X.A X.xe (some (assign (.Name y py) X.env)) (fun _ s'=>SP X tf D₀ .next s') tJ C) (Qv:=fun ys H'=>∀p,H' p=none->D₀.nx (σ.set i (some (.ref p))) (upd H' p (.lst ys)))
  hc hkind hcell hfree hix hF hg hloc ht he I2 T st2 f2 W w0 turn ?_
 intro D C H' s' ys m hDC hD hC nD nC hn I' q;show wpAny _ X.A (assign (.Name y py) X.env (.ref D)) _ _ s';refine wpAny_assign_Name (jdS I' hN hy (.inl hyl) (v:=.ref D) rfl (fun s2 I2' zz=>?_) (.inr hyl));obtain ⟨a,hsb,ha⟩:=zz;have hCL:C≠X.env.locals:=fun z=>absurd (Yj (by rw [z];exact I2.lt) hC) (YV _);have hCc:∀x c,X.env.cells.lookup x=some c->c≠C:=fun x c e z=>by obtain ⟨v,w⟩:=I2.cell x c e;exact absurd (Yj w.lt (by rw [z];exact hC)) (YV _)
 have hCa:C≠a:=by
  rcases ha with z | z
  . rw [z];exact hCL
  . exact fun w=>hCc y a z w.symm
 refine ⟨m,hn.sameBut hsb hCa,fun h' hsb'=>⟨σ.set i (some (.ref D)),upd H' D (.lst ys),?_,q D nD⟩⟩;refine I2'.turned (it:=C) (t':=s2.toks) (fun b o hb e=>(hsb'.2 b hb).trans e) (by rw [jA (Ne.symm hDC)];exact nC) hCL (.inr (YZ I2.sz hC)) hCc fun p hp z=>?_;have:=Yu (I2.pin p hp).1;rw [z] at this;exact absurd (Yj this hC) (YV _)
end
end L2
namespace L2
open PySem PySem.Spec PyProof.Rows
section
variable {X:Cx}
def jhD (i j:Int):Prop:=0<j/\j<2 ^ 200
theorem jlr:OpR X (binaryOp .FloorDiv) (rI jhD fun i j=>.int (i/j)):=opI fun i j _ _ _ _ _ hc q=>by
 have h1:(0:Int)<j:=hc.1;have h2:j<2 ^ 200:=hc.2;refine floordiv_int (by omega) (by rw [Int.fdiv_eq_ediv_of_nonneg i (by omega)];exact q) (.inl (PyProof.noPylong_of_log2 ?_));have h3:j.natAbs<2 ^ 200:=by omega
 have h4:j.natAbs≠0:=by omega
 have h5:=(Nat.log2_lt h4).mpr h3;omega
def IsT (K:PySem.W.Frag) (H:Hp) (x:V) (T:String) (b:Bool):Prop:=∃t,TyOf K H x t/\PySem.W.kitOne K t (.type T)=some b
theorem jgd:CallR X (.builtin "isinstance") (fun xs H Q=>∃x T b,xs=[x,.ty T] ∧ IsT X.K H x T b ∧ Q (.bl b) H):=by intro tf s σ H xs us Q I r h;obtain ⟨x,T,b,rfl,⟨t,ty,e⟩,q⟩:=h;obtain ⟨u,v,rfl,rx,ry⟩:=Vals.two r;have:v=Value.type T:=ry;subst this;exact jje I rx ty e fun tk=>⟨.bl b,H,I.tok _,rfl,q⟩
theorem jjW (hc:X.calm=true):CallR X (.builtin "sum") (fun xs H Q=>∃(p:Addr) (ns:List Int),xs=[.ref p] ∧ Jc X.K H p (ns.map V.int) ∧ Q (.int ns.sum) H):=by
 intro tf s σ H xs us Q I r h;obtain ⟨p,ns,rfl,hq,q⟩:=h;obtain ⟨u,rfl,rx⟩:=Vals.one r;cases rx;obtain ⟨tF,rv,pl,hz⟩:=I.list hq;have hi:IntsAre tF ns:=QG rv;obtain ⟨ys,hx⟩:=hi.allInts.items;have hl':s.heap.IsList p (intItems ys):=hx ▸ pl.isList;refine sum_intListG (I.ok.hd hc) hl' fun h' tk t' hk=>?_;have e1:ns=ys.toList.map (·.1):=by rw [<-nums_intItems,<- hx];exact (show numsOf tF.toArray.toList=ns from hi.numsOf).symm
 have e2:preSum (numAt ys) ys.size=ns.sum:=by rw [preSum_eq,List.take_of_length_le (by simp),e1]
 rw [e2];exact ⟨.int ns.sum,H,I.kept hk,⟨_,rfl⟩,q⟩
theorem jjR (hc:X.calm=true):CallR X (.builtin "all") (fun xs H Q=>∃(p:Addr) (bs:List Bool),xs=[.ref p] ∧ Jc X.K H p (bs.map V.bl) ∧ Q (.bl (bs.all id)) H):=by
 intro tf s σ H xs us Q I r h;obtain ⟨p,bs,rfl,hq,q⟩:=h;obtain ⟨u,rfl,rx⟩:=Vals.one r;cases rx;obtain ⟨tF,rv,pl,hz⟩:=I.list hq;have hl:=pl.isList;have hlt:p<s.heap.objs.size:=by obtain ⟨_,e,_⟩:=hl;exact Yu e
 have tL:tF.length=bs.length:=by have:=rv.length;rw [Yd] at this;exact this.symm
 refine call_all_walk (wpAny_pyIter_list hl ?_);refine ⟨s.heap.objs.size,[s.heap.objs.size,p],[s.heap.objs.size],tF.toArray.size,_,_,fun i=>(bs[i]?).getD true,rfl,Walks.list (A:=X.A.in1) (I.ok.hd hc) _ p (Yr hlt) tF.toArray,
  ⟨⟨_,Yv _ rfl,rfl,rfl⟩,hl.push _⟩,fun i v s' Q' E' hP hQ=>?_,fun h' tk hk=>?_⟩
 . have hP':tF[i]?=some v:=by simpa using hP
   cases e:bs[i]? with
   | none=>have:bs.length<=i:=YR.mp e;have:tF[i]?=none:=YR.mpr (by omega);rw [this] at hP';cases hP'
   | some b=>obtain ⟨u,e1,e2⟩:=rv.get (i:=i) (x:=V.bl b) (by rw [List.getElem?_map,e];rfl);rw [hP'] at e1;cases e1;have:v=Value.bool b:=e2;subst this;simp only [e,KY] at hQ;exact yk hQ
 . have e:((List.range tF.toArray.size).all fun i=>(bs[i]?).getD true)=bs.all id:=by rw [YA,tL];exact LSm.range_all bs
   rw [e];exact ⟨.bl (bs.all id),H,I.kept (LSm.kept_iter hk),rfl,q⟩
end
theorem jlR {X:Cx} {x:Str} {i:Int} {t:Tok} {pos:Pos} (hg:Gl X x) (hm:X.mg x=some (.int i t)) (hd:‹"p"›=false:=by decide):PE X (.Name x pos) (tC (.int i)):=jmI hg hm ⟨t,rfl⟩ hd
theorem jrp {X:Cx} {x:Str} {T:String} {pos:Pos} (hg:Gl X x) (hm:X.mg x=none) (hv:bootBuiltins x=some (.type T)) (hn:x ≠ "__name__":=by decide) (hd:‹"p"›=false:=by decide):PE X (.Name x pos) (tC (.ty T)):=jmO hg hm hv rfl hn hd
section
variable {t u:TS} {te ta tb tc:TE} {nx bk ct:St->Hp->Prop} {rt:VK} {σ:St} {H:Hp} {i:Nat} {v:V} {Q:VK} {r r':R2} {c c':TT} {QB:Bool->Hp->Prop} {QA:List V->Hp->Prop} {A B:TA}
end
theorem Same.seqT {K:PySem.W.Frag} {H H':Hp} {a:Addr} {xs:List V} (e:Same H H') (h:SqT K H a xs):SqT K H' a xs:=by
 rcases h with (h | ⟨o,h⟩) | h
 . exact .inl (.inl (e _ _ h))
 . exact .inl (.inr ⟨o,e _ _ h⟩)
 . exact .inr h
theorem Same.upd {H:Hp} {p:Addr} {o:HO} (h:H p=none):Same H (upd H p o):=fun b u e=>by rw [jA (jE e h)];exact e
end L2
namespace L2
open PySem PySem.Spec PyProof.Rows
theorem HOk.grow {P:Program} {w:World} {H H':Hp} {h h':Heap} (x:HOk P w H h) (k:∀b u,h.get? b=some u->h'.get? b=some u) (same:∀b,@LT.lt Nat instLTNat b h.objs.size->H' b=H b)
 (new:∀b o,h.objs.size<=b->H' b=some o->ObjOk P w H' h' b o):HOk P w H' h':=fun b o e=>by
 rcases YW b h.objs.size with z | z
 . rw [same b z] at e;exact (x b o e).stay (fun c v _ q=>k c v q) (fun c q=>by rw [same c (x.lt q)];exact q) fun c xs q=>by rw [same c (x.lt q)];exact q
 . exact new b o z e
section
variable {X:Cx} {tf:List (Addr×Obj)} {σ:St} {H H':Hp} {s:Shared} {h':Heap}
theorem Inv.grow {t':Nat} {d':Drawn} (I:Inv X tf σ H s) (k:∀b u,s.heap.get? b=some u->h'.get? b=some u) (same:∀b,@LT.lt Nat instLTNat b s.heap.objs.size->H' b=H b)
 (new:∀b o,s.heap.objs.size<=b->H' b=some o->ObjOk X.prog X.w H' h' b o):Inv X tf σ H' { s with heap:=h',drawn:=d',toks:=t' }:=
 I.step (g':=s.gens) (d':=d') (ch:=[]) (fun _ z=>nomatch z) (fun b o _ _ _ e _=>k b o e) (fun b o _ _ _ e _=>⟨o.slots,k b o e⟩) (fun b o _ e n=>by rw [same b (Yu e)];exact n) (fun b o _ e=>⟨o,k b o e⟩)
  (fun b xs e=>by rw [same b (I.hok.lt e)];exact e) (fun b o u e=>by rw [same b (I.hok.lt e)];exact e) (fun b ps e=>⟨#[],by rw [same b (I.hok.lt e),e];simp⟩) (fun m hm=>hm.keeps k) (I.hok.grow k same new) I.bare
theorem Inv.turnNew {ch:List Addr} {t:Addr} {o:HO} {tk:Nat} (I:Inv X tf σ H s) (hf:∀b∈ch,jct X tf H b) (k:∀b u,b∉ch->s.heap.get? b=some u->h'.get? b=some u) (ht:s.heap.objs.size<=t)
 (new:ObjOk X.prog X.w (upd H t o) h' t o):Inv X tf σ (upd H t o) { s with heap:=h',toks:=tk }:=by
 have hn:H t=none:=I.hok.fresh ht;have lt:∀b u,s.heap.get? b=some u->b≠t:=fun b u e=>Yr (Yj (Yu e) ht);have nch:∀b u,H b=some u->b∉ch:=fun b u e z=>by rw [(hf b z).1] at e;cases e
 refine I.step (g':=s.gens) (d':=s.drawn) (ch:=ch) ‹"az"› (fun b u _ _ hc e _=>k b u hc e) (fun b u _ _ hc e _=>⟨u.slots,k b u hc e⟩)
  (fun b u _ e n=>by rw [jA (lt b u e)];exact n) (fun b u hc e=>⟨u,k b u hc e⟩) (fun b xs e=>by rw [jA (jE e hn)];exact e) (fun b u v e=>by rw [jA (jE e hn)];exact e) (fun b ps e=>⟨#[],by rw [jA (jE e hn),e];simp⟩)
  (fun m hm=>?_) (fun b u e=>?_) I.bare
 . obtain ⟨ol,es,ep,ho,r⟩:=hm;exact ⟨ol,es,ep,k _ ol (fun z=>(hf _ z).2.1 rfl) ho,r⟩
 . by_cases hb:b=t
   . subst hb;rw [jC] at e;cases e;exact new
   . rw [jA hb] at e;refine (I.hok b u e).stay (fun c v hc q=>k c v ?_ q) (fun c q=>by rw [jA (jE q hn)];exact q) fun c xs q=>by rw [jA (jE q hn)];exact q
     rcases hc with z | z
     . rw [z];exact nch b u e
     . exact nch c _ z
end
def Itz (K:PySem.W.Frag) (p q:Addr):It:=
 ⟨fun i H=>∃xs ys x y,Jc K H p xs/\Jc K H q ys/\xs[i]?=some x/\ys[i]?=some y,
  fun i H v H'=>∃t x y,H t=none/\v=.ref t/\H'=upd H t (.tup [x,y])/\(∀xs,Jc K H p xs->xs[i]?=some x)/\∀ys,Jc K H q ys->ys[i]?=some y,
  fun i H=>∃xs ys,Jc K H p xs/\Jc K H q ys/\(xs.length<=i\/ys.length<=i)⟩
theorem jcJ {h:Heap} {T:Addr} {a b:Value} (e:IsPair h T a b):IsTup h T [a,b].toArray:=⟨_,e,rfl,0,rfl⟩
theorem jkl {P:Program} {w:World} {K:PySem.W.Frag} {elts:List Expr} {x1:Nat} {tpos:Pos} {z TI TO i1 i2 p q:Addr} (D:ZipApart z TI TO i1 i2 p q) :
 Turn P w K (.Tuple elts x1 tpos) (Itz K p q) [z,TI,TO,i1,i2] z (fun i h=>IsZip h z TI TO .none/\IsPair h TI (.ref i1) (.ref i2)/\(∃a b,IsPair h TO a b)/\h.IsListIter i1 p i/\h.IsListIter i2 q i) where
 mem:=by simp
 obj:=fun i h st b hb=>by
  obtain ⟨hz,hTI,⟨a,c,hTO⟩,⟨o1,e1,_,d1⟩,⟨o2,e2,_,d2⟩⟩:=st;simp only [Yl,YE,Kh] at hb;rcases hb with rfl | rfl | rfl | rfl | rfl
  . exact ⟨_,hz,fun v y=>nomatch y⟩
  . exact ⟨_,hTI,fun v y=>nomatch y⟩
  . exact ⟨_,hTO,fun v y=>nomatch y⟩
  . exact ⟨o1,e1,fun v y=>by rw [d1] at y;cases y⟩
  . exact ⟨o2,e2,fun v y=>by rw [d2] at y;cases y⟩
 keep:=fun i h h' st k=>by obtain ⟨hz,hTI,⟨a,c,hTO⟩,h1,h2⟩:=st;exact ⟨k _ (by simp) _ hz,k _ (by simp) _ hTI,⟨a,c,k _ (by simp) _ hTO⟩,h1.at fun o e=>k _ (by simp) o e,h2.at fun o e=>k _ (by simp) o e⟩
 item:=by
  intro X hP hw hK hc i tf s σ H E I hf st hg;subst hP hw hK;obtain ⟨xs,ys,x,y,hp,hq,hx,hy⟩:=hg;obtain ⟨tF,rv,pl,_⟩:=I.list hp;obtain ⟨its2,rv2,pl2,_⟩:=I.list hq;obtain ⟨u,hu,ru⟩:=rv.get hx;obtain ⟨u2,hu2,ru2⟩:=rv2.get hy;obtain ⟨hz,hTI,⟨a,c,hTO⟩,h1,h2⟩:=st;refine wpAny_pyNext_zip_item D hz hTI hTO h1 h2 pl.isList pl2.isList (x:=u) (y:=u2) (by simpa using hu) (by simpa using hu2) fun h' r1 r2 r3 r4 r5 r6 r7=>?_;have kk:∀b o,b∉[z,TI,TO,i1,i2]->s.heap.get? b=some o->h'.get? b=some o:=fun b o hb e=>by simp only [Yl,YE,Kh,not_or] at hb;exact r7 b o hb.1 hb.2.2.1 hb.2.2.2.1 hb.2.2.2.2 e
  have I1:Inv X tf σ (upd H s.heap.objs.size (.tup [x,y])) { s with heap:=h',toks:=s.toks }:=I.turnNew hf kk (Yn _) ⟨by show 2<=sizeLine;decide,[u,u2],.cons ru (.cons ru2 .nil),jcJ r5⟩;have hTI':IsPair h' TI (.ref i1) (.ref i2):=r7 _ _ D.TIz D.TITO D.TIi1 D.TIi2 hTI;have nt:∀b∈[z,TI,TO,i1,i2],b≠s.heap.objs.size:=fun b hb=>by
   simp only [Yl,YE,Kh] at hb;rcases hb with rfl | rfl | rfl | rfl | rfl
   . exact Yr (ltN hz)
   . exact Yr (ltN hTI)
   . exact Yr (ltN hTO)
   . obtain ⟨_,e,_⟩:=h1;exact Yr (ltN e)
   . obtain ⟨_,e,_⟩:=h2;exact Yr (ltN e)
  refine ⟨_,rfl,wpAny_letOwnedTupleGo_zip (s:={ s with heap:=h' }) r1 fun h'' z' sb=>?_⟩;obtain ⟨f0,f1,f2,f3,f4,f5⟩:=hf z (by simp);have hn:H s.heap.objs.size=none:=I.hok.fresh (Yn _);have I2:Inv X tf σ (upd H s.heap.objs.size (.tup [x,y])) { s with heap:=h'',toks:=s.toks }:=Inv.turned (s:={ s with heap:=h',toks:=s.toks }) (h':=h'') I1 (t':=s.toks) (it:=z) (fun b o hb e=>(sb.2 b hb).trans e) (by rw [jA (nt z (by simp))];exact f0) f1 f3 f4 f5;refine ⟨.ref s.heap.objs.size,_,I2,rfl,⟨_,x,y,hn,rfl,rfl,fun xs' h'=>by rw [I.list_inj h' hp];exact hx,fun ys' h'=>by rw [I.list_inj h' hq];exact hy⟩,⟨z',sb.extBut _ _ D.TIz hTI',⟨_,_,sb.extBut _ _ D.TOz r2⟩,r3.extBut sb.extBut D.i1z,r4.extBut sb.extBut D.i2z⟩,fun b hb=>?_⟩;rw [jA (nt b hb)];exact (hf b hb).1
 done:=by
  intro X hP hw hK hc i tf s σ H E I hf st hg;subst hP hw hK;obtain ⟨xs,ys,hp,hq,he⟩:=hg;obtain ⟨tF,rv,pl,_⟩:=I.list hp;obtain ⟨its2,rv2,pl2,_⟩:=I.list hq;obtain ⟨hz,hTI,⟨a,c,hTO⟩,h1,h2⟩:=st;have l1:=rv.length;have l2:=rv2.length;refine wpAny_pyNext_zip_end (I.ok.hd hc) D hz hTI hTO h1 h2 pl.isList pl2.isList (by rcases he with e | e;exact .inl (by simp;omega);exact .inr (by simp;omega)) fun h' kk=>⟨rfl,?_⟩;have J:∀b o,b∉[z,TI,TO,i1,i2]->s.heap.get? b=some o->h'.get? b=some o:=fun b o hb e=>by simp only [Yl,YE,Kh,not_or] at hb;exact kk b o hb.1 hb.2.2.1 hb.2.2.2.1 hb.2.2.2.2 e
  have nch:∀b u,H b=some u->b∉[z,TI,TO,i1,i2]:=fun b u e y=>by rw [(hf b y).1] at e;cases e
  refine I.step (g':=s.gens) (d':=s.drawn) (t':=s.toks) (ch:=[z,TI,TO,i1,i2]) ‹"az"› (fun b u _ _ hc e _=>J b u hc e) (fun b u _ _ hc e _=>⟨u.slots,J b u hc e⟩)
   (fun _ _ _ _ n=>n) (fun b u hc e=>⟨u,J b u hc e⟩) (fun _ _ e=>e) (fun _ _ _ e=>e) (fun b ps e=>⟨#[],by rw [e];simp⟩) (fun m hm=>?_) (fun b u e=>?_) I.bare
  . obtain ⟨ol,es,ep,ho,r⟩:=hm;exact ⟨ol,es,ep,J _ ol (fun y=>(hf _ y).2.1 rfl) ho,r⟩
  . refine (I.hok b u e).stay (fun c v hc q=>J c v ?_ q) (fun _ q=>q) fun _ _ q=>q;rcases hc with y | y
    . rw [y];exact nch b u e
    . exact nch c _ y
 self:=fun _ _ _ _ _ st h=>wpAny_pyIter_zip st.1 h
section
variable {X:Cx}
def joX (K:PySem.W.Frag) (ta:TA):TI:=fun σ H R=>ta σ H fun vs H1=>∃p q xs ys,vs=[.ref p,.ref q]/\Jc K H1 p xs/\Jc K H1 q ys/\R (Itz K p q) H1
theorem jop {a b:Expr} {ta:TA} {p pos:Pos} {elts:List Expr} {x1:Nat} {tpos:Pos} (hg:Gl X "zip") (hm:X.mg "zip"=none) (ha:PA X [a,b] ta) (hs:starEach [a,b] X.env=[(false,eval a X.env),(false,eval b X.env)]:=by rfl) (hs2:starEach [b] X.env=[(false,eval b X.env)]:=by rfl) :
 PI X (.Tuple elts x1 tpos) (.Call (.Name "zip" p) [a,b] [] pos) (joX X.K ta):=by
 intro tf s σ H R I h;refine Call_ (JR I hg hm boot_zip (YN ‹"Z"› (by rw [hs,hs2]) (by rw [hs2];rfl)));obtain ⟨vs,H1,I1,r1,q1⟩:=zz;obtain ⟨pa,pb,xs,ys,e,hp,hq,q⟩:=q1;subst e;obtain ⟨u,v,rfl,ru,rv⟩:=Vals.two r1;cases ru;cases rv;obtain ⟨tF,rx,pl,_⟩:=I1.list hp;obtain ⟨its2,ry,pl2,_⟩:=I1.list hq;have lta:@LT.lt Nat instLTNat pa s1.heap.objs.size:=by obtain ⟨_,e,_⟩:=pl.isList;exact ltN e
 have ltb:@LT.lt Nat instLTNat pb s1.heap.objs.size:=by obtain ⟨_,e,_⟩:=pl2.isList;exact ltN e
 refine call_zip_2 pl.isList pl2.isList fun h' r1 r2 r3 r4 r5 r6 r7=>wpAny_pyIter_zip (s:={ s1 with heap:=h' }) r1 ?_;have I2:Inv X tf σ H1 { s1 with heap:=h',toks:=s1.toks }:=I1.kept (t':=s1.toks) r7;refine ⟨_,[s1.heap.objs.size+4,s1.heap.objs.size+2,s1.heap.objs.size+3,s1.heap.objs.size,s1.heap.objs.size+1],_,_,H1,rfl,I2,jkl (zipApart_new lta ltb),⟨r1,r2,⟨_,_,r3⟩,r4,r5⟩,fun b hb=>?_,q⟩;have ge:s1.heap.objs.size<=b:=by
  simp only [Yl,YE,Kh] at hb;rcases hb with rfl | rfl | rfl | rfl | rfl
  . exact yq _ 4
  . exact yq _ 2
  . exact yq _ 3
  . exact Yn _
  . exact yq _ 1
 exact I1.fpOk ge (I1.hok.fresh ge)
end
def Ite (K:PySem.W.Frag) (p:Addr):It:=
 ⟨fun i H=>∃xs x,Jc K H p xs/\xs[i]?=some x,
  fun i H v H'=>∃t x,H t=none/\v=.ref t/\H'=upd H t (.tup [.int i,x])/\∀xs,Jc K H p xs->xs[i]?=some x,
  fun i H=>∃xs,Jc K H p xs/\xs.length<=i⟩
theorem jiV {P:Program} {w:World} {K:PySem.W.Frag} {elts:List Expr} {x1:Nat} {tpos:Pos} {e it p:Addr} (hei:e≠it) :
 Turn P w K (.Tuple elts x1 tpos) (Ite K p) [e,it] e (fun i h=>(∃old,IsEnum h e it i old)/\h.IsListIter it p i) where
 mem:=by simp
 obj:=fun i h st b hb=>by
  obtain ⟨⟨old,he⟩,⟨o1,e1,_,d1⟩⟩:=st;simp only [Yl,YE,Kh] at hb;rcases hb with rfl | rfl
  . exact ⟨_,he,fun v y=>nomatch y⟩
  . exact ⟨o1,e1,fun v y=>by rw [d1] at y;cases y⟩
 keep:=fun i h h' st k=>by obtain ⟨⟨old,he⟩,h1⟩:=st;exact ⟨⟨old,k _ (by simp) _ he⟩,h1.at fun o e=>k _ (by simp) o e⟩
 item:=by
  intro X hP hw hK hc i tf s σ H E I hf st hg;subst hP hw hK;obtain ⟨xs,x,hp,hx⟩:=hg;obtain ⟨tF,rv,pl,_⟩:=I.list hp;obtain ⟨u,hu,ru⟩:=rv.get hx;obtain ⟨⟨old,he⟩,h1⟩:=st;refine wpAny_pyNext_enum_item he h1 pl.isList (x:=u) (by simpa using hu) hei fun h' r1 r2 r3 r4 r5=>?_;have kk:∀b o,b∉[e,it]->s.heap.get? b=some o->h'.get? b=some o:=fun b o hb q=>by simp only [Yl,YE,Kh,not_or] at hb;exact r5 b o hb.1 hb.2 q
  have I1:Inv X tf σ (upd H s.heap.objs.size (.tup [.int i,x])) { s with heap:=h',toks:=s.toks+1 }:=I.turnNew hf kk (Yn _) ⟨by show 2<=sizeLine;decide,[.int i s.toks,u],.cons ⟨_,rfl⟩ (.cons ru .nil),⟨_,r3,rfl,0,rfl⟩⟩;have nt:∀b∈[e,it],b≠s.heap.objs.size:=fun b hb=>by
   simp only [Yl,YE,Kh] at hb;rcases hb with rfl | rfl
   . exact Yr (ltN he)
   . obtain ⟨_,q,_⟩:=h1;exact Yr (ltN q)
  refine ⟨_,rfl,wpAny_letOwnedTupleGo_enum (s:={ s with heap:=h',toks:=s.toks+1 }) r1 fun h'' z' sb=>?_⟩;obtain ⟨f0,f1,f2,f3,f4,f5⟩:=hf e (by simp);have hn:H s.heap.objs.size=none:=I.hok.fresh (Yn _);have I2:Inv X tf σ (upd H s.heap.objs.size (.tup [.int i,x])) { s with heap:=h'',toks:=s.toks+1 }:=Inv.turned (s:={ s with heap:=h',toks:=s.toks+1 }) (h':=h'') I1 (t':=s.toks+1) (it:=e) (fun b o hb q=>(sb.2 b hb).trans q) (by rw [jA (nt e (by simp))];exact f0) f1 f3 f4 f5;refine ⟨.ref s.heap.objs.size,_,I2,rfl,⟨_,x,hn,rfl,rfl,fun xs' h'=>by rw [I.list_inj h' hp];exact hx⟩,⟨⟨_,z'⟩,r2.extBut sb.extBut (Ne.symm hei)⟩,fun b hb=>?_⟩;rw [jA (nt b hb)];exact (hf b hb).1
 done:=by intro X hP hw hK hc i tf s σ H E I hf st hg;subst hP hw hK;obtain ⟨xs,hp,hle⟩:=hg;obtain ⟨tF,rv,pl,_⟩:=I.list hp;obtain ⟨⟨old,he⟩,h1⟩:=st;have l1:=rv.length;obtain ⟨f0,f1,f2,f3,f4,f5⟩:=hf it (by simp);exact wpAny_pyNext_enum_end (I.ok.hd hc) he h1 pl.isList (by simp;omega) fun h' kk=>⟨rfl,I.turned (t':=s.toks) (it:=it) (fun b o hb q=>kk b o hb q) f0 f1 f3 f4 f5⟩
 self:=fun _ _ s _ _ st h=>by obtain ⟨⟨old,he⟩,_⟩:=st;have hT:s.TypeIs (.ref e) "enumerate":=⟨_,he,rfl⟩;refine wpAny_pyIter_slot hT yI (yp yI hT PySem.F.entry_enumerate_iter ?_ (PySem.F.args_enumerate_iter_1 _));show wpAny _ _ (ret (.ref e)) _ _ s;exact Yh ⟨_,rfl, "enumerate",_,hT,PySem.F.slot_enumerate_next.lookup,h⟩
section
variable {X:Cx}
def jlz (K:PySem.W.Frag) (ta:TA):TI:=fun σ H R=>ta σ H fun vs H1=>∃p xs,vs=[.ref p]/\Jc K H1 p xs/\R (Ite K p) H1
theorem jmY {a:Expr} {ta:TA} {p pos:Pos} {elts:List Expr} {x1:Nat} {tpos:Pos} (hg:Gl X "enumerate") (hm:X.mg "enumerate"=none) (ha:PA X [a] ta) (hs:starEach [a] X.env=[(false,eval a X.env)]:=by rfl) :
 PI X (.Tuple elts x1 tpos) (.Call (.Name "enumerate" p) [a] [] pos) (jlz X.K ta):=by
 intro tf s σ H R I h;refine Call_ (JR I hg hm boot_enumerate (YN ‹"Z"› hs rfl));obtain ⟨vs,H1,I1,r1,q1⟩:=zz;obtain ⟨pa,xs,e,hp,q⟩:=q1;subst e;obtain ⟨u,rfl,ru⟩:=Vals.one r1;cases ru;obtain ⟨tF,rx,pl,_⟩:=I1.list hp;refine call_enumerate_list pl.isList fun h' r1 r2 r3 r4=>?_;have hT:Shared.TypeIs { s1 with heap:=h' } (.ref (s1.heap.objs.size+1)) "enumerate":=⟨_,r1,rfl⟩;refine wpAny_pyIter_slot hT yI (yp yI hT PySem.F.entry_enumerate_iter ?_ (PySem.F.args_enumerate_iter_1 _));show wpAny _ _ (ret (.ref (s1.heap.objs.size+1))) _ _ _;refine Yh ⟨_,rfl, "enumerate",_,hT,PySem.F.slot_enumerate_next.lookup,?_⟩;have I2:Inv X tf σ H1 { s1 with heap:=h',toks:=s1.toks }:=I1.kept (t':=s1.toks) r4;refine ⟨_,[s1.heap.objs.size+1,s1.heap.objs.size],_,_,H1,rfl,I2,jiV (Y8 (yL _)),⟨⟨_,r1⟩,r2⟩,fun b hb=>?_,q⟩;have ge:s1.heap.objs.size<=b:=by
  simp only [Yl,YE,Kh] at hb;rcases hb with rfl | rfl
  . exact yq _ 1
  . exact Yn _
 exact I1.fpOk ge (I1.hok.fresh ge)
def jcZ (K:PySem.W.Frag) (ta:TA):TE:=fun σ H Q=>ta σ H fun vs H1=>∃p q xs ys,vs=[.ref p,.ref q]/\Jc K H1 p xs/\Jc K H1 q ys/\xs.length<sizeLine /\
 ∀(l:Addr) (ts:List Addr) (H':Hp),H1 l=none->(∀t∈ts,H1 t=none)->l∉ts->ts.Nodup->ts.length=min xs.length ys.length->(∀b,b≠l->b∉ts->H' b=H1 b)->H' l=some (.lst (ts.map V.ref))->
   (∀(i:Nat) t x y,ts[i]?=some t->xs[i]?=some x->ys[i]?=some y->H' t=some (.tup [x,y]))->Q (.ref l) H'
theorem jdE:∀ts:List Addr,Vals (ts.map V.ref) (ts.map Value.ref)
 | []=>.nil
 | _::ts=>.cons rfl (jdE ts)
theorem jey {ts:List Addr} {b:Addr} (h:b∈ts):ts.idxOf b<ts.length/\ts[ts.idxOf b]?=some b:=by have h1:=List.idxOf_lt_length_of_mem h;exact ⟨h1,by rw [Yb h1,List.getElem_idxOf h1]⟩
theorem jgu {a b:Expr} {ta:TA} {p1 p2 pos1 pos2:Pos} (hc:X.calm=true) (hg1:Gl X "list") (hm1:X.mg "list"=none) (hg2:Gl X "zip") (hm2:X.mg "zip"=none) (ha:PA X [a,b] ta)
 (hs:starEach [a,b] X.env=[(false,eval a X.env),(false,eval b X.env)]:=by rfl) (hs2:starEach [b] X.env=[(false,eval b X.env)]:=by rfl)
 (hs3:starEach [.Call (.Name "zip" p2) [a,b] [] pos2] X.env=[(false,eval (.Call (.Name "zip" p2) [a,b] [] pos2) X.env)]:=by rfl) :
 PE X (.Call (.Name "list" p1) [.Call (.Name "zip" p2) [a,b] [] pos2] [] pos1) (jcZ X.K ta):=by
 intro tf s σ H Q I h;refine Call_ (JR I hg1 hm1 kd (YN ?_ hs3 rfl));rw [hs3];show wpAny _ _ (spliced ((false,eval (.Call (.Name "zip" p2) [a,b] [] pos2) X.env)::backTo pos1 [])) _ _ s;refine KJ (Call_ (JR I hg2 hm2 boot_zip (YN (qt (ha pos2 tf s σ H _ I h) fun us s1 zz=>?_) (by rw [hs,hs2]) (by rw [hs2];rfl))));obtain ⟨vs,H1,I1,r1,q1⟩:=zz;obtain ⟨pa,pb,xs,ys,e,hp,hq,hxl,q⟩:=q1;subst e;obtain ⟨u,v,rfl,ru,rv⟩:=Vals.two r1;cases ru;cases rv;obtain ⟨tF,rx,pl,hz1⟩:=I1.list hp;obtain ⟨its2,ry,pl2,hz2⟩:=I1.list hq;have lx:=rx.length;have ly:=ry.length;have lta:@LT.lt Nat instLTNat pa s1.heap.objs.size:=by obtain ⟨_,e,_⟩:=pl.isList;exact ltN e
 have ltb:@LT.lt Nat instLTNat pb s1.heap.objs.size:=by obtain ⟨_,e,_⟩:=pl2.isList;exact ltN e
 refine call_zip_2 pl.isList pl2.isList fun h' r1 r2 r3 r4 r5 r6 r7=>?_;refine KR ?_;refine jlE (h₀:=s1.heap) (xs:=tF.toArray) (ys:=its2.toArray) (I.ok.hd hc) (zipApart_new lta ltb) r1 r2 ⟨_,_,r3⟩ r4 r5 pl.isList pl2.isList r7 ⟨yq _ 4,yq _ 3,Yn _,yq _ 1⟩ (by show s1.heap.objs.size<=h'.objs.size;rw [r6];exact yq _ 5) (by simp;omega) fun S g tJ c hS eS M=>?_
 -- the tuples' addresses
 have hmin:min tF.toArray.size its2.toArray.size=min xs.length ys.length:=by simp;omega
 have hts:∃ts:List Addr,tJ.toList=ts.map Value.ref:=by
  have:∀v∈tJ.toList,∃t,v=Value.ref t:=fun v hv=>by
   obtain ⟨j,hj,e⟩:=yu hv;have hj':j<tJ.size:=by simpa using hj
   obtain ⟨T,x,y,e1,_⟩:=M.pair j (by rw [<-M.size];exact hj');rw [YH hj'] at e1;exact ⟨T,by rw [<-e];simpa using Option.some.inj e1⟩
  generalize tJ.toList=l at this;clear eS M;induction l with
  | nil=>exact ⟨[],rfl⟩
  | cons v l ih=>obtain ⟨t,rfl⟩:=this v Ye;obtain ⟨ts,e⟩:=ih fun x hx=>this x (Yk _ hx);exact ⟨t::ts,by rw [e];rfl⟩
 obtain ⟨ts,hts⟩:=hts;have tl:ts.length=min xs.length ys.length:=by have:=congrArg List.length hts;rw [Yd,YU,M.size,hmin] at this;exact this.symm
 have at_:∀(j:Nat) (t:Addr),ts[j]?=some t->tJ[j]?=some (.ref t):=fun j t e=>by rw [<-yy,hts,List.getElem?_map,e];rfl
 have info:∀(j:Nat) (t:Addr),ts[j]?=some t->∃x y,tF[j]?=some x/\its2[j]?=some y/\IsPair g t x y/\s1.heap.objs.size<=t/\t≠S/\∀k,k<j->tJ[k]?≠some (.ref t):=fun j t e=>by
  have hj:j<ts.length:=(Yi.mp e).1;obtain ⟨T,x,y,e1,e2,e3,e4,e5,e6,_,e7⟩:=M.pair j (by rw [hmin,<- tl];exact hj);rw [at_ j t e] at e1;have:t=T:=by injection (Option.some.inj e1)
  subst this;exact ⟨x,y,by simpa using e2,by simpa using e3,e4,e5,e6,e7⟩
 have nd:ts.Nodup:=by rw [List.nodup_iff_pairwise_ne,yR];intro i j hi hj hij e;obtain ⟨_,_,_,_,_,_,_,q7⟩:=info j ts[j] (Yb hj);exact q7 i hij (by rw [<-e];exact at_ i _ (Yb hi))
 have fresh:∀t∈ts,s1.heap.objs.size<=t/\t≠S:=fun t ht=>by obtain ⟨h1,h2⟩:=jey ht;obtain ⟨_,_,_,_,_,q5,q6,_⟩:=info _ t h2;exact ⟨q5,q6⟩
 let H':Hp:=fun b=>if b=S then some (.lst (ts.map V.ref)) else if b∈ts then some (.tup [(xs[ts.idxOf b]?).getD .non,(ys[ts.idxOf b]?).getD .non]) else H1 b
 have HS:H' S=some (.lst (ts.map V.ref)):=if_pos rfl;have HT:∀(i:Nat) t x y,ts[i]?=some t->xs[i]?=some x->ys[i]?=some y->H' t=some (.tup [x,y]):=fun i t x y e e1 e2=>by
  have hi:i<ts.length:=(Yi.mp e).1;have ht:t∈ts:=Yz e;have hix:ts.idxOf t=i:=by obtain ⟨h1,h2⟩:=jey ht;exact (List.getElem_inj (h₀:=h1) (h₁:=hi) nd).mp ((Yi.mp h2).2.trans (Yi.mp e).2.symm)
  show (if t=S then _ else if t∈ts then _ else _)=_;rw [if_neg (fresh t ht).2,if_pos ht,hix,e1,e2];rfl
 have HO':∀b,b≠S->b∉ts->H' b=H1 b:=fun b h1 h2=>by show (if b=S then _ else if b∈ts then _ else _)=_;rw [if_neg h1,if_neg h2]
 have I2:Inv X tf σ H' { s1 with heap:=g,drawn:=s1.drawn,toks:=s1.toks }:=by
  refine I1.grow M.keep (fun b hb=>HO' b (fun z=>?_) (fun z=>?_)) fun b o hb e=>?_
  . rw [z] at hb;exact Nat.not_lt.mpr hS hb
  . exact Nat.not_lt.mpr (fresh b z).1 hb
  . by_cases hbS:b=S
    . subst hbS;rw [HS] at e;cases e;refine ⟨by rw [Yd,tl];omega,tJ.toList,c,?_,by simpa using eS⟩;rw [hts];exact jdE ts
    . by_cases hbt:b∈ts
      . obtain ⟨h1,h2⟩:=jey hbt;obtain ⟨x,y,e1,e2,e3,_⟩:=info _ b h2;have hxi:ts.idxOf b<xs.length:=by omega
        have hyi:ts.idxOf b<ys.length:=by omega
        rw [HT _ b _ _ h2 (Yb hxi) (Yb hyi)] at e;cases e;obtain ⟨u1,g1,g2⟩:=rx.get (Yb hxi);obtain ⟨u2,g3,g4⟩:=ry.get (Yb hyi);rw [e1] at g1;rw [e2] at g3;cases g1;cases g3;exact ⟨by show 2<=sizeLine;decide,[x,y],.cons g2 (.cons g4 .nil),jcJ e3⟩
      . rw [HO' b hbS hbt] at e;exact absurd (I1.hok.lt e) (Nat.not_lt.mpr hb)
 have nS:H1 S=none:=I1.hok.fresh hS;exact ⟨.ref S,H',I2,rfl,q S ts H' nS (fun t ht=>I1.hok.fresh (fresh t ht).1) (fun z=>(fresh S z).2 rfl) nd tl HO' HS HT⟩
def jeO (X:Cx) (a:Addr) (ns:List Int):HO:=.ext fun h=>L2S.ZH X.prog X.w h a ns
theorem jiN {P:Program} {w:World} {a:Addr} {ns:List Int} {h1 h2:Heap} (r:L2S.ZH P w h1 a ns) (k:∀o,h1.get? a=some o->h2.get? a=some o):L2S.ZH P w h2 a ns:=by obtain ⟨o,es,ep,t,ho,q⟩:=r;exact ⟨o,es,ep,t,k o ho,q⟩
theorem jgF (hc:X.calm=true):CallR X (.type "set") (fun xs H Q=>∃(p:Addr) (ns:List Int),xs=[.ref p] ∧ Jc X.K H p (ns.map V.int) ∧ ns.length<64 ∧ ∀a,H a=none → Q (.ref a) (upd H a (jeO X a ns))):=by intro tf s σ H xs us Q I r h;obtain ⟨p,ns,rfl,hq,hl,q⟩:=h;obtain ⟨u,rfl,rx⟩:=Vals.one r;cases rx;obtain ⟨tF,rv,pl,hz⟩:=I.list hq;have hi:IntsAre tF ns:=QG rv;refine L2S.jgS (I.ok.hd hc) pl.isList ‹"5"› (by show ns.length+1<4096;omega) fun h' tk hS hk=>?_;refine ⟨.ref s.heap.objs.size,upd H s.heap.objs.size (jeO X s.heap.objs.size ns),?_,rfl,q _ (I.hok.fresh (Yn _))⟩;refine I.laid hk (Yn _) ⟨hS,?_,fun h1 h2 r k=>jiN r k⟩;obtain ⟨o,es,ep,t,ho,_⟩:=hS;exact ⟨o,ho⟩
theorem jc9 (hc:X.calm=true):CallR X (.builtin "sorted") (fun xs H Q=>∃(a:Addr) (ns:List Int),xs=[.ref a] ∧ H a=some (jeO X a ns) ∧ ns.length<64 ∧
 ∀(l:Addr) (ks:List Int),H l=none->ks.Pairwise (· < ·)->(∀k,k∈ks ↔ k∈ns)->ks.length<=ns.length->Q (.ref l) (upd H l (.lst (ks.map V.int)))):=by
 intro tf s σ H xs us Q I r h;obtain ⟨a,ns,rfl,ha,hl,q⟩:=h;obtain ⟨u,rfl,rx⟩:=Vals.one r;cases rx;obtain ⟨hS,_,_⟩:=I.hok a _ ha;refine L2S.jhs (I.ok.hd hc) hS hl fun h' d tk l out c ks hk hle he hi hp hm hn=>?_;have nl:H l=none:=I.hok.fresh hle;refine ⟨.ref l,upd H l (.lst (ks.map V.int)),?_,rfl,q l ks nl hp hm hn⟩;refine I.grow hk (fun b hb=>jA (Yr (Yj hb hle))) fun b o hb e=>?_;by_cases hbl:b=l
 . subst hbl;rw [jC] at e;cases e;refine ⟨by rw [Yd];exact YZ (by omega:ks.length<=64) (by decide),out.toList,c,jdW hi,by simpa using he⟩
 . rw [jA hbl] at e;exact absurd (I.hok.lt e) (Nat.not_lt.mpr hb)
end
end L2
namespace L2
open PySem PySem.Spec PyProof.Rows
section
variable {X:Cx}
theorem jiC (hc:X.calm=true):CallR X (.builtin "min") (fun xs H Q=>∃(p:Addr) (ns:List Int),xs=[.ref p] ∧ Jc X.K H p (ns.map V.int) ∧ 0<ns.length ∧ ∀M,M∈ns → (∀a∈ns,M ≤ a) → Q (.int M) H):=by
 intro tf s σ H xs us Q I r h;obtain ⟨p,ns,rfl,hq,hne,q⟩:=h;obtain ⟨u,rfl,rx⟩:=Vals.one r;cases rx;obtain ⟨tF,rv,pl,hz⟩:=I.list hq;have hi:IntsAre tF ns:=QG rv;obtain ⟨ys,hx⟩:=hi.allInts.items;have hl':s.heap.IsList p (intItems ys):=hx ▸ pl.isList;have e1:ns=ys.toList.map (·.1):=by rw [<-nums_intItems,<- hx];exact (show numsOf tF.toArray.toList=ns from hi.numsOf).symm
 have hsz:0<ys.size:=by rw [e1] at hne;simpa using hne
 refine min_intList (I.ok.hd hc) hl' hsz fun v h' tk hv hk=>?_;obtain ⟨t,rfl⟩:=intItems_at hv;obtain ⟨h1,h2⟩:=argBest_lt (numAt ys) (ys.size-1);refine ⟨.int _,H,I.kept hk,⟨t,rfl⟩,q _ ?_ fun a ha=>?_⟩
 . rw [numAt_eq,e1];exact getD_mem (by rw [Yd,YU];omega)
 . rw [e1] at ha;obtain ⟨j,hj,rfl⟩:=mem_getD ha;rw [Yd,YU] at hj;rw [<-numAt_eq];exact h2 j (by omega)
theorem jjm (hc:X.calm=true):CallR X (.builtin "max") (fun xs H Q=>∃(p:Addr) (ns:List Int),xs=[.ref p] ∧ Jc X.K H p (ns.map V.int) ∧ 0<ns.length ∧ ∀M,M∈ns → (∀a∈ns,a ≤ M) → Q (.int M) H):=by
 intro tf s σ H xs us Q I r h;obtain ⟨p,ns,rfl,hq,hne,q⟩:=h;obtain ⟨u,rfl,rx⟩:=Vals.one r;cases rx;obtain ⟨tF,rv,pl,hz⟩:=I.list hq;have hi:IntsAre tF ns:=QG rv;obtain ⟨ys,hx⟩:=hi.allInts.items;have hl':s.heap.IsList p (intItems ys):=hx ▸ pl.isList;have e1:ns=ys.toList.map (·.1):=by rw [<-nums_intItems,<- hx];exact (show numsOf tF.toArray.toList=ns from hi.numsOf).symm
 have hsz:0<ys.size:=by rw [e1] at hne;simpa using hne
 refine max_intList (I.ok.hd hc) hl' hsz fun v h' tk hv hk=>?_;obtain ⟨t,rfl⟩:=intItems_at hv;obtain ⟨h1,h2⟩:=argBest_gt (numAt ys) (ys.size-1);refine ⟨.int _,H,I.kept hk,⟨t,rfl⟩,q _ ?_ fun a ha=>?_⟩
 . rw [numAt_eq,e1];exact getD_mem (by rw [Yd,YU];omega)
 . rw [e1] at ha;obtain ⟨j,hj,rfl⟩:=mem_getD ha;rw [Yd,YU] at hj;rw [<-numAt_eq];exact h2 j (by omega)
end
end L2
namespace L2
open PySem PySem.Spec PyProof.Rows
section
variable {K:PySem.W.Frag} {g:TG} {tt:TT} {te:TE} {σ0:St} {H:Hp} {Q:VK}
end
section
variable {K:PySem.W.Frag} {g:TG} {tb:TS} {D:Ends} {σ:St} {H:Hp}
end
end L2
namespace L2
open PySem PySem.Spec PyProof.Rows
def ins (k:Int):List Int->List Int
 | []=>[k]
 | x::l=>if k<x then k::x::l else if k=x then x::l else x::ins k l
def srt (l:List Int):List Int:=l.foldr ins []
theorem mem_ins {k j:Int}:∀{l:List Int},j∈ins k l ↔ j=k\/j∈l
 | []=>by simp [ins]
 | x::l=>by
   unfold ins;split
   . simp
   . split
     . rename_i h;subst h;simp
     . rw [Yl,mem_ins (l:=l),Yl];constructor
       . rintro (h | h | h) <;> simp [h]
       . rintro (h | h | h) <;> simp [h]
theorem jcw {k:Int}:∀{l:List Int},l.Pairwise (· < ·)->(ins k l).Pairwise (· < ·)
 | [],_=>by simp [ins]
 | x::l,h=>by
   have h':=YJ.mp h;unfold ins;split
   . rename_i hk;exact YJ.mpr ⟨fun y hy=>by
       rcases Yl.mp hy with rfl | hy
       . exact hk
       . exact Int.lt_trans hk (h'.1 y hy),h⟩
   . split
     . exact h
     . rename_i h1 h2;refine YJ.mpr ⟨fun y hy=>?_,jcw h'.2⟩;rcases mem_ins.mp hy with rfl | hy
       . omega
       . exact h'.1 y hy
theorem jeN {j:Int}:∀{l:List Int},j∈srt l ↔ j∈l
 | []=>by simp [srt]
 | x::l=>by show j∈ins x (srt l) ↔ _;rw [mem_ins,jeN (l:=l),Yl]
theorem jaa:∀{l:List Int},(srt l).Pairwise (· < ·)
 | []=>by simp [srt]
 | x::l=>jcw (jaa (l:=l))
theorem jcB:∀{l m:List Int},l.Pairwise (· < ·)->m.Pairwise (· < ·)->(∀k,k∈l ↔ k∈m)->l=m
 | [],[],_,_,_=>rfl
 | [],y::m,_,_,h=>absurd ((h y).mpr Ye) (by simp)
 | x::l,[],_,_,h=>absurd ((h x).mp Ye) (by simp)
 | x::l,y::m,h1,h2,h=>by
   have p1:=YJ.mp h1;have p2:=YJ.mp h2;have e:x=y:=by
     rcases Yl.mp ((h x).mp Ye) with z | z
     . exact z
     . rcases Yl.mp ((h y).mpr Ye) with z' | z'
       . exact z'.symm
       . have:=p2.1 x z;have:=p1.1 y z';omega
   subst e;rw [jcB p1.2 p2.2 fun k=>⟨fun hk=>?_,fun hk=>?_⟩]
   . rcases Yl.mp ((h k).mp (Yk _ hk)) with z | z
     . have:=p1.1 k hk;omega
     . exact z
   . rcases Yl.mp ((h k).mpr (Yk _ hk)) with z | z
     . have:=p2.1 k hk;omega
     . exact z
structure Ship where
 b:Int
 e:Int
 n:Int
 m:Int
structure Ship.Ok (s:Ship):Prop where
 lt:s.b<s.e
 long:s.e-s.b<=300000000000000
 lo:-500000000000000<=s.b
 hi:s.b<=500000000000000
 m0:0<=s.m
 m1:s.m<=1000000000000000
 n0:0<=s.n
 n1:s.n<=s.m*(s.e-s.b)
def hrs (fl:List Ship):List Int:=fl.map (·.b)++fl.map (·.e)
def qH (fl:List Ship):List Int:=srt (hrs fl)
def jB (fl:List Ship):List (Int×Int):=(qH fl).zip (qH fl).tail
section
variable {K:PySem.W.Frag} {H H':Hp}
def ShipV (K:PySem.W.Frag) (H:Hp) (v:V) (s:Ship):Prop:=∃a,v=.ref a/\SqT K H a [.int s.b,.int s.e,.int s.n,.int s.m]
def SpanV (K:PySem.W.Frag) (H:Hp) (v:V) (p:Int×Int):Prop:=∃a,v=.ref a/\SqT K H a [.int p.1,.int p.2]
def FleetAt (K:PySem.W.Frag) (H:Hp) (a:Addr) (fl:List Ship):Prop:=∃vs,Jc K H a vs/\Paired (ShipV K H) vs fl
def SpansAt (K:PySem.W.Frag) (H:Hp) (a:Addr) (sp:List (Int×Int)):Prop:=∃vs,Jc K H a vs/\Paired (SpanV K H) vs sp
theorem ShipV.same {v:V} {s:Ship} (h:ShipV K H v s) (e:Same H H'):ShipV K H' v s:=let ⟨a,h1,h2⟩:=h;⟨a,h1,e.seqT h2⟩
theorem SpanV.same {v:V} {p:Int×Int} (h:SpanV K H v p) (e:Same H H'):SpanV K H' v p:=let ⟨a,h1,h2⟩:=h;⟨a,h1,e.seqT h2⟩
theorem FleetAt.same {a:Addr} {fl:List Ship} (h:FleetAt K H a fl) (e:Same H H'):FleetAt K H' a fl:=let ⟨vs,h1,h2⟩:=h;⟨vs,e.seq h1,Paired.mapP h2 fun _ _ q=>q.same e⟩
theorem SpansAt.same {a:Addr} {sp:List (Int×Int)} (h:SpansAt K H a sp) (e:Same H H'):SpansAt K H' a sp:=let ⟨vs,h1,h2⟩:=h;⟨vs,e.seq h1,Paired.mapP h2 fun _ _ q=>q.same e⟩
theorem Paired.get {α β:Type} {F:α->β->Prop} {xs:List α} {ys:List β} {i:Nat} {x:α} (h:Paired F xs ys) (e:xs[i]?=some x):∃y,ys[i]?=some y/\F x y:=by
 induction h generalizing i with
 | nil=>rw [Kq] at e;cases e
 | cons r _ ih=>
   cases i with
   | zero=>cases e;exact ⟨_,rfl,r⟩
   | succ i=>exact ih (i:=i) e
theorem Paired.of {α β:Type} {F:α->β->Prop}:∀{xs:List α} {ys:List β},xs.length=ys.length->(∀(i:Nat) x y,xs[i]?=some x->ys[i]?=some y->F x y)->Paired F xs ys
 | [],[],_,_=>.nil
 | x::xs,y::ys,hl,h=>.cons (h 0 x y rfl rfl) (Paired.of (by simpa using hl) fun i a b e1 e2=>h (i+1) a b (by simpa using e1) (by simpa using e2))
 | [],y::ys,hl,_=>by simp at hl
 | x::xs,[],hl,_=>by simp at hl
end
end L2
namespace L2
open PySem PySem.Spec PyProof.Rows
set_option genInjectivity true in
inductive D where
 | int (i:Int) | bl (b:Bool) | non | str (x:Str) | lst (l:List D) | tup (l:List D)
 /-- the script -/
 | scr (ns:List Int)
 /-- a dict: tF keys, whole numbers, and what stands at each -/
 | dic (ks:List Int) (ds:List D)
theorem bind_some {α β:Type} {o:Option α} {f:α->Option β} {b:β} (h:o.bind f=some b):∃a,o=some a/\f a=some b:=by
 cases o with
 | none=>cases h
 | some a=>exact ⟨a,rfl,h⟩
theorem map_some {α β:Type} {o:Option α} {f:α->β} {b:β} (h:o.map f=some b):∃a,o=some a/\f a=b:=by
 cases o with
 | none=>cases h
 | some a=>exact ⟨a,rfl,Option.some.inj h⟩
theorem jmu {α β:Type} {f:α->β} {l:List α} {i:Int}:L2.atI (l.map f) i=(L2.atI l i).map f:=by
 unfold L2.atI;rw [Yd];cases ixN l.length i with
 | none=>rfl
 | some j=>simp
instance (i j:Int):Decidable (CMul i j):=inferInstanceAs (Decidable (_\/_))
def CMulB (i j:Int):Prop:=CMul i j\/(i.natAbs<2 ^ 400/\j.natAbs<2 ^ 400)
instance (i j:Int):Decidable (CMulB i j):=inferInstanceAs (Decidable (_\/_))
theorem CMulB.ok {i j:Int} (h:CMulB i j):IntMulOk i j:=by
 rcases h with h | ⟨h1,h2⟩
 . exact h.ok
 . exact IntMulOk.of_bits (YZ (intBits_le h1) (by decide)) (YZ (intBits_le h2) (by decide))
theorem jmT {X:Cx}:OpR X (binaryOp .Mult) (rI CMulB fun i j=>.int (i*j)):=opI fun _ _ _ _ _ _ _ hc q=>mul_int q hc.ok
class Fr where
 K:PySem.W.Frag
section
variable [Fr]
def zp:D->Bool
 | .lst _=>false
 | .tup _=>false
 | .scr _=>false
 | .dic _ _=>false
 | _=>true
def qO (ks:List Int) (vs:List V):List (ze×V):=(ks.map Sum.inl).zip vs
mutual
/-- the value v stands for the data d in the heap G -/
inductive Rep (G:Hp):V->D->Prop where
 | int (i:Int):Rep G (.int i) (.int i)
 | bl (b:Bool):Rep G (.bl b) (.bl b)
 | non:Rep G .non .non
 | str (x:Str):Rep G (.str x) (.str x)
 | lst {a:Addr} {vs:List V} {ds:List D} (h:Rd G a (.lst vs)) (r:Reps G vs ds):Rep G (.ref a) (.lst ds)
 | tup {a:Addr} {vs:List V} {ds:List D} (h:G a=some (.tup vs)) (r:Reps G vs ds):Rep G (.ref a) (.tup ds)
 | scr {a:Addr} {ns:List Int} (h:Jc Fr.K G a (ns.map V.int)):Rep G (.ref a) (.scr ns)
 | dic {a:Addr} {o:Obj} {ks:List Int} {vs:List V} {ds:List D} (h:G a=some (.frz o (.dK (qO ks vs)))) (hl:ks.length=vs.length) (r:Reps G vs ds):Rep G (.ref a) (.dic ks ds)
inductive Reps (G:Hp):List V->List D->Prop where
 | nil:Reps G [] []
 | cons {v:V} {d:D} {vs:List V} {ds:List D}:Rep G v d->Reps G vs ds->Reps G (v::vs) (d::ds)
end
theorem Rd.same {G H:Hp} {a:Addr} {u:HO} (e:Same G H) (h:Rd G a u):Rd H a u:=by
 rcases h with h | ⟨o,h⟩
 . exact .inl (e _ _ h)
 . exact .inr ⟨o,e _ _ h⟩
theorem Rep.mono {G G':Hp} (e:Same G G') {v:V} {d:D} (h:Rep G v d):Rep G' v d:=Rep.rec (motive_1:=fun v d _=>Rep G' v d) (motive_2:=fun vs ds _=>Reps G' vs ds) .int .bl .non .str (fun h _ i=>.lst (h.same e) i) (fun h _ i=>.tup (e _ _ h) i) (fun h=>.scr (e.seq h)) (fun h hl _ i=>.dic (e _ _ h) hl i) .nil (fun _ _ i j=>.cons i j) h
theorem Reps.ind {G:Hp} {P:List V->List D->Prop} (h0:P [] []) (h1:∀{v:V} {d:D} {vs:List V} {ds:List D},Rep G v d->Reps G vs ds->P vs ds->P (v::vs) (d::ds)) {vs:List V} {ds:List D} (h:Reps G vs ds):P vs ds:=Reps.rec (motive_1:=fun _ _ _=>True) (motive_2:=fun vs ds _=>P vs ds) (fun _=>trivial) (fun _=>trivial) trivial (fun _=>trivial) (fun _ _ _=>trivial) (fun _ _ _=>trivial) (fun _=>trivial) (fun _ _ _ _=>trivial) h0 (fun r t _ i=>h1 r t i) h
theorem Reps.mono {G G':Hp} (e:Same G G') {vs:List V} {ds:List D} (h:Reps G vs ds):Reps G' vs ds:=h.ind (P:=fun vs ds=>Reps G' vs ds) .nil fun r _ i=>.cons (r.mono e) i
theorem Rep.flat {G G':Hp} {v:V} {d:D} (h:Rep G v d) (f:zp d=true):Rep G' v d:=by
 cases h with
 | int i=>exact .int i
 | bl i=>exact .bl i
 | non=>exact .non
 | str i=>exact .str i
 | lst h r=>cases f
 | tup h r=>cases f
 | scr h=>cases f
 | dic h hl r=>cases f
section
variable {G G':Hp} {vs us:List V} {ds es:List D} {v:V} {d:D}
theorem Reps.length {vs:List V} {ds:List D} (h:Reps G vs ds):vs.length=ds.length:=h.ind (P:=fun vs ds=>vs.length=ds.length) rfl fun _ _ i=>congrArg (· + 1) i
theorem Reps.get {vs:List V} {ds:List D} {i:Nat} {d:D} (h:Reps G vs ds):ds[i]?=some d->∃v,vs[i]?=some v/\Rep G v d:=
 h.ind (P:=fun vs ds=>∀i d,ds[i]?=some d->∃v,vs[i]?=some v/\Rep G v d) (fun _ _ e=>by rw [Kq] at e;cases e) (fun r _ ih i _ e=>by
  cases i with
  | zero=>cases e;exact ⟨_,rfl,r⟩
  | succ i=>exact ih i _ e) i d
theorem Reps.getV {vs:List V} {ds:List D} {i:Nat} {v:V} (h:Reps G vs ds):vs[i]?=some v->∃d,ds[i]?=some d/\Rep G v d:=
 h.ind (P:=fun vs ds=>∀i v,vs[i]?=some v->∃d,ds[i]?=some d/\Rep G v d) (fun _ _ e=>by rw [Kq] at e;cases e) (fun r _ ih i _ e=>by
  cases i with
  | zero=>cases e;exact ⟨_,rfl,r⟩
  | succ i=>exact ih i _ e) i v
theorem Reps.append {vs us:List V} {ds es:List D} (h:Reps G vs ds) (s:Reps G us es):Reps G (vs++us) (ds++es):=h.ind (P:=fun vs ds=>Reps G (vs++us) (ds++es)) s fun r _ i=>.cons r i
theorem Reps.snoc (r:Reps G vs ds) (q:Rep G v d):Reps G (vs++[v]) (ds++[d]):=r.append (.cons q .nil)
theorem Reps.set (q:Rep G v d) {vs:List V} {ds:List D} (i:Nat) (h:Reps G vs ds):Reps G (vs.set i v) (ds.set i d):=
 h.ind (P:=fun vs ds=>∀i,Reps G (vs.set i v) (ds.set i d)) (fun _=>.nil) (fun r t ih i=>by
  cases i with
  | zero=>exact .cons q t
  | succ i=>exact .cons r (ih i)) i
theorem Reps.take {vs:List V} {ds:List D} (n:Nat) (h:Reps G vs ds):Reps G (vs.take n) (ds.take n):=
 h.ind (P:=fun vs ds=>∀n,Reps G (vs.take n) (ds.take n)) (fun n=>by cases n <;> exact .nil) (fun r t ih n=>by
  cases n with
  | zero=>exact .nil
  | succ n=>exact .cons r (ih n)) n
theorem Reps.drop {vs:List V} {ds:List D} (n:Nat) (h:Reps G vs ds):Reps G (vs.drop n) (ds.drop n):=
 h.ind (P:=fun vs ds=>∀n,Reps G (vs.drop n) (ds.drop n)) (fun n=>by cases n <;> exact .nil) (fun r t ih n=>by
  cases n with
  | zero=>exact .cons r t
  | succ n=>exact ih n) n
theorem Reps.reverse (h:Reps G vs ds):Reps G vs.reverse ds.reverse:=h.ind (P:=fun vs ds=>Reps G vs.reverse ds.reverse) .nil fun r _ i=>by rw [List.reverse_cons,List.reverse_cons];exact i.snoc r
theorem Reps.one_inv {vs:List V} {d:D} {ds:List D} (h:Reps G vs (d::ds)):∃v us,vs=v::us/\Rep G v d/\Reps G us ds:=by cases h with | cons r t=>exact ⟨_,_,rfl,r,t⟩
theorem Reps.ints {ns:List Int} {vs:List V} (h:Reps G vs (ns.map D.int)):vs=ns.map V.int:=by
 induction ns generalizing vs with
 | nil=>cases h;rfl
 | cons n ns ih=>obtain ⟨v,us,rfl,r,t⟩:=h.one_inv;cases r;rw [ih t];rfl
theorem Reps.of_ints:∀(ns:List Int),Reps G (ns.map V.int) (ns.map D.int)
 | []=>.nil
 | n::ns=>.cons (.int n) (Reps.of_ints ns)
theorem Reps.bls {ns:List Bool} {vs:List V} (h:Reps G vs (ns.map D.bl)):vs=ns.map V.bl:=by
 induction ns generalizing vs with
 | nil=>cases h;rfl
 | cons n ns ih=>obtain ⟨v,us,rfl,r,t⟩:=h.one_inv;cases r;rw [ih t];rfl
end
inductive RepT (G H:Hp):V->D->Prop where
 | int (i:Int):RepT G H (.int i) (.int i)
 | bl (b:Bool):RepT G H (.bl b) (.bl b)
 | non:RepT G H .non .non
 | str (x:Str):RepT G H (.str x) (.str x)
 | lst {a:Addr} {vs:List V} {ds:List D} (h:Rd H a (.lst vs)) (r:Reps G vs ds):RepT G H (.ref a) (.lst ds)
 | tup {a:Addr} {vs:List V} {ds:List D} (h:H a=some (.tup vs)) (r:Reps G vs ds):RepT G H (.ref a) (.tup ds)
 | scr {a:Addr} {ns:List Int} (h:Jc Fr.K H a (ns.map V.int)):RepT G H (.ref a) (.scr ns)
 | dic {a:Addr} {ks:List Int} {vs:List V} {ds:List D} (h:Rd H a (.dK (qO ks vs))) (hl:ks.length=vs.length) (r:Reps G vs ds):RepT G H (.ref a) (.dic ks ds)
inductive RepTs (G H:Hp):List V->List D->Prop where
 | nil:RepTs G H [] []
 | cons {v:V} {d:D} {vs:List V} {ds:List D}:RepT G H v d->RepTs G H vs ds->RepTs G H (v::vs) (d::ds)
theorem Rep.top {G H:Hp} {v:V} {d:D} (h:Rep G v d) (e:Same G H):RepT G H v d:=by
 cases h with
 | int i=>exact .int i
 | bl i=>exact .bl i
 | non=>exact .non
 | str i=>exact .str i
 | lst h r=>exact .lst (h.same e) r
 | tup h r=>exact .tup (e _ _ h) r
 | scr h=>exact .scr (e.seq h)
 | dic h hl r=>exact .dic (.inr ⟨_,e _ _ h⟩) hl r
theorem RepT.of_int {G H:Hp} {v:V} {i:Int} (h:RepT G H v (.int i)):v=.int i:=by cases h;rfl
theorem RepT.of_bl {G H:Hp} {v:V} {i:Bool} (h:RepT G H v (.bl i)):v=.bl i:=by cases h;rfl
theorem RepT.of_non {G H:Hp} {v:V} (h:RepT G H v .non):v=.non:=by cases h;rfl
theorem RepT.of_str {G H:Hp} {v:V} {i:Str} (h:RepT G H v (.str i)):v=.str i:=by cases h;rfl
theorem RepT.of_lst {G H:Hp} {v:V} {ds:List D} (h:RepT G H v (.lst ds)):∃a vs,v=.ref a/\Rd H a (.lst vs)/\Reps G vs ds:=by cases h;exact ⟨_,_,rfl,by assumption,by assumption⟩
theorem RepT.of_tup {G H:Hp} {v:V} {ds:List D} (h:RepT G H v (.tup ds)):∃a vs,v=.ref a/\H a=some (.tup vs)/\Reps G vs ds:=by cases h;exact ⟨_,_,rfl,by assumption,by assumption⟩
theorem RepT.of_scr {G H:Hp} {v:V} {ns:List Int} (h:RepT G H v (.scr ns)):∃a,v=.ref a/\Jc Fr.K H a (ns.map V.int):=by cases h;exact ⟨_,rfl,by assumption⟩
theorem RepT.of_dic {G H:Hp} {v:V} {ks:List Int} {ds:List D} (h:RepT G H v (.dic ks ds)):∃a vs,v=.ref a/\Rd H a (.dK (qO ks vs))/\ks.length=vs.length/\Reps G vs ds:=by cases h;exact ⟨_,_,rfl,by assumption,by assumption,by assumption⟩
theorem Rep.tt {G:Hp} {v:V} {d:D} (h:Rep G v d):RepT G G v d:=h.top fun _ _ e=>e
theorem Rep.of_int {G:Hp} {v:V} {i:Int} (h:Rep G v (.int i)):v=.int i:=h.tt.of_int
theorem Rep.of_bl {G:Hp} {v:V} {i:Bool} (h:Rep G v (.bl i)):v=.bl i:=h.tt.of_bl
theorem Rep.of_lst {G:Hp} {v:V} {ds:List D} (h:Rep G v (.lst ds)):∃a vs,v=.ref a/\Rd G a (.lst vs)/\Reps G vs ds:=h.tt.of_lst
theorem Rep.of_tup {G:Hp} {v:V} {ds:List D} (h:Rep G v (.tup ds)):∃a vs,v=.ref a/\G a=some (.tup vs)/\Reps G vs ds:=h.tt.of_tup
theorem RepT.mono {G H G' H':Hp} {v:V} {d:D} (h:RepT G H v d) (e:Same G G') (e':Same H H'):RepT G' H' v d:=by
 cases h with
 | int i=>exact .int i
 | bl i=>exact .bl i
 | non=>exact .non
 | str i=>exact .str i
 | lst h r=>exact .lst (h.same e') (r.mono e)
 | tup h r=>exact .tup (e' _ _ h) (r.mono e)
 | scr h=>exact .scr (e'.seq h)
 | dic h hl r=>exact .dic (h.same e') hl (r.mono e)
theorem RepTs.mono {G H G' H':Hp} (e:Same G G') (e':Same H H') {vs:List V} {ds:List D} (h:RepTs G H vs ds):RepTs G' H' vs ds:=by
 induction h with
 | nil=>exact .nil
 | cons r _ ih=>exact .cons (r.mono e e') ih
structure Ext (G H G' H':Hp):Prop where
 hh:Same H H'
 gg:Same G G'
 gh:Same G' H'
 nw:∀a o,G' a=some o->G a=some o\/H a=none
section
variable {G H G' H' G'' H'':Hp} {a:Addr} {o:HO}
theorem Ext.refl (h:Same G H):Ext G H G H:=⟨.refl _,.refl _,h,fun _ _ e=>.inl e⟩
theorem Ext.trans (x:Ext G H G' H') (y:Ext G' H' G'' H''):Ext G H G'' H'':=
 ⟨x.hh.trans y.hh,x.gg.trans y.gg,y.gh,fun a o e=>by
  rcases y.nw a o e with z | z
  . exact x.nw a o z
  . exact .inr (x.hh.free z)⟩
theorem Ext.new (h:Same G H) (hn:H a=none):Ext G H G (upd H a o):=⟨.upd hn,.refl _,fun b u e=>by rw [jA (jE (h b u e) hn)];exact h b u e,fun _ _ e=>.inl e⟩
theorem Ext.freeze (x:Ext G H G' H') (hn:H a=none) (hg:G' a=none) (ho:H' a=some o):Ext G H (upd G' a o) H':=
 ⟨x.hh,x.gg.trans (.upd hg),fun b u e=>by
  by_cases hb:b=a
  . subst hb;rw [jC] at e;cases e;exact ho
  . rw [jA hb] at e;exact x.gh b u e,fun b u e=>by
  by_cases hb:b=a
  . subst hb;exact .inr hn
  . rw [jA hb] at e;exact x.nw b u e⟩
theorem Ext.gone (x:Ext G H G' H') (hg:G a=none) (hh:H a=some o):G' a=none:=by
 cases e:G' a with
 | none=>rfl
 | some u=>
   rcases x.nw a u e with z | z
   . rw [hg] at z;cases z
   . rw [hh] at z;cases z
end
inductive Slot where
 | un | sh (d:D) | ow (ds:List D)
 /-- a dict of one's own -/
 | od (ks:List Int) (ds:List D)
 /-- a list of one's own, of lists of one's own -/
 | oo (dss:List (List D))
abbrev Env:=List Slot
abbrev eg:=L2.Env
inductive Rows (G H:Hp):List Addr->List (List D)->Prop where
 | nil:Rows G H [] []
 | cons {b:Addr} {us:List V} {ds:List D} {bs:List Addr} {dss:List (List D)} (h:H b=some (.lst us)) (r:Reps G us ds) (t:Rows G H bs dss):Rows G H (b::bs) (ds::dss)
def Ql (H:Hp):Option V->Slot->Addr->Prop
 | some (.ref a),.ow _,b=>b=a
 | some (.ref a),.od _ _,b=>b=a
 | some (.ref a),.oo _,b=>b=a\/∃vs,H a=some (.lst vs)/\V.ref b∈vs
 | _,_,_=>False
inductive SlotOk (H0 G H:Hp):Option V->Slot->Prop where
 | un (o:Option V):SlotOk H0 G H o .un
 | sh {v:V} {d:D} (r:Rep G v d):SlotOk H0 G H (some v) (.sh d)
 | ow {a:Addr} {vs:List V} {ds:List D} (h0:H0 a=none) (hg:G a=none) (h:H a=some (.lst vs)) (r:Reps G vs ds):SlotOk H0 G H (some (.ref a)) (.ow ds)
 | od {a:Addr} {ks:List Int} {vs:List V} {ds:List D} (h0:H0 a=none) (hg:G a=none) (h:H a=some (.dK (qO ks vs))) (hl:ks.length=vs.length) (r:Reps G vs ds):SlotOk H0 G H (some (.ref a)) (.od ks ds)
 | oo {a:Addr} {bs:List Addr} {dss:List (List D)} (h:H a=some (.lst (bs.map V.ref))) (nd:(a::bs).Nodup) (own:∀b∈a::bs,H0 b=none/\G b=none) (rows:Rows G H bs dss):SlotOk H0 G H (some (.ref a)) (.oo dss)
structure EnvOk (G0 H0 G H:Hp) (σ:St) (ρ:eg):Prop where
 ext:Ext G0 H0 G H
 len:σ.length=ρ.length
 slot:∀(i:Nat) o s,σ[i]?=some o->ρ[i]?=some s->SlotOk H0 G H o s
 dist:∀(i j:Nat) o o' s s' b,σ[i]?=some o->ρ[i]?=some s->σ[j]?=some o'->ρ[j]?=some s'->Ql H o s b->Ql H o' s' b->i=j
section
variable {G0 H0 G H G' H':Hp} {σ:St} {ρ:eg} {i:Nat} {d:D} {ds:List D} {v:V} {vs:List V} {a:Addr}
theorem Rows.there {bs:List Addr} {dss:List (List D)} (h:Rows G H bs dss):∀b∈bs,∃us,H b=some (.lst us):=by
 induction h with
 | nil=>intro b hb;cases hb
 | cons h r t ih=>
   intro b hb;rcases Yl.mp hb with rfl | hb
   . exact ⟨_,h⟩
   . exact ih b hb
theorem Rows.keep {bs:List Addr} {dss:List (List D)} (h:Rows G H bs dss) (gg:Same G G') (k:∀b∈bs,H' b=H b):Rows G' H' bs dss:=by
 induction h with
 | nil=>exact .nil
 | cons h r t ih=>exact .cons (by rw [k _ Ye];exact h) (r.mono gg) (ih fun b hb=>k b (Yk _ hb))
theorem Rows.length {bs:List Addr} {dss:List (List D)} (h:Rows G H bs dss):bs.length=dss.length:=by
 induction h with
 | nil=>rfl
 | cons h r t ih=>simp [ih]
theorem Rows.get {bs:List Addr} {dss:List (List D)} (h:Rows G H bs dss):∀{j:Nat} {ds:List D},dss[j]?=some ds->∃b us,bs[j]?=some b/\H b=some (.lst us)/\Reps G us ds:=by
 induction h with
 | nil=>intro j ds e;simp at e
 | cons h r t ih=>
   intro j ds e;cases j with
   | zero=>simp at e;subst e;exact ⟨_,_,rfl,h,r⟩
   | succ j=>obtain ⟨b,us,h1,h2,h3⟩:=ih (j:=j) (ds:=ds) (by simpa using e);exact ⟨b,us,by simpa using h1,h2,h3⟩
theorem Rows.put {bs:List Addr} {dss:List (List D)} {us:List V} (h:Rows G H bs dss) (r:Reps G us ds):∀{j:Nat} {b:Addr},bs.Nodup->bs[j]?=some b->Rows G (upd H b (.lst us)) bs (dss.set j ds):=by
 induction h with
 | nil=>intro j b _ e;simp at e
 | @cons c us' ds' bs dss h q t ih=>
   intro j b nd e;have nd':=yh.mp nd;cases j with
   | zero=>simp at e;subst e;exact .cons jC r (t.keep (.refl _) fun b' hb'=>jA fun z=>nd'.1 (z ▸ hb'))
   | succ j=>
     have e':bs[j]?=some b:=by simpa using e
     have hb:c≠b:=fun z=>nd'.1 (z ▸ Yz e');exact .cons (by rw [jA hb];exact h) q (ih nd'.2 e')
theorem Rows.frozen {bs:List Addr} {dss:List (List D)} (h:Rows G H bs dss) (gg:Same G G') (k:∀b∈bs,G' b=H b):Reps G' (bs.map V.ref) (dss.map D.lst):=by
 induction h with
 | nil=>exact .nil
 | cons h r t ih=>exact .cons (.lst (.inl ((k _ Ye).trans h)) (r.mono gg)) (ih fun b hb=>k b (Yk _ hb))
theorem EnvOk.same (e:EnvOk G0 H0 G H σ ρ):Same G H:=e.ext.gh
theorem SlotOk.foot {o:Option V} {s:Slot} {b:Addr} (h:SlotOk H0 G H o s) (f:Ql H o s b):H0 b=none/\G b=none/\∃u,H b=some u:=by
 cases h with
 | un=>cases o with | none=>exact f.elim | some v=>cases v <;> exact f.elim
 | @sh v d r=>cases v <;> exact f.elim
 | ow h0 hg h r=>cases (show b=_ from f);exact ⟨h0,hg,_,h⟩
 | od h0 hg h hl r=>cases (show b=_ from f);exact ⟨h0,hg,_,h⟩
 | @oo a bs dss h nd own rows=>
   have f':b=a\/∃vs,H a=some (.lst vs)/\V.ref b∈vs:=f;rcases f' with rfl | ⟨vs,q,hb⟩
   . exact ⟨(own b Ye).1,(own b Ye).2,_,h⟩
   . rw [h] at q;cases q;obtain ⟨c,hc,e⟩:=YO.mp hb;injection e with e;subst e;obtain ⟨us,hu⟩:=rows.there c hc;exact ⟨(own c (Yk _ hc)).1,(own c (Yk _ hc)).2,_,hu⟩
theorem Jq {bs:List Addr} {dss:List (List D)} {b:Addr} (h:H a=some (.lst (bs.map V.ref))):Ql H (some (.ref a)) (.oo dss) b ↔ b∈a::bs:=by
 show (b=a\/∃vs,H a=some (.lst vs)/\V.ref b∈vs) ↔ _;rw [Yl];constructor
 . rintro (z | ⟨vs,q,hb⟩)
   . exact .inl z
   . rw [h] at q;cases q;obtain ⟨c,hc,e⟩:=YO.mp hb;injection e with e;subst e;exact .inr hc
 . rintro (z | z)
   . exact .inl z
   . exact .inr ⟨_,h,yt z⟩
theorem SlotOk.keep {o:Option V} {s:Slot} (h:SlotOk H0 G H o s) (gg:Same G G') (k:∀b,Ql H o s b->H' b=H b/\G' b=none):SlotOk H0 G' H' o s/\∀b,Ql H' o s b->Ql H o s b:=by
 cases h with
 | un=>exact ⟨.un _,fun b f=>by cases o with | none=>exact f.elim | some v=>cases v <;> exact f.elim⟩
 | @sh v d r=>exact ⟨.sh (r.mono gg),fun b f=>by cases v <;> exact f.elim⟩
 | @ow a vs ds h0 hg h r=>have q:=k a rfl;exact ⟨.ow h0 q.2 (by rw [q.1];exact h) (r.mono gg),fun b f=>f⟩
 | @od a ks vs ds h0 hg h hl r=>have q:=k a rfl;exact ⟨.od h0 q.2 (by rw [q.1];exact h) hl (r.mono gg),fun b f=>f⟩
 | @oo a bs dss h nd own rows=>
   have h':H' a=some (.lst (bs.map V.ref)):=by rw [(k a (.inl rfl)).1];exact h
   refine ⟨.oo h' nd (fun b hb=>⟨(own b hb).1,(k b ((Jq h).mpr hb)).2⟩) (rows.keep gg fun b hb=>(k b ((Jq h).mpr (Yk _ hb))).1),fun b f=>?_⟩;exact (Jq h).mpr ((Jq h').mp f)
theorem EnvOk.grow (e:EnvOk G0 H0 G H σ ρ) (x:Ext G H G' H'):EnvOk G0 H0 G' H' σ ρ:=by
 have key:∀(i:Nat) o s,σ[i]?=some o->ρ[i]?=some s->_:=fun i o s h1 h2=>(e.slot i o s h1 h2).keep (H':=H') x.gg fun b f=>by obtain ⟨_,g,u,hu⟩:=(e.slot i o s h1 h2).foot f;exact ⟨by rw [hu];exact x.hh _ _ hu,x.gone g hu⟩
 exact ⟨e.ext.trans x,e.len,fun i o s h1 h2=>(key i o s h1 h2).1,fun i j o o' s s' b h1 h2 h3 h4 f f'=>e.dist i j o o' s s' b h1 h2 h3 h4 ((key i o s h1 h2).2 b f) ((key j o' s' h3 h4).2 b f')⟩
theorem EnvOk.at {s:Slot} (e:EnvOk G0 H0 G H σ ρ) (h:ρ[i]?=some s):∃o,σ[i]?=some o/\SlotOk H0 G H o s:=by
 have hi:i<σ.length:=by rw [e.len];exact (Yi.mp h).1
 exact ⟨σ[i],Yb hi,e.slot i _ _ (Yb hi) h⟩
theorem EnvOk.sh (e:EnvOk G0 H0 G H σ ρ) (h:ρ[i]?=some (.sh d)):∃v,σ[i]?=some (some v)/\Rep G v d:=by
 obtain ⟨o,h1,h2⟩:=e.at h;cases h2 with
 | sh r=>exact ⟨_,h1,r⟩
theorem EnvOk.ow (e:EnvOk G0 H0 G H σ ρ) (h:ρ[i]?=some (.ow ds)):∃a vs,σ[i]?=some (some (.ref a))/\H0 a=none/\G a=none/\H a=some (.lst vs)/\Reps G vs ds:=by
 obtain ⟨o,h1,h2⟩:=e.at h;cases h2 with
 | ow h0 hg h r=>exact ⟨_,_,h1,h0,hg,h,r⟩
theorem EnvOk.od {ks:List Int} (e:EnvOk G0 H0 G H σ ρ) (h:ρ[i]?=some (.od ks ds)):∃a vs,σ[i]?=some (some (.ref a))/\H0 a=none/\G a=none/\H a=some (.dK (qO ks vs))/\ks.length=vs.length/\Reps G vs ds:=by
 obtain ⟨o,h1,h2⟩:=e.at h;cases h2 with
 | od h0 hg h hl r=>exact ⟨_,_,h1,h0,hg,h,hl,r⟩
theorem EnvOk.oo {dss:List (List D)} (e:EnvOk G0 H0 G H σ ρ) (h:ρ[i]?=some (.oo dss)):∃a bs,σ[i]?=some (some (.ref a))/\H a=some (.lst (bs.map V.ref))/\(a::bs).Nodup/\(∀b∈a::bs,H0 b=none/\G b=none)/\Rows G H bs dss:=by
 obtain ⟨o,h1,h2⟩:=e.at h;cases h2 with
 | oo h nd own rows=>exact ⟨_,_,h1,h,nd,own,rows⟩
theorem EnvOk.change {o':Option V} {s':Slot} (e:EnvOk G0 H0 G H σ ρ) (x:Ext G0 H0 G' H') (gg:Same G G')
 (keep:∀j,j≠i->∀o s,σ[j]?=some o->ρ[j]?=some s->∀b,Ql H o s b->H' b=H b/\G' b=none) (new:SlotOk H0 G' H' o' s')
 (foot:∀b,Ql H' o' s' b->H b=none\/∃o s,σ[i]?=some o/\ρ[i]?=some s/\Ql H o s b):EnvOk G0 H0 G' H' (σ.set i o') (ρ.set i s'):=by
 have key:∀(j:Nat) o s,j≠i->σ[j]?=some o->ρ[j]?=some s->_:=fun j o s hj h1 h2=>(e.slot j o s h1 h2).keep (H':=H') gg (keep j hj o s h1 h2);have at_i:∀o s,(σ.set i o')[i]?=some o->(ρ.set i s')[i]?=some s->o=o'/\s=s':=fun o s h1 h2=>by rw [List.getElem?_set] at h1 h2;simp at h1 h2;exact ⟨h1.2.symm,h2.2.symm⟩
 refine ⟨x,by simp [e.len],fun j o s h1 h2=>?_,fun j k o p s t b h1 h2 h3 h4 f g=>?_⟩
 . by_cases hj:i=j
   . subst hj;obtain ⟨rfl,rfl⟩:=at_i o s h1 h2;exact new
   . rw [YM hj] at h1 h2;exact (key j o s (Ne.symm hj) h1 h2).1
 . have other:∀(m:Nat) q u,i≠m->(σ.set i o')[m]?=some q->(ρ.set i s')[m]?=some u->Ql H' q u b->Ql H' o' s' b->False:=fun m q u hm g1 g2 f1 f2=>by
    rw [YM hm] at g1 g2;have f1':=(key m q u (Ne.symm hm) g1 g2).2 b f1;obtain ⟨_,_,w,hw⟩:=(e.slot m q u g1 g2).foot f1';rcases foot b f2 with z | ⟨o2,s2,z1,z2,z3⟩
    . rw [hw] at z;cases z
    . exact hm (e.dist i m _ _ _ _ b z1 z2 g1 g2 z3 f1')
   by_cases hj:i=j
   . by_cases hk:i=k
     . exact hj.symm.trans hk
     . subst hj;obtain ⟨rfl,rfl⟩:=at_i o s h1 h2;exact (other k p t hk h3 h4 g f).elim
   . by_cases hk:i=k
     . subst hk;obtain ⟨rfl,rfl⟩:=at_i p t h3 h4;exact (other j o s hj h1 h2 f g).elim
     . rw [YM hj] at h1 h2;rw [YM hk] at h3 h4;exact e.dist j k o p s t b h1 h2 h3 h4 ((key j o s (Ne.symm hj) h1 h2).2 b f) ((key k p t (Ne.symm hk) h3 h4).2 b g)
theorem EnvOk.stay (e:EnvOk G0 H0 G H σ ρ):∀j,j≠i->∀o s,σ[j]?=some o->ρ[j]?=some s->∀b,Ql H o s b->H b=H b/\G b=none:=fun j _ o s h1 h2 b f=>⟨rfl,((e.slot j o s h1 h2).foot f).2.1⟩
theorem EnvOk.set (e:EnvOk G0 H0 G H σ ρ) (r:Rep G v d):EnvOk G0 H0 G H (σ.set i (some v)) (ρ.set i (.sh d)):=e.change e.ext (.refl _) e.stay (.sh r) fun b f=>by cases v <;> exact f.elim
theorem EnvOk.fresh (e:EnvOk G0 H0 G H σ ρ) (x:Ext G H G' H') {o':Option V} {s':Slot} (new:SlotOk H0 G' H' o' s') (foot:∀b,Ql H' o' s' b->H b=none):EnvOk G0 H0 G' H' (σ.set i o') (ρ.set i s'):=
 e.change (e.ext.trans x) x.gg (fun j _ o s h1 h2 b f=>by obtain ⟨_,g,u,hu⟩:=(e.slot j o s h1 h2).foot f;exact ⟨by rw [hu];exact x.hh _ _ hu,x.gone g hu⟩) new fun b f=>.inl (foot b f)
theorem EnvOk.setO (e:EnvOk G0 H0 G H σ ρ) (x:Ext G H G' H') (hn:H a=none) (hg:G' a=none) (h:H' a=some (.lst vs)) (r:Reps G' vs ds):EnvOk G0 H0 G' H' (σ.set i (some (.ref a))) (ρ.set i (.ow ds)):=e.fresh x (.ow (e.ext.hh.free hn) hg h r) fun b f=>by cases (show b=a from f);exact hn
theorem EnvOk.setD {ks:List Int} (e:EnvOk G0 H0 G H σ ρ) (x:Ext G H G' H') (hn:H a=none) (hg:G' a=none) (h:H' a=some (.dK (qO ks vs))) (hl:ks.length=vs.length) (r:Reps G' vs ds):EnvOk G0 H0 G' H' (σ.set i (some (.ref a))) (ρ.set i (.od ks ds)):=e.fresh x (.od (e.ext.hh.free hn) hg h hl r) fun b f=>by cases (show b=a from f);exact hn
theorem EnvOk.setOO {bs:List Addr} {dss:List (List D)} (e:EnvOk G0 H0 G H σ ρ) (x:Ext G H G' H') (hn:∀b∈a::bs,H b=none/\G' b=none) (nd:(a::bs).Nodup) (h:H' a=some (.lst (bs.map V.ref))) (r:Rows G' H' bs dss):EnvOk G0 H0 G' H' (σ.set i (some (.ref a))) (ρ.set i (.oo dss)):=e.fresh x (.oo h nd (fun b hb=>⟨e.ext.hh.free (hn b hb).1,(hn b hb).2⟩) r) fun b f=>(hn b ((Jq h).mp f)).1
theorem EnvOk.write {u:HO} {o:Option V} {s s':Slot} (e:EnvOk G0 H0 G H σ ρ) (h1:ρ[i]?=some s) (h2:σ[i]?=some o) (f:Ql H o s a) (new:SlotOk H0 G (upd H a u) o s') (foot:∀b,Ql (upd H a u) o s' b->Ql H o s b):EnvOk G0 H0 G (upd H a u) σ (ρ.set i s'):=by
 obtain ⟨q1,q2,_⟩:=(e.slot i o s h2 h1).foot f;have hi:i<σ.length:=(Yi.mp h2).1;have key:=e.change (i:=i) (o':=o) (s':=s') (G':=G) (H':=upd H a u) ⟨fun b o z=>by rw [jA (jE z q1)];exact e.ext.hh b o z,e.ext.gg,fun b o z=>by rw [jA (jE z q2)];exact e.ext.gh b o z,e.ext.nw⟩ (.refl _)
  (fun j hj o' s' g1 g2 b f'=>by
   have hb:b≠a:=fun z=>by subst z;exact hj (e.dist j i _ _ _ _ b g1 g2 h2 h1 f' f)
   exact ⟨jA hb,((e.slot j o' s' g1 g2).foot f').2.1⟩) new fun b f'=>.inr ⟨o,s,h2,h1,foot b f'⟩
 have e':σ.set i o=σ:=by
  refine Ks fun j=>?_;by_cases hj:i=j
  . subst hj;rw [Y2 hi,h2]
  . rw [YM hj]
 rw [e'] at key;exact key
theorem EnvOk.put (e:EnvOk G0 H0 G H σ ρ) (h1:ρ[i]?=some (.ow ds)) (h2:σ[i]?=some (some (.ref a))) {es:List D} (r:Reps G vs es):EnvOk G0 H0 G (upd H a (.lst vs)) σ (ρ.set i (.ow es)):=by obtain ⟨b,us,q1,q2,q3,q4,q5⟩:=e.ow h1;rw [h2] at q1;cases q1;exact e.write h1 h2 rfl (.ow q2 q3 jC r) fun b f=>f
theorem EnvOk.putD {ks ls:List Int} (e:EnvOk G0 H0 G H σ ρ) (h1:ρ[i]?=some (.od ks ds)) (h2:σ[i]?=some (some (.ref a))) {es:List D} (hl:ls.length=vs.length) (r:Reps G vs es):EnvOk G0 H0 G (upd H a (.dK (qO ls vs))) σ (ρ.set i (.od ls es)):=by obtain ⟨b,us,q1,q2,q3,q4,_,q5⟩:=e.od h1;rw [h2] at q1;cases q1;exact e.write h1 h2 rfl (.od q2 q3 jC hl r) fun b f=>f
theorem EnvOk.putOO {dss:List (List D)} {bs:List Addr} {j:Nat} {b:Addr} (e:EnvOk G0 H0 G H σ ρ) (h1:ρ[i]?=some (.oo dss)) (h2:σ[i]?=some (some (.ref a))) (h3:H a=some (.lst (bs.map V.ref))) (hb:bs[j]?=some b) (r:Reps G vs ds):EnvOk G0 H0 G (upd H b (.lst vs)) σ (ρ.set i (.oo (dss.set j ds))):=by
 obtain ⟨a',bs',q1,q2,q3,q4,q5⟩:=e.oo h1;rw [h2] at q1;cases q1;rw [h3] at q2;have ebs:bs'=bs:=by have:=HO.lst.inj (Option.some.inj q2);exact ((List.map_inj_right (f:=V.ref) fun x y z=>V.ref.inj z).mp this).symm
 subst ebs;have nd':=yh.mp q3;have hm:=Yz hb;have hab:a≠b:=fun z=>nd'.1 (z ▸ hm);have h3':upd H b (.lst vs) a=some (.lst (bs'.map V.ref)):=by rw [jA hab];exact h3
 exact e.write h1 h2 ((Jq h3).mpr (Yk _ hm)) (.oo h3' q3 q4 (q5.put r nd'.2 hb)) fun c f=>(Jq h3).mpr ((Jq h3').mp f)
def frz (i:Nat) (ρ:eg):eg:=match ρ[i]? with
 | some (.ow ds)=>ρ.set i (.sh (.lst ds))
 | some (.oo dss)=>ρ.set i (.sh (.lst (dss.map .lst)))
 | _=>ρ
theorem EnvOk.let {o:Option V} {s s':Slot} (e:EnvOk G0 H0 G H σ ρ) (h1:ρ[i]?=some s) (h2:σ[i]?=some o) (gg:Same G G') (gh:Same G' H) (nw:∀b u,G' b=some u->G b=some u\/Ql H o s b)
 (new:SlotOk H0 G' H o s') (foot:∀b,Ql H o s' b->Ql H o s b):EnvOk G0 H0 G' H σ (ρ.set i s'):=by
 have hi:i<σ.length:=(Yi.mp h2).1;have key:=e.change (i:=i) (o':=o) (s':=s') (G':=G') (H':=H) ⟨e.ext.hh,e.ext.gg.trans gg,gh,fun b u z=>by
  rcases nw b u z with w | w
  . exact e.ext.nw b u w
  . exact .inr ((e.slot i o s h2 h1).foot w).1⟩ gg
  (fun j hj o' s' g1 g2 b f'=>⟨rfl,by
   obtain ⟨_,g,_⟩:=(e.slot j o' s' g1 g2).foot f';cases q:G' b with
   | none=>rfl
   | some u=>
     rcases nw b u q with w | w
     . rw [g] at w;cases w
     . exact (hj (e.dist j i _ _ _ _ b g1 g2 h2 h1 f' w)).elim⟩) new fun b f'=>.inr ⟨o,s,h2,h1,foot b f'⟩
 have e':σ.set i o=σ:=by
  refine Ks fun j=>?_;by_cases hj:i=j
  . subst hj;rw [Y2 hi,h2]
  . rw [YM hj]
 rw [e'] at key;exact key
theorem joe {u w:HO} {b:Addr} (h:upd G a u b=some w):G b=some w\/b=a:=by
 by_cases hb:b=a
 . exact .inr hb
 . rw [jA hb] at h;exact .inl h
theorem jn2 {u:HO} (s:Same G H) (h:H a=some u):Same (upd G a u) H:=fun b w e=>by
 by_cases hb:b=a
 . subst hb;rw [jC] at e;cases e;exact h
 . rw [jA hb] at e;exact s b w e
theorem EnvOk.freeze (e:EnvOk G0 H0 G H σ ρ) (h1:ρ[i]?=some (.ow ds)) (h2:σ[i]?=some (some (.ref a))) (h3:H a=some (.lst vs)) (h4:Reps G vs ds):EnvOk G0 H0 (upd G a (.lst vs)) H σ (ρ.set i (.sh (.lst ds))):=by obtain ⟨b,us,q1,q2,q3,q4,q5⟩:=e.ow h1;rw [h2] at q1;cases q1;have up:Same G (upd G a (.lst vs)):=.upd q3;exact e.let h1 h2 up (jn2 e.same h3) (fun b u z=>joe z) (.sh (.lst (.inl jC) (h4.mono up))) fun b f=>f.elim
open Classical in
/-- the heap with more of it known -/
def more (G H:Hp) (bs:List Addr):Hp:=fun b=>if b∈bs then H b else G b
theorem jef {bs:List Addr} {b:Addr} (h:b∈bs):more G H bs b=H b:=if_pos h
theorem Zb {bs:List Addr} {b:Addr} (h:b∉bs):more G H bs b=G b:=if_neg h
theorem jdL {bs:List Addr} (s:Same G H):Same G (more G H bs)/\Same (more G H bs) H:=by
 refine ⟨fun b u e=>?_,fun b u e=>?_⟩
 . by_cases hb:b∈bs
   . rw [jef hb];exact s b u e
   . rw [Zb hb];exact e
 . by_cases hb:b∈bs
   . rw [jef hb] at e;exact e
   . rw [Zb hb] at e;exact s b u e
theorem EnvOk.half {dss:List (List D)} {bs:List Addr} (e:EnvOk G0 H0 G H σ ρ) (h1:ρ[i]?=some (.oo dss)) (h2:σ[i]?=some (some (.ref a))) (h3:H a=some (.lst (bs.map V.ref))) (nd:(a::bs).Nodup) (own:∀b∈a::bs,H0 b=none/\G b=none) (rows:Rows G H bs dss) :
 EnvOk G0 H0 (more G H bs) H σ (ρ.set i (.ow (dss.map .lst)))/\Reps (more G H bs) (bs.map V.ref) (dss.map D.lst):=by
 have ss:=jdL (bs:=bs) e.same;have nd':=yh.mp nd;have rr:=rows.frozen ss.1 fun b hb=>jef hb;refine ⟨e.let h1 h2 ss.1 ss.2 (fun b u z=>?_) (.ow (own a Ye).1 (by rw [Zb nd'.1];exact (own a Ye).2) h3 rr) fun b f=>.inl f,rr⟩;by_cases hb:b∈bs
 . exact .inr ((Jq h3).mpr (Yk _ hb))
 . rw [Zb hb] at z;exact .inl z
end
def EOk (t:TE) (f:eg->Option D):Prop:=∀G0 H0 G H σ ρ (Q:VK) d,EnvOk G0 H0 G H σ ρ->f ρ=some d->(∀v G' H',Ext G H G' H'->Rep G' v d->Q v H')->t σ H Q
def zR (t:TE) (f:eg->Option D):Prop:=∀G0 H0 G H σ ρ (Q:VK) d,EnvOk G0 H0 G H σ ρ->f ρ=some d->(∀v G' H',Ext G H G' H'->RepT G' H' v d->Q v H')->t σ H Q
def EOkO (t:TE) (f:eg->Option (List D)):Prop:=∀G0 H0 G H σ ρ (Q:VK) ds,EnvOk G0 H0 G H σ ρ->f ρ=some ds->
 ‹"af"›->t σ H Q
def TOk (t:TT) (f:eg->Option Bool):Prop:=∀G0 H0 G H σ ρ (Q:Bool->Hp->Prop) b,EnvOk G0 H0 G H σ ρ->f ρ=some b->(∀G' H',Ext G H G' H'->Q b H')->t σ H Q
def AOk (t:TA) (f:eg->Option (List D)):Prop:=∀G0 H0 G H σ ρ (Q:List V->Hp->Prop) ds,EnvOk G0 H0 G H σ ρ->f ρ=some ds->(∀vs G' H',Ext G H G' H'->Reps G' vs ds->Q vs H')->t σ H Q
def jaN (t:TA) (f:eg->Option (List D)):Prop:=∀G0 H0 G H σ ρ (Q:List V->Hp->Prop) ds,EnvOk G0 H0 G H σ ρ->f ρ=some ds->(∀vs G' H',Ext G H G' H'->RepTs G' H' vs ds->Q vs H')->t σ H Q
def jN (f:eg->Option (List D)):eg->Option D:=fun ρ=>(f ρ).map .lst
theorem EOkO.e {t:TE} {f:eg->Option (List D)} (h:EOkO t f):EOk t (jN f):=fun G0 H0 G H σ ρ Q d e q k=>by
 unfold jN at q;cases z:f ρ with
 | none=>rw [z] at q;cases q
 | some ds=>rw [z] at q;cases q;exact h G0 H0 G H σ ρ Q ds e z fun a vs G' H' x hn hg ha r=>k _ _ _ (x.freeze hn hg ha) (.lst (.inl jC) (r.mono (.upd hg)))
theorem EOk.t {t:TE} {f:eg->Option D} (h:EOk t f):zR t f:=fun G0 H0 G H σ ρ Q d e q k=>h G0 H0 G H σ ρ Q d e q fun v G' H' x r=>k v G' H' x (r.top x.gh)
theorem AOk.t {t:TA} {f:eg->Option (List D)} (h:AOk t f):jaN t f:=fun G0 H0 G H σ ρ Q d e q k=>h G0 H0 G H σ ρ Q d e q fun v G' H' x r=>k v G' H' x (by
 clear k e q;induction r using Reps.rec (motive_1:=fun _ _ _=>True) with
 | nil=>exact .nil
 | cons r _ _ ih=>exact .cons (r.top x.gh) ih
 | _=>trivial)
def jr (i:Nat):eg->Option D:=fun ρ=>match ρ[i]? with
 | some (.sh d)=>some d
 | _=>none
def ja (i:Nat):eg->Option D:=fun ρ=>match ρ[i]? with
 | some (.sh d)=>some d
 | some (.ow ds)=>some (.lst ds)
 | some (.od ks ds)=>some (.dic ks ds)
 | _=>none
def eC (d:D):eg->Option D:=fun _=>some d
theorem jqZ (i:Nat):EOk (je1 i) (jr i):=fun G0 H0 G H σ ρ Q d e q k=>by
 unfold jr at q;split at q
 . rename_i d' h;cases q;obtain ⟨v,h1,r⟩:=e.sh h;exact ⟨v,h1,k v G H (.refl e.same) r⟩
 . cases q
theorem joA (i:Nat):zR (je1 i) (ja i):=fun G0 H0 G H σ ρ Q d e q k=>by
 unfold ja at q;split at q
 . rename_i d' h;cases q;obtain ⟨v,h1,r⟩:=e.sh h;exact ⟨v,h1,k v G H (.refl e.same) (r.top e.same)⟩
 . rename_i ds h;cases q;obtain ⟨a,vs,h1,_,_,h2,r⟩:=e.ow h;exact ⟨_,h1,k _ G H (.refl e.same) (.lst (.inl h2) r)⟩
 . rename_i ks ds h;cases q;obtain ⟨a,vs,h1,_,_,h2,hl,r⟩:=e.od h;exact ⟨_,h1,k _ G H (.refl e.same) (.dic (.inl h2) hl r)⟩
 . cases q
theorem jnD {i:Int}:EOk (tC (.int i)) (eC (.int i)):=fun G0 H0 G H σ ρ Q d e q k=>by cases q;exact k _ G H (.refl e.same) (.int i)
theorem jrY {i:Bool}:EOk (tC (.bl i)) (eC (.bl i)):=fun G0 H0 G H σ ρ Q d e q k=>by cases q;exact k _ G H (.refl e.same) (.bl i)
theorem jqf:EOk (tC .non) (eC .non):=fun G0 H0 G H σ ρ Q d e q k=>by cases q;exact k _ G H (.refl e.same) .non
def ROk (r:R2) (f:D->D->Option D):Prop:=∀G H x y dx dy d (Q:VK),Same G H->RepT G H x dx->RepT G H y dy->f dx dy=some d->(∀v G' H',Ext G H G' H'->Rep G' v d->Q v H')->r x y H Q
def jpr (r:R2) (f:D->D->Option (List D)):Prop:=∀G H x y dx dy ds (Q:VK),Same G H->RepT G H x dx->RepT G H y dy->f dx dy=some ds->
 ‹"af"›->r x y H Q
def js {β:Type} (f:D->D->Option β) (a b:eg->Option D):eg->Option β:=fun ρ=>(a ρ).bind fun x=>(b ρ).bind fun y=>f x y
section
variable {ta tb tc:TE} {fa fb fc:eg->Option D} {r r':R2} {f f':D->D->Option D}
theorem jmb (h:ROk r f) (ha:zR ta fa) (hb:zR tb fb):EOk (tOp r ta tb) (js f fa fb):=fun G0 H0 G H σ ρ Q d e q k=>by obtain ⟨x,qa,q⟩:=bind_some q;obtain ⟨y,qb,q⟩:=bind_some q;refine ha G0 H0 G H σ ρ _ x e qa fun u G1 H1 x1 r1=>?_;refine hb G0 H0 G1 H1 σ ρ _ y (e.grow x1) qb fun v G2 H2 x2 r2=>?_;exact h G2 H2 u v x y d Q x2.gh (r1.mono x2.gg x2.hh) r2 q fun w G3 H3 x3 r3=>k w G3 H3 ‹"ak"› r3
theorem jnC {f:D->D->Option (List D)} (h:jpr r f) (ha:zR ta fa) (hb:zR tb fb):EOkO (tOp r ta tb) (js f fa fb):=fun G0 H0 G H σ ρ Q d e q k=>by obtain ⟨x,qa,q⟩:=bind_some q;obtain ⟨y,qb,q⟩:=bind_some q;refine ha G0 H0 G H σ ρ _ x e qa fun u G1 H1 x1 r1=>?_;refine hb G0 H0 G1 H1 σ ρ _ y (e.grow x1) qb fun v G2 H2 x2 r2=>?_;exact h G2 H2 u v x y d Q x2.gh (r1.mono x2.gg x2.hh) r2 q fun w vs G3 H3 x3 hn hg hh r3=>k w vs G3 H3 ‹"ak"› ((x1.hh.trans x2.hh).free hn) hg hh r3
def dI0 (g:Int->Int->D):D->D->Option D
 | .int i,.int j=>some (g i j)
 | _,_=>none
def dI (C:Int->Int->Prop) [∀i j,Decidable (C i j)] (g:Int->Int->D):D->D->Option D
 | .int i,.int j=>if C i j then some (g i j) else none
 | _,_=>none
theorem qe {α:Type} {P:Prop} {d:α} (h:none=some d):P:=nomatch h
theorem jmn {m:Int->Int->D} {x y d:D} (q:dI0 m x y=some d):∃i j,x=.int i/\y=.int j/\m i j=d:=by
 cases x with
 | int i=>
   cases y with
   | int j=>exact ⟨i,j,rfl,rfl,Option.some.inj q⟩
   | _=>exact qe q
 | _=>exact qe q
theorem joi {C:Int->Int->Prop} [∀i j,Decidable (C i j)] {m:Int->Int->D} {x y d:D} (q:dI C m x y=some d):∃i j,x=.int i/\y=.int j/\C i j/\m i j=d:=by
 cases x with
 | int i=>
   cases y with
   | int j=>
     by_cases c:C i j
     . exact ⟨i,j,rfl,rfl,c,Option.some.inj ((if_pos c).symm.trans q)⟩
     . exact qe ((if_neg c).symm.trans q)
   | _=>exact qe q
 | _=>exact qe q
theorem jjj {g:Int->Int->V} {m:Int->Int->D} (hg:∀G i j,Rep G (g i j) (m i j)):ROk (rI0 g) (dI0 m):=fun G H x y dx dy d Q s rx ry q k=>by
 obtain ⟨i,j,rfl,rfl,rfl⟩:=jmn q
 (have hh:=RepT.of_int rx;subst hh)
 (have hh:=RepT.of_int ry;subst hh)
 exact ⟨_,_,rfl,rfl,k _ G H (.refl s) (hg _ _ _)⟩
theorem o_I {C:Int->Int->Prop} [∀i j,Decidable (C i j)] {g:Int->Int->V} {m:Int->Int->D} (hg:∀G i j,Rep G (g i j) (m i j)):ROk (rI C g) (dI C m):=fun G H x y dx dy d Q s rx ry q k=>by
 obtain ⟨i,j,rfl,rfl,hc,rfl⟩:=joi q
 (have hh:=RepT.of_int rx;subst hh)
 (have hh:=RepT.of_int ry;subst hh)
 exact ⟨_,_,rfl,rfl,hc,k _ G H (.refl s) (hg _ _ _)⟩
instance (i j:Int):Decidable (jhD i j):=inferInstanceAs (Decidable (_/\_))
instance (i j:Int):Decidable (jds i j):=inferInstanceAs (Decidable (_/\_))
def qL:=dI0 fun i j=>.int (i+j)
def qX:=dI0 fun i j=>.int (i-j)
def zr:=dI CMulB fun i j=>.int (i*j)
def Zj:=dI jhD fun i j=>.int (i/j)
def qV:=dI (fun _ j=>0<j) fun i j=>.int (i%j)
def Qu:=dI jds fun i j=>.int (i ^ j.toNat)
def dLt:=dI0 fun i j=>.bl (decide (i<j))
def dLe:=dI0 fun i j=>.bl (decide (i<=j))
def dGt:=dI0 fun i j=>.bl (decide (j<i))
def dGe:=dI0 fun i j=>.bl (decide (j<=i))
theorem jqe:ROk (rI0 fun i j=>.int (i+j)) qL:=jjj fun _ _ _=>.int _
theorem jqj:ROk (rI0 fun i j=>.int (i-j)) qX:=jjj fun _ _ _=>.int _
theorem jry:ROk (rI CMulB fun i j=>.int (i*j)) zr:=o_I fun _ _ _=>.int _
theorem jqN:ROk (rI jhD fun i j=>.int (i/j)) Zj:=o_I fun _ _ _=>.int _
theorem jqB:ROk (rI (fun _ j=>0<j) fun i j=>.int (i%j)) qV:=o_I fun _ _ _=>.int _
theorem jp6:ROk (rI jds fun i j=>.int (i ^ j.toNat)) Qu:=o_I fun _ _ _=>.int _
theorem jsk:ROk (rI0 fun i j=>.bl (decide (i<j))) dLt:=jjj fun _ _ _=>.bl _
theorem jsq:ROk (rI0 fun i j=>.bl (decide (i<=j))) dLe:=jjj fun _ _ _=>.bl _
theorem jsi:ROk (rI0 fun i j=>.bl (decide (j<i))) dGt:=jjj fun _ _ _=>.bl _
theorem jr8:ROk (rI0 fun i j=>.bl (decide (j<=i))) dGe:=jjj fun _ _ _=>.bl _
def jZ:D->D->Option D
 | .lst l,.int i=>atI l i
 | .tup l,.int i=>atI l i
 | .scr ns,.int i=>(atI ns i).map .int
 | .str z,.int i=>if z.length<=sizeLine then (atI z.cps.toList i).map fun c=>.str ⟨#[c]⟩ else none
 | _,_=>none
theorem Reps.atI {G:Hp} {vs:List V} {ds:List D} {i:Int} {d:D} (r:Reps G vs ds) (h:L2.atI ds i=some d):∃v,L2.atI vs i=some v/\Rep G v d:=by unfold L2.atI at h ⊢;rw [r.length];obtain ⟨j,h1,h2⟩:=bind_some h;obtain ⟨v,h3,h4⟩:=r.get h2;exact ⟨v,by rw [h1];exact h3,h4⟩
theorem jm6 {x y d:D} (q:jZ x y=some d):∃i,y=.int i/\((∃l,x=.lst l/\atI l i=some d)\/(∃l,x=.tup l/\atI l i=some d)\/(∃ns n,x=.scr ns/\atI ns i=some n/\d=.int n)\/∃z c,x=.str z/\z.length<=sizeLine/\atI z.cps.toList i=some c/\d=.str ⟨#[c]⟩):=by
 cases y with
 | int i=>
   refine ⟨i,rfl,?_⟩;cases x with
   | lst l=>exact .inl ⟨l,rfl,q⟩
   | tup l=>exact .inr (.inl ⟨l,rfl,q⟩)
   | scr ns=>obtain ⟨n,h1,h2⟩:=map_some (show (atI ns i).map D.int=some d from q);exact .inr (.inr (.inl ⟨ns,n,rfl,h1,h2.symm⟩))
   | str z=>
     have q':(if z.length<=sizeLine then (atI z.cps.toList i).map fun c=>D.str ⟨#[c]⟩ else none)=some d:=q;by_cases c:z.length<=sizeLine
     . rw [if_pos c] at q';obtain ⟨n,h1,h2⟩:=map_some q';exact .inr (.inr (.inr ⟨z,n,rfl,c,h1,h2.symm⟩))
     . rw [if_neg c] at q';exact qe q'
   | _=>exact qe q
 | _=>exact qe (show none=some d from by cases x <;> exact q)
theorem jr9:ROk (rIx Fr.K) jZ:=fun G H x y dx dy d Q s rx ry q k=>by
 obtain ⟨i,rfl,z⟩:=jm6 q
 (have hh:=RepT.of_int ry;subst hh)
 rcases z with ⟨l,rfl,q⟩ | ⟨l,rfl,q⟩ | ⟨ns,n,rfl,e,rfl⟩ | ⟨z,c,rfl,hz,e,rfl⟩
 . cases rx with
   | lst h r=>obtain ⟨v,h1,h2⟩:=r.atI q;exact .inl ⟨_,_,_,v,rfl,rfl,.inl h,h1,k v G H (.refl s) h2⟩
 . cases rx with
   | tup h r=>obtain ⟨v,h1,h2⟩:=r.atI q;exact .inr (.inl ⟨_,_,_,v,rfl,rfl,.inl (.inl h),h1,k v G H (.refl s) h2⟩)
 . cases rx with
   | scr h=>exact .inl ⟨_,_,_,_,rfl,rfl,h,by rw [jmu,e];rfl,k _ G H (.refl s) (.int n)⟩
 . cases rx with
   | str z=>exact .inr (.inr ⟨_,_,c,rfl,rfl,hz,e,k _ G H (.refl s) (.str _)⟩)
def jrC (fa:eg->Option D):eg->Option D:=fun ρ=>match fa ρ with
 | some (.int i)=>some (.int (-i))
 | _=>none
def qR (fa:eg->Option D):eg->Option Bool:=fun ρ=>match fa ρ with
 | some (.bl b)=>some b
 | _=>none
theorem jcA (ha:zR ta fa) {G0 H0 G H:Hp} {σ:St} {ρ:eg} {b:Bool} {Q:VK} (e:EnvOk G0 H0 G H σ ρ) (q:qR fa ρ=some b) (k:∀G' H',Ext G H G' H'->Q (.bl b) H'):ta σ H Q:=by
 unfold qR at q;split at q
 . rename_i i h;cases q;refine ha G0 H0 G H σ ρ _ _ e h fun v G' H' x r=>?_
   (have hh:=RepT.of_bl r;subst hh)
   exact k G' H' x
 . cases q
def jjp (fa:eg->Option D):eg->Option D:=fun ρ=>(qR fa ρ).map fun b=>.bl (!b)
theorem jrb (ha:zR ta fa):EOk (jnM ta) (jjp fa):=fun G0 H0 G H σ ρ Q d e q k=>by
 unfold jjp at q;cases h:qR fa ρ with
 | none=>rw [h] at q;cases q
 | some b=>rw [h] at q;cases q;exact jcA ha e h fun G' H' x=>⟨_,rfl,k _ G' H' x (.bl _)⟩
def jdc (fa fb:eg->Option D):eg->Option D:=fun ρ=>match qR fa ρ with
 | some true=>fb ρ
 | some false=>some (.bl false)
 | none=>none
def eOr (fa fb:eg->Option D):eg->Option D:=fun ρ=>match qR fa ρ with
 | some true=>some (.bl true)
 | some false=>fb ρ
 | none=>none
theorem jqP (ha:zR ta fa) (hb:EOk tb fb):EOk (jnp ta tb) (jdc fa fb):=fun G0 H0 G H σ ρ Q d e q k=>by
 unfold jdc at q;split at q
 . rename_i h;exact jcA ha e h fun G' H' x=>⟨true,rfl,by rw [if_pos rfl];exact hb _ _ _ _ _ _ _ _ (e.grow x) q fun v G2 H2 x2 r=>k v G2 H2 (x.trans x2) r⟩
 . rename_i h;cases q;exact jcA ha e h fun G' H' x=>⟨false,rfl,by rw [if_neg Yf];exact k _ G' H' x (.bl _)⟩
 . cases q
def jjC (fa:eg->Option D):eg->Option D:=fun ρ=>(fa ρ).map fun d=>.bl (match d with | .non=>true | _=>false)
def ZL (fa:eg->Option D):eg->Option D:=fun ρ=>(fa ρ).map fun d=>.bl (match d with | .non=>false | _=>true)
theorem jqn (ha:zR ta fa):EOk (jq6 ta) (jjC fa):=fun G0 H0 G H σ ρ Q d e q k=>by
 unfold jjC at q;cases h:fa ρ with
 | none=>rw [h] at q;cases q
 | some dx=>rw [h] at q;cases q;refine ha G0 H0 G H σ ρ _ _ e h fun v G' H' x r=>?_;cases r <;> exact k _ G' H' x (by simp;exact .bl _)
theorem joP (ha:zR ta fa):EOk (jnz ta) (ZL fa):=fun G0 H0 G H σ ρ Q d e q k=>by
 unfold ZL at q;cases h:fa ρ with
 | none=>rw [h] at q;cases q
 | some dx=>rw [h] at q;cases q;refine ha G0 H0 G H σ ρ _ _ e h fun v G' H' x r=>?_;cases r <;> exact k _ G' H' x (by simp;exact .bl _)
def JK (f f':D->D->Option D) (fa fb fc:eg->Option D):eg->Option D:=fun ρ=>(fa ρ).bind fun x=>(fb ρ).bind fun y=>(f x y).bind fun z=>match z with
 | .bl true=>(fc ρ).bind fun w=>f' y w
 | .bl false=>some (.bl false)
 | _=>none
theorem jic (h:ROk r f) (h':ROk r' f') (ha:zR ta fa) (hb:zR tb fb) (hc:zR tc fc):EOk (jhm r r' ta tb tc) (JK f f' fa fb fc):=fun G0 H0 G H σ ρ Q d e q k=>by
 obtain ⟨x,qa,q⟩:=bind_some q;obtain ⟨y,qb,q⟩:=bind_some q;obtain ⟨z,qz,q⟩:=bind_some q;refine ha G0 H0 G H σ ρ _ x e qa fun u G1 H1 x1 r1=>?_;refine hb G0 H0 G1 H1 σ ρ _ y (e.grow x1) qb fun v G2 H2 x2 r2=>?_;refine h G2 H2 u v x y z _ x2.gh (r1.mono x2.gg x2.hh) r2 qz fun w G3 H3 x3 r3=>?_;cases r3 with
 | bl b=>
   refine ⟨b,rfl,?_⟩;cases b with
   | false=>rw [if_neg Yf];cases q;exact k _ G3 H3 ‹"ak"› (.bl _)
   | true=>rw [if_pos rfl];obtain ⟨w,qc,q⟩:=bind_some q;refine hc G0 H0 G3 H3 σ ρ _ w (e.grow ‹"ak"›) qc fun w' G4 H4 x4 r4=>?_;exact h' G4 H4 v w' y w d Q x4.gh (r2.mono (x3.trans x4).gg (x3.trans x4).hh) r4 q fun z G5 H5 x5 r5=>k z G5 H5 ((‹"ak"›.trans x4).trans x5) r5
 | _=>cases q
theorem t_B (ha:zR ta fa):TOk (tB ta) (qR fa):=fun G0 H0 G H σ ρ Q b e q k=>jcA ha e q fun G' H' x=>⟨b,rfl,k G' H' x⟩
theorem jlk (ha:zR ta fa):TOk (jk0 ta) (qR fa):=fun G0 H0 G H σ ρ Q b e q k=>jcA ha e q fun G' H' x=>⟨b,rfl,k G' H' x⟩
variable {ca cb:TT} {ga gb:eg->Option Bool}
def ZI (ga gb:eg->Option Bool):eg->Option Bool:=fun ρ=>match ga ρ with
 | some true=>gb ρ
 | some false=>some false
 | none=>none
def bOr (ga gb:eg->Option Bool):eg->Option Bool:=fun ρ=>match ga ρ with
 | some true=>some true
 | some false=>gb ρ
 | none=>none
def jbQ (ga:eg->Option Bool):eg->Option Bool:=fun ρ=>(ga ρ).map (!·)
theorem jgn (ha:TOk ca ga) (hb:TOk cb gb):TOk (jqJ ca cb) (ZI ga gb):=fun G0 H0 G H σ ρ Q b e q k=>by
 unfold ZI at q;split at q
 . rename_i h;exact ha _ _ _ _ _ _ _ _ e h fun G' H' x=>by rw [if_pos rfl];exact hb _ _ _ _ _ _ _ _ (e.grow x) q fun G2 H2 x2=>k G2 H2 (x.trans x2)
 . rename_i h;cases q;exact ha _ _ _ _ _ _ _ _ e h fun G' H' x=>by rw [if_neg Yf];exact k G' H' x
 . cases q
theorem jse (ha:TOk ca ga) (hb:TOk cb gb):TOk (tOr ca cb) (bOr ga gb):=fun G0 H0 G H σ ρ Q b e q k=>by
 unfold bOr at q;split at q
 . rename_i h;cases q;exact ha _ _ _ _ _ _ _ _ e h fun G' H' x=>by rw [if_pos rfl];exact k G' H' x
 . rename_i h;exact ha _ _ _ _ _ _ _ _ e h fun G' H' x=>by rw [if_neg Yf];exact hb _ _ _ _ _ _ _ _ (e.grow x) q fun G2 H2 x2=>k G2 H2 (x.trans x2)
 . cases q
theorem jfS (ha:TOk ca ga):TOk (jqd ca) (jbQ ga):=fun G0 H0 G H σ ρ Q b e q k=>by
 unfold jbQ at q;cases h:ga ρ with
 | none=>rw [h] at q;cases q
 | some c=>rw [h] at q;cases q;exact ha _ _ _ _ _ _ _ _ e h fun G' H' x=>k G' H' x
theorem joF:TOk jnx ‹"k"›:=fun G0 H0 G H σ ρ Q b e q k=>by cases q;exact k G H (.refl e.same)
def eIf (ga:eg->Option Bool) (fa fb:eg->Option D):eg->Option D:=fun ρ=>match ga ρ with
 | some true=>fa ρ
 | some false=>fb ρ
 | none=>none
theorem jr1 (hc:TOk ca ga) (ha:EOk ta fa) (hb:EOk tb fb):EOk (tIf ca ta tb) (eIf ga fa fb):=fun G0 H0 G H σ ρ Q d e q k=>by
 unfold eIf at q;split at q
 . rename_i h;exact hc _ _ _ _ _ _ _ _ e h fun G' H' x=>by rw [if_pos rfl];exact ha _ _ _ _ _ _ _ _ (e.grow x) q fun v G2 H2 x2 r=>k v G2 H2 (x.trans x2) r
 . rename_i h;exact hc _ _ _ _ _ _ _ _ e h fun G' H' x=>by rw [if_neg Yf];exact hb _ _ _ _ _ _ _ _ (e.grow x) q fun v G2 H2 x2 r=>k v G2 H2 (x.trans x2) r
 . cases q
end
section
variable {ta tb tc:TE} {fa fb fc:eg->Option D} {As:TA} {fs:eg->Option (List D)}
def jl:eg->Option (List D):=fun _=>some []
def jc (fa:eg->Option D) (fs:eg->Option (List D)):eg->Option (List D):=fun ρ=>(fa ρ).bind fun d=>(fs ρ).map (d::·)
theorem jcm {ρ:eg} {ds:List D} (h:jc fa fs ρ=some ds):∃d es,fa ρ=some d/\fs ρ=some es/\ds=d::es:=by
 obtain ⟨d,h1,h2⟩:=bind_some h;cases z:fs ρ with
 | none=>rw [z] at h2;cases h2
 | some es=>rw [z] at h2;cases h2;exact ⟨d,es,h1,rfl,rfl⟩
theorem a_nil:AOk ji2 jl:=fun G0 H0 G H σ ρ Q d e q k=>by cases q;exact k [] G H (.refl e.same) .nil
theorem jlJ (ha:EOk ta fa) (hs:AOk As fs):AOk (jb6 ta As) (jc fa fs):=fun G0 H0 G H σ ρ Q ds e q k=>by obtain ⟨d,es,q1,q2,rfl⟩:=jcm q;refine ha _ _ _ _ _ _ _ _ e q1 fun v G1 H1 x1 r1=>hs _ _ _ _ _ _ _ _ (e.grow x1) q2 fun vs G2 H2 x2 r2=>?_;exact k _ G2 H2 (x1.trans x2) (.cons (r1.mono x2.gg) r2)
theorem jpJ:jaN ji2 jl:=a_nil.t
theorem jlS (ha:zR ta fa) (hs:jaN As fs):jaN (jb6 ta As) (jc fa fs):=fun G0 H0 G H σ ρ Q ds e q k=>by obtain ⟨d,es,q1,q2,rfl⟩:=jcm q;refine ha _ _ _ _ _ _ _ _ e q1 fun v G1 H1 x1 r1=>hs _ _ _ _ _ _ _ _ (e.grow x1) q2 fun vs G2 H2 x2 r2=>?_;exact k _ G2 H2 (x1.trans x2) (.cons (r1.mono x2.gg x2.hh) r2)
def zx (n:Nat):Bool:=decide (n<sizeLine)
def jaD (fs:eg->Option (List D)):eg->Option D:=fun ρ=>(fs ρ).bind fun ds=>if zx ds.length then some (.tup ds) else none
def JQ (fs:eg->Option (List D)):eg->Option (List D):=fun ρ=>(fs ρ).bind fun ds=>if zx ds.length then some ds else none
theorem jf8 {n:Nat} (h:zx n=true):n<=sizeLine:=yF (yV h)
theorem Zo {n:Nat} (h:zx n=true):n<sizeLine:=yV h
theorem jre (h:AOk As fs):EOk (jp9 As) (jaD fs):=fun G0 H0 G H σ ρ Q d e q k=>by
 obtain ⟨ds,q1,q2⟩:=bind_some q;split at q2
 . rename_i hz;cases q2;refine h _ _ _ _ _ _ _ _ e q1 fun vs G1 H1 x1 r1=>⟨by rw [r1.length];exact jf8 hz,fun p hp=>?_⟩;have hg:G1 p=none:=x1.gh.free hp;have x2:Ext G1 H1 (upd G1 p (.tup vs)) (upd H1 p (.tup vs)):=(Ext.new x1.gh hp).freeze hp hg jC;exact k _ _ _ (x1.trans x2) (.tup jC (r1.mono x2.gg))
 . cases q2
theorem jqY (h:AOk As fs):EOkO (jrH As) (JQ fs):=fun G0 H0 G H σ ρ Q d e q k=>by
 obtain ⟨ds,q1,q2⟩:=bind_some q;split at q2
 . rename_i hz;cases q2;refine h _ _ _ _ _ _ _ _ e q1 fun vs G1 H1 x1 r1=>⟨by rw [r1.length];exact jf8 hz,fun p hp=>?_⟩;exact k p vs G1 _ (x1.trans (.new x1.gh hp)) (x1.hh.free hp) (x1.gh.free hp) jC r1
 . cases q2
def jdz (r:List V->Hp->VK->Prop) (f:List D->Option D):Prop:=∀G H xs ds d (Q:VK),Same G H->RepTs G H xs ds->f ds=some d->(∀v G' H',Ext G H G' H'->Rep G' v d->Q v H')->r xs H Q
def jhX (r:List V->Hp->VK->Prop) (f:List D->Option (List D)):Prop:=∀G H xs ds es (Q:VK),Same G H->RepTs G H xs ds->f ds=some es->
 (∀a vs G' H',Ext G H G' H'->H a=none->G' a=none->H' a=some (.lst vs)->Reps G' vs es->Q (.ref a) H')->r xs H Q
def jk {β:Type} (f:List D->Option β) (fs:eg->Option (List D)):eg->Option β:=fun ρ=>(fs ρ).bind f
theorem jsn {r:List V->Hp->VK->Prop} {f:List D->Option D} (h:jdz r f) (ha:jaN As fs):EOk (tCB r As) (jk f fs):=fun G0 H0 G H σ ρ Q d e q k=>by obtain ⟨ds,q1,q2⟩:=bind_some q;exact ha _ _ _ _ _ _ _ _ e q1 fun vs G1 H1 x1 r1=>h G1 H1 vs ds d Q x1.gh r1 q2 fun v G2 H2 x2 r2=>k v G2 H2 (x1.trans x2) r2
theorem jqo {r:List V->Hp->VK->Prop} {f:List D->Option (List D)} (h:jhX r f) (ha:jaN As fs):EOkO (tCB r As) (jk f fs):=fun G0 H0 G H σ ρ Q d e q k=>by obtain ⟨ds,q1,q2⟩:=bind_some q;exact ha _ _ _ _ _ _ _ _ e q1 fun vs G1 H1 x1 r1=>h G1 H1 vs ds d Q x1.gh r1 q2 fun a us G2 H2 x2 hn hg hh r2=>k a us G2 H2 (x1.trans x2) (x1.hh.free hn) hg hh r2
def spS (f:List D->Option D):Sp:=fun vs H Q _=>∃G ds d,Same G H/\Reps G vs ds/\f ds=some d/\∀v G' H',Ext G H G' H'->Rep G' v d->Q v H'
def spO (f:List D->Option (List D)):Sp:=fun vs H Q _=>∃G ds es,Same G H/\Reps G vs ds/\f ds=some es/\∀a us G' H',Ext G H G' H'->H a=none->G' a=none->H' a=some (.lst us)->Reps G' us es->Q (.ref a) H'
theorem jo5 {f:List D->Option D} {E:XK} (ha:AOk As fs):EOk (jkU (spS f) [] E As) (jk f fs):=fun G0 H0 G H σ ρ Q d e q k=>by obtain ⟨ds,q1,q2⟩:=bind_some q;exact ha _ _ _ _ _ _ _ _ e q1 fun vs G1 H1 x1 r1=>⟨G1,ds,d,x1.gh,by rw [yK];exact r1,q2,fun v G2 H2 x2 r2=>k v G2 H2 (x1.trans x2) r2⟩
theorem jlO {f:List D->Option (List D)} {E:XK} (ha:AOk As fs):EOkO (jkU (spO f) [] E As) (jk f fs):=fun G0 H0 G H σ ρ Q d e q k=>by obtain ⟨ds,q1,q2⟩:=bind_some q;exact ha _ _ _ _ _ _ _ _ e q1 fun vs G1 H1 x1 r1=>⟨G1,ds,d,x1.gh,by rw [yK];exact r1,q2,fun a us G2 H2 x2 hn hg hh r2=>k a us G2 H2 (x1.trans x2) (x1.hh.free hn) hg hh r2⟩
end
inductive Res where
 | next (ρ:eg) | ret (d:D) | retO (ds:List D) | brk (ρ:eg) | cnt (ρ:eg) | fail
def ResOk (G0 H0 Gc:Hp) (r:Res) (E:Ends):Prop:=match r with
 | .next ρ=>∀G H σ,Same Gc G->EnvOk G0 H0 G H σ ρ->E.nx σ H
 | .brk ρ=>∀G H σ,Same Gc G->EnvOk G0 H0 G H σ ρ->E.bk σ H
 | .cnt ρ=>∀G H σ,Same Gc G->EnvOk G0 H0 G H σ ρ->E.ct σ H
 | .ret d=>∀G H v,Ext G0 H0 G H->Rep G v d->E.rt v H
 | .retO ds=>∀G H a vs,Ext G0 H0 G H->H0 a=none->G a=none->H a=some (.lst vs)->Reps G vs ds->E.rt (.ref a) H
 | .fail=>False
theorem ResOk.mono {G0 H0 G G':Hp} {r:Res} {E:Ends} (s:Same G G') (h:ResOk G0 H0 G r E):ResOk G0 H0 G' r E:=by
 cases r with
 | next ρ=>exact fun G2 H2 σ s2 e=>h G2 H2 σ (s.trans s2) e
 | brk ρ=>exact fun G2 H2 σ s2 e=>h G2 H2 σ (s.trans s2) e
 | cnt ρ=>exact fun G2 H2 σ s2 e=>h G2 H2 σ (s.trans s2) e
 | ret d=>exact h
 | retO d=>exact h
 | fail=>exact h
abbrev FS:=eg->Res
def ZJ (t:TS) (F:FS):Prop:=∀G0 H0 G H σ ρ E,EnvOk G0 H0 G H σ ρ->ResOk G0 H0 G (F ρ) E->t E σ H
section
variable {t u:TS} {F F':FS} {te:TE} {fe:eg->Option D} {fo:eg->Option (List D)} {tc:TT} {fc:eg->Option Bool}
def qj:FS:=.next
theorem jol:ZJ jnt qj:=fun G0 H0 G H σ ρ E e h=>h G H σ (.refl _) e
def jz (F F':FS):FS:=fun ρ=>match F ρ with
 | .next ρ'=>F' ρ'
 | r=>r
theorem jrj (h:ZJ t F) (h':ZJ u F'):ZJ (jqp t u) (jz F F'):=fun G0 H0 G H σ ρ E e q=>by
 refine h G0 H0 G H σ ρ _ e ?_;unfold jz at q;cases z:F ρ with
 | next ρ'=>rw [z] at q;exact fun G' H' σ' s' e'=>h' G0 H0 G' H' σ' ρ' E e' (q.mono s')
 | ret d=>rw [z] at q;exact q
 | retO d=>rw [z] at q;exact q
 | brk d=>rw [z] at q;exact q
 | cnt d=>rw [z] at q;exact q
 | fail=>rw [z] at q;exact q
def jcb (fe:eg->Option D):FS:=fun ρ=>match fe ρ with
 | some _=>.next ρ
 | none=>.fail
theorem jpx (h:zR te fe):ZJ (jlc te) (jcb fe):=fun G0 H0 G H σ ρ E e q=>by
 unfold jcb at q;split at q
 . rename_i d z;exact h _ _ _ _ _ _ _ _ e z fun v G' H' x r=>q G' H' σ x.gg (e.grow x)
 . exact q.elim
def qE (fe:eg->Option D):FS:=fun ρ=>match fe ρ with
 | some d=>.ret d
 | none=>.fail
theorem jqM (h:EOk te fe):ZJ (jmc te) (qE fe):=fun G0 H0 G H σ ρ E e q=>by
 unfold qE at q;split at q
 . rename_i d z;exact h _ _ _ _ _ _ _ _ e z fun v G' H' x r=>q G' H' v (e.ext.trans x) r
 . exact q.elim
def zy (fo:eg->Option (List D)):FS:=fun ρ=>match fo ρ with
 | some d=>.retO d
 | none=>.fail
theorem joJ (h:EOkO te fo):ZJ (jmc te) (zy fo):=fun G0 H0 G H σ ρ E e q=>by
 unfold zy at q;split at q
 . rename_i d z;exact h _ _ _ _ _ _ _ _ e z fun a vs G' H' x hn hg hh r=>q G' H' a vs (e.ext.trans x) (e.ext.hh.free hn) hg hh r
 . exact q.elim
def jcD (i:Nat):FS:=fun ρ=>match ρ[i]? with
 | some (.ow ds)=>.retO ds
 | _=>.fail
theorem jod (i:Nat):ZJ (jmc (je1 i)) (jcD i):=fun G0 H0 G H σ ρ E e q=>by
 unfold jcD at q;split at q
 . rename_i ds z;obtain ⟨a,vs,h1,h2,h3,h4,h5⟩:=e.ow z;exact ⟨_,h1,q G H a vs e.ext h2 h3 h4 h5⟩
 . exact q.elim
def Qa (fc:eg->Option Bool) (F F':FS):FS:=fun ρ=>match fc ρ with
 | some true=>F ρ
 | some false=>F' ρ
 | none=>.fail
theorem jr2 (hc:TOk tc fc) (h:ZJ t F) (h':ZJ u F'):ZJ (jqV tc t u) (Qa fc F F'):=fun G0 H0 G H σ ρ E e q=>by
 unfold Qa at q;split at q
 . rename_i z;exact hc _ _ _ _ _ _ _ _ e z fun G' H' x=>by rw [if_pos rfl];exact h _ _ _ _ _ _ _ (e.grow x) (q.mono x.gg)
 . rename_i z;exact hc _ _ _ _ _ _ _ _ e z fun G' H' x=>by rw [if_neg Yf];exact h' _ _ _ _ _ _ _ (e.grow x) (q.mono x.gg)
 . exact q.elim
def jM (i:Nat) (fe:eg->Option D):FS:=fun ρ=>match fe ρ with
 | some d=>.next (ρ.set i (.sh d))
 | none=>.fail
theorem jnH (i:Nat) (h:EOk te fe):ZJ (jdA te (ZK i)) (jM i fe):=fun G0 H0 G H σ ρ E e q=>by
 unfold jM at q;split at q
 . rename_i d z;exact h _ _ _ _ _ _ _ _ e z fun v G' H' x r=>q G' H' _ x.gg ((e.grow x).set r)
 . exact q.elim
def Jo (i:Nat) (fo:eg->Option (List D)):FS:=fun ρ=>match fo ρ with
 | some d=>.next (ρ.set i (.ow d))
 | none=>.fail
theorem jjX (i:Nat) (h:EOkO te fo):ZJ (jdA te (ZK i)) (Jo i fo):=fun G0 H0 G H σ ρ E e q=>by
 unfold Jo at q;split at q
 . rename_i d z;exact h _ _ _ _ _ _ _ _ e z fun a vs G' H' x hn hg hh r=>q G' H' _ x.gg (e.setO x hn hg hh r)
 . exact q.elim
def jeB (i:Nat) (F:FS):FS:=fun ρ=>F (frz i ρ)
theorem Ext.back {G G' H:Hp} (sg:Same G G') (gh:Same G' H):∀G2 H2,Ext G' H G2 H2->∃G3,Ext G H G3 H2/\∀v d,zp d=true->Rep G2 v d->Rep G3 v d:=fun G2 H2 x=>by
 refine ⟨fun b=>match G b,G' b with | none,some _=>none | _,_=>G2 b,⟨x.hh,fun b o q=>?_,fun b o q=>?_,fun b o q=>?_⟩,fun v d f r=>r.flat f⟩
 . show (match G b,G' b with | none,some _=>none | _,_=>G2 b)=some o;rw [q,sg b o q];exact x.gg b o (sg b o q)
 . have q':(match G b,G' b with | none,some _=>none | _,_=>G2 b)=some o:=q;split at q'
   . cases q'
   . exact x.gh b o q'
 . have q':(match G b,G' b with | none,some _=>none | _,_=>G2 b)=some o:=q;cases g:G b with
   | some u=>rw [g,sg b u g] at q';have:G2 b=some u:=x.gg b u (sg b u g);rw [this] at q';exact .inl q'
   | none=>
     cases g':G' b with
     | some u=>rw [g,g'] at q';cases q'
     | none=>
       rw [g,g'] at q';rcases x.nw b o q' with w | w
       . rw [g'] at w;cases w
       . exact .inr w
theorem EnvOk.frz {G0 H0 G H:Hp} {σ:St} {ρ:eg} (i:Nat) (e:EnvOk G0 H0 G H σ ρ):∃G',EnvOk G0 H0 G' H σ (L2.frz i ρ)/\Same G G'/\∀G2 H2,Ext G' H G2 H2->∃G3,Ext G H G3 H2/\∀v d,zp d=true->Rep G2 v d->Rep G3 v d:=by
 have fin:∀(ρ':eg) G',EnvOk G0 H0 G' H σ ρ'->Same G G'->∃G',EnvOk G0 H0 G' H σ ρ'/\Same G G'/\∀G2 H2,Ext G' H G2 H2->∃G3,Ext G H G3 H2/\∀v d,zp d=true->Rep G2 v d->Rep G3 v d:=fun ρ' G' e' s=>⟨G',e',s,Ext.back s e'.same⟩;unfold L2.frz;split
 . rename_i ds z;obtain ⟨a,vs,h1,h2,h3,h4,h5⟩:=e.ow z;exact fin _ _ (e.freeze z h1 h4 h5) (.upd h3)
 . rename_i dss z;obtain ⟨a,bs,h1,h2,h3,h4,h5⟩:=e.oo z;obtain ⟨e1,rr⟩:=e.half z h1 h2 h3 h4 h5;have hi:i<ρ.length:=(Yi.mp z).1;have e2:=e1.freeze (i:=i) (by rw [Y2 hi]) h1 h2 rr;rw [List.set_set] at e2;have nd':=yh.mp h3;exact fin _ _ e2 ((jdL e.same).1.trans (.upd (by rw [Zb nd'.1];exact (h4 a Ye).2)))
 . exact fin _ _ e (.refl _)
theorem jq9 (i:Nat) (h:ZJ t F):ZJ t (jeB i F):=fun G0 H0 G H σ ρ E e q=>by obtain ⟨G',e',sg,_⟩:=e.frz i;exact h G0 H0 G' H σ _ E e' (q.mono sg)
def jrB (i:Nat) (fe:eg->Option D):eg->Option D:=fun ρ=>match fe (frz i ρ) with
 | some d=>if zp d then some d else none
 | none=>none
def jqI (i:Nat) (fc:eg->Option Bool):eg->Option Bool:=fun ρ=>fc (frz i ρ)
variable {ta:TE} {fa:eg->Option D}
def QE (i:Nat) (fa:eg->Option D):FS:=fun ρ=>match ρ[i]?,fa ρ with
 | some (.ow ds),some d=>if zx ds.length then .next (ρ.set i (.ow (ds++[d]))) else .fail
 | _,_=>.fail
theorem jrI (i:Nat) (h:EOk ta fa):ZJ (jlc (tBM Fr.K "list" jeS (je1 i) (jb6 ta ji2))) (QE i fa):=fun G0 H0 G H σ ρ E e q=>by
 unfold QE at q;split at q
 . rename_i ds d z1 z2;split at q
   . rename_i hz;obtain ⟨a,vs,h1,h2,h3,h4,h5⟩:=e.ow z1;refine ⟨_,h1,.inl ⟨rfl,vs,.inl (.inl h4)⟩,h _ _ _ _ _ _ _ _ e z2 fun v G' H' x r=>?_⟩;have e':=e.grow x;exact ⟨a,vs,v,rfl,rfl,x.hh _ _ h4,by rw [h5.length];exact Zo hz,q G' _ σ x.gg (e'.put z1 h1 ((h5.mono x.gg).snoc r))⟩
   . exact q.elim
 . exact q.elim
def jkJ (i:Nat):FS:=fun ρ=>match ρ[i]? with
 | some (.ow _)=>.next (ρ.set i (.ow []))
 | _=>.fail
def jqR (i:Nat) (fa fb:eg->Option D):FS:=fun ρ=>match ρ[i]?,fa ρ,fb ρ with
 | some (.ow ds),some (.int k),some d=>if 0<=k/\k<=ds.length/\zx ds.length then .next (ρ.set i (.ow (ds.take k.toNat++d::ds.drop k.toNat))) else .fail
 | _,_,_=>.fail
def jdv (i:Nat) (fk fa:eg->Option D):FS:=fun ρ=>match ρ[i]?,fa ρ,fk ρ with
 | some (.ow ds),some d,some (.int k)=>match ixN ds.length k with
   | some j=>.next (ρ.set i (.ow (ds.set j d)))
   | none=>.fail
 | _,_,_=>.fail
theorem jql {tk:TE} {fk:eg->Option D} (i:Nat) (hk:EOk tk fk) (h:EOk ta fa):ZJ (jdA ta (jqr (je1 i) tk jj6)) (jdv i fk fa):=fun G0 H0 G H σ ρ E e q=>by
 unfold jdv at q;split at q
 . rename_i ds d k z1 z2 z3;split at q
   . rename_i j hj;obtain ⟨a,vs,h1,h2,h3,h4,h5⟩:=e.ow z1;refine h _ _ _ _ _ _ _ _ e z2 fun v G' H' x r=>⟨_,h1,hk _ _ _ _ _ _ _ _ (e.grow x) z3 fun w G2 H2 x2 r2=>?_⟩
     (have hh:=Rep.of_int r2;subst hh)
     have e':=(e.grow x).grow x2;exact ⟨a,vs,k,j,rfl,rfl,(x.trans x2).hh _ _ h4,by rw [h5.length];exact hj,q G2 _ σ (x.trans x2).gg (e'.put z1 h1 ((h5.mono (x.trans x2).gg).set (r.mono x2.gg) j))⟩
   . exact q.elim
 . exact q.elim
end
def GOk (g:TG) (m:D->eg->Option eg):Prop:=∀G0 H0 G H σ ρ v d ρ' (Q:St->Hp->Prop),EnvOk G0 H0 G H σ ρ->Rep G v d->m d ρ=some ρ'->(∀σ',EnvOk G0 H0 G H σ' ρ'->Q σ' H)->g v σ H Q
def jiO (g:TGs) (m:List D->eg->Option eg):Prop:=∀G0 H0 G H σ ρ vs ds ρ' (Q:St->Hp->Prop),EnvOk G0 H0 G H σ ρ->Reps G vs ds->m ds ρ=some ρ'->(∀σ',EnvOk G0 H0 G H σ' ρ'->Q σ' H)->g vs σ H Q
def jx (i:Nat):D->eg->Option eg:=fun d ρ=>some (ρ.set i (.sh d))
def JU:List D->eg->Option eg
 | [],ρ=>some ρ
 | _,_=>none
def jV (m:D->eg->Option eg) (ms:List D->eg->Option eg):List D->eg->Option eg
 | d::ds,ρ=>(m d ρ).bind fun ρ'=>ms ds ρ'
 | [],_=>none
def JS (n:Nat) (ms:List D->eg->Option eg):D->eg->Option eg
 | .tup ds,ρ=>if ds.length=n then ms ds ρ else none
 | _,_=>none
theorem jg1 (i:Nat):GOk (ZK i) (jx i):=fun G0 H0 G H σ ρ v d ρ' Q e r q k=>by cases q;exact k _ (e.set r)
theorem jnA:jiO jpn JU:=fun G0 H0 G H σ ρ vs ds ρ' Q e r q k=>by
 cases r with
 | nil=>cases q;exact ⟨rfl,k _ e⟩
 | cons _ _=>cases q
theorem jle {g:TG} {gs:TGs} {m:D->eg->Option eg} {ms:List D->eg->Option eg} (h:GOk g m) (hs:jiO gs ms):jiO (jn0 g gs) (jV m ms):=fun G0 H0 G H σ ρ vs ds ρ' Q e r q k=>by
 cases r with
 | nil=>cases q
 | cons r t=>obtain ⟨ρ1,q1,q2⟩:=bind_some q;exact ⟨_,_,rfl,h _ _ _ _ _ _ _ _ _ _ e r q1 fun σ' e'=>hs _ _ _ _ _ _ _ _ _ _ e' t q2 k⟩
theorem jnm {n:Nat} {gs:TGs} {ms:List D->eg->Option eg} (hs:jiO gs ms):GOk (jm5 Fr.K n gs) (JS n ms):=fun G0 H0 G H σ ρ v d ρ' Q e r q k=>by
 cases r with
 | tup h r=>
   simp only [JS] at q;split at q
   . rename_i hl;exact ⟨_,_,rfl,.inl (.inl (e.same _ _ h)),by rw [r.length];exact hl,hs _ _ _ _ _ _ _ _ _ _ e r q k⟩
   . cases q
 | _=>cases q
def ji6 (m:D->eg->Option eg) (fe:eg->Option D):FS:=fun ρ=>match (fe ρ).bind fun d=>m d ρ with
 | some ρ'=>.next ρ'
 | none=>.fail
theorem jqA {g:TG} {m:D->eg->Option eg} {te:TE} {fe:eg->Option D} (hg:GOk g m) (h:EOk te fe):ZJ (jdA te g) (ji6 m fe):=fun G0 H0 G H σ ρ E e q=>by
 unfold ji6 at q;split at q
 . rename_i ρ' z;obtain ⟨d,z1,z2⟩:=bind_some z;exact h _ _ _ _ _ _ _ _ e z1 fun v G' H' x r=>hg _ _ _ _ _ _ _ _ _ _ (e.grow x) r z2 fun σ' e'=>q G' H' σ' x.gg e'
 . exact q.elim
def Iter (G1 H1:Hp) (J:It) (ds:List D):Prop:=∀(i:Nat) G H,Same G1 G->Same H1 H->Same G H->
 (∀d,ds[i]?=some d->J.go i H/\∀x H',J.yld i H x H'->∃G',Ext G H G' H'/\Rep G' x d)/\(ds[i]?=none->J.stop i H)
def jiU (wi:TI) (f:eg->Option (List D)):Prop:=∀G0 H0 G H σ ρ (R:It->Hp->Prop) ds,EnvOk G0 H0 G H σ ρ->f ρ=some ds->(∀J G' H',Ext G H G' H'->Iter G' H' J ds->R J H')->wi σ H R
def IOk (wi:TI) (f:eg->Option (List D)):Prop:=∀G0 H0 G H σ ρ (R:It->Hp->Prop) ds,EnvOk G0 H0 G H σ ρ->f ρ=some ds->(∀J G' H',Ext G H G' H'->Iter G' G' J ds->R J H')->wi σ H R
theorem Iter.weak {G H:Hp} {J:It} {ds:List D} (h:Iter G G J ds):Iter G H J ds:=fun i G' H' a b c=>h i G' H' a (a.trans c) c
theorem IOk.t {wi:TI} {f:eg->Option (List D)} (h:IOk wi f):jiU wi f:=fun G0 H0 G H σ ρ R ds e q k=>h _ _ _ _ _ _ _ _ e q fun J G' H' x j=>k J G' H' x j.weak
section
variable {te:TE} {fe:eg->Option D} {ta:TA} {fa:eg->Option (List D)}
def j7 (fe:eg->Option D):eg->Option (List D):=fun ρ=>match fe ρ with
 | some (.lst l)=>some l
 | _=>none
def jbM (fe:eg->Option D):eg->Option (List D):=fun ρ=>match fe ρ with
 | some (.tup l)=>some l
 | _=>none
end
end
end L2
namespace L2
open PySem PySem.Spec PyProof.Rows
section
variable [Fr]
section
variable {te:TE} {fe:eg->Option D} {ta:TA} {fa:eg->Option (List D)}
theorem Reps.none_of {G:Hp} {vs:List V} {ds:List D} {i:Nat} (r:Reps G vs ds) (h:ds[i]?=none):vs.length<=i:=by rw [r.length];exact YR.mp h
theorem jdD {G1 H1:Hp} {a:Addr} {vs:List V} {ds:List D} (h:Rd H1 a (.lst vs)) (r:Reps G1 vs ds):Iter G1 H1 (Itl Fr.K a) ds:=fun i G H s1 s2 s3=>by have hq:Jc Fr.K H a vs:=.inl (h.same s2);refine ⟨fun d hd=>?_,fun hd=>⟨vs,hq,r.none_of hd⟩⟩;obtain ⟨v,h1,h2⟩:=r.get hd;refine ⟨⟨vs,v,hq,h1⟩,fun x H' y=>?_⟩;obtain ⟨e,y⟩:=y;subst e;have z:=y vs hq;rw [h1] at z;cases z;exact ⟨G,.refl s3,h2.mono s1⟩
theorem jj0 {G1 H1:Hp} {a:Addr} {vs:List V} {ds:List D} (h:H1 a=some (.tup vs)) (r:Reps G1 vs ds):Iter G1 H1 (Itt Fr.K a) ds:=fun i G H s1 s2 s3=>by have hq:SqT Fr.K H a vs:=.inl (.inl (s2 _ _ h));refine ⟨fun d hd=>?_,fun hd=>⟨vs,hq,r.none_of hd⟩⟩;obtain ⟨v,h1,h2⟩:=r.get hd;refine ⟨⟨vs,v,hq,h1⟩,fun x H' y=>?_⟩;obtain ⟨e,y⟩:=y;subst e;have z:=y vs hq;rw [h1] at z;cases z;exact ⟨G,.refl s3,h2.mono s1⟩
def rng (lo:Int) (n:Nat):List D:=(List.range n).map fun (i:Nat)=>D.int (lo+(i:Int))
theorem jfE {G1 H1:Hp} {lo:Int} {n:Nat}:Iter G1 H1 (Itr lo n) (rng lo n):=fun i G H s1 s2 s3=>by
 refine ⟨fun d hd=>?_,fun hd=>?_⟩
 . unfold rng at hd;rw [List.getElem?_map] at hd;cases e:(List.range n)[i]? with
   | none=>rw [e] at hd;cases hd
   | some j=>rw [e] at hd;cases hd;obtain ⟨hi,hj⟩:=Yi.mp e;simp at hi hj;subst hj;refine ⟨hi,fun x H' y=>?_⟩;obtain ⟨e1,e2⟩:=y;subst e1 e2;exact ⟨G,.refl s3,.int _⟩
 . have:=YR.mp hd;simp [rng] at this;exact this
theorem Ext.newT {G H:Hp} {t:Addr} {o:HO} (s:Same G H) (hn:H t=none):Ext G H (upd G t o) (upd H t o):=(Ext.new s hn).freeze hn (s.free hn) jC
def jac (l m:List D):List D:=(l.zip m).map fun p=>.tup [p.1,p.2]
theorem jkY {G1 H1:Hp} {a b:Addr} {vs us:List V} {ds es:List D} (h:Rd H1 a (.lst vs)) (h':Rd H1 b (.lst us)) (r:Reps G1 vs ds) (r':Reps G1 us es):Iter G1 H1 (Itz Fr.K a b) (jac ds es):=fun i G H s1 s2 s3=>by
 have hq:Jc Fr.K H a vs:=.inl (h.same s2);have hq':Jc Fr.K H b us:=.inl (h'.same s2);refine ⟨fun d hd=>?_,fun hd=>⟨vs,us,hq,hq',?_⟩⟩
 . unfold jac at hd;rw [List.getElem?_map] at hd;cases e:(ds.zip es)[i]? with
   | none=>rw [e] at hd;cases hd
   | some p=>rw [e] at hd;cases hd;obtain ⟨g1,g2⟩:=YQ.mp e;obtain ⟨v,h1,h2⟩:=r.get g1;obtain ⟨u,h3,h4⟩:=r'.get g2;refine ⟨⟨vs,us,v,u,hq,hq',h1,h3⟩,fun x H' y=>?_⟩;obtain ⟨t,x',y',hn,e1,e2,y1,y2⟩:=y;subst e1 e2;have z1:=y1 vs hq;have z2:=y2 us hq';rw [h1] at z1;rw [h3] at z2;cases z1;cases z2;have x:=Ext.newT (o:=.tup [v,u]) s3 hn;exact ⟨_,x,.tup jC (.cons (h2.mono (s1.trans x.gg)) (.cons (h4.mono (s1.trans x.gg)) .nil))⟩
 . have:=YR.mp hd;simp [jac] at this;rw [r.length,r'.length];omega
def QN (l:List D):List D:=(l.zipIdx).map fun p=>.tup [.int p.2,p.1]
theorem jjl {G1 H1:Hp} {a:Addr} {vs:List V} {ds:List D} (h:Rd H1 a (.lst vs)) (r:Reps G1 vs ds):Iter G1 H1 (Ite Fr.K a) (QN ds):=fun i G H s1 s2 s3=>by
 have hq:Jc Fr.K H a vs:=.inl (h.same s2);refine ⟨fun d hd=>?_,fun hd=>⟨vs,hq,?_⟩⟩
 . unfold QN at hd;rw [List.getElem?_map,List.getElem?_zipIdx] at hd;cases e:ds[i]? with
   | none=>rw [e] at hd;cases hd
   | some p=>rw [e] at hd;cases hd;obtain ⟨v,h1,h2⟩:=r.get e;refine ⟨⟨vs,v,hq,h1⟩,fun x H' y=>?_⟩;obtain ⟨t,x',hn,e1,e2,y1⟩:=y;subst e1 e2;have z1:=y1 vs hq;rw [h1] at z1;cases z1;have x:=Ext.newT (o:=.tup [.int i,v]) s3 hn;refine ⟨_,x,.tup jC (.cons ?_ (.cons (h2.mono (s1.trans x.gg)) .nil))⟩;simp;exact .int _
 . have:=YR.mp hd;simp [QN] at this;rw [r.length];omega
theorem jb4 {ρ:eg} {ds:List D} (h:j7 fe ρ=some ds):fe ρ=some (.lst ds):=by unfold j7 at h;split at h <;> first | (cases h;assumption) | cases h
theorem jgN {ρ:eg} {ds:List D} (h:jbM fe ρ=some ds):fe ρ=some (.tup ds):=by unfold jbM at h;split at h <;> first | (cases h;assumption) | cases h
theorem joC (h:EOk te fe):IOk (jfP Fr.K te) (j7 fe):=fun G0 H0 G H σ ρ R ds e q k=>by refine h _ _ _ _ _ _ _ _ e (jb4 q) fun v G' H' x r=>?_;obtain ⟨_,_,rfl,h,r⟩:=r.of_lst;exact ⟨_,rfl,⟨_,.inl (h.same x.gh)⟩,k _ G' H' x (jdD h r)⟩
theorem jl7 (h:zR te fe):jiU (jfP Fr.K te) (j7 fe):=fun G0 H0 G H σ ρ R ds e q k=>by refine h _ _ _ _ _ _ _ _ e (jb4 q) fun v G' H' x r=>?_;obtain ⟨_,_,rfl,h,r⟩:=r.of_lst;exact ⟨_,rfl,⟨_,.inl h⟩,k _ G' H' x (jdD h r)⟩
theorem jqc (h:EOk te fe):IOk (joM Fr.K te) (jbM fe):=fun G0 H0 G H σ ρ R ds e q k=>by refine h _ _ _ _ _ _ _ _ e (jgN q) fun v G' H' x r=>?_;obtain ⟨_,_,rfl,h,r⟩:=r.of_tup;exact ⟨_,rfl,⟨_,.inl (.inl (x.gh _ _ h))⟩,k _ G' H' x (jj0 h r)⟩
def QW (fa:eg->Option (List D)):eg->Option (List D):=fun ρ=>match fa ρ with
 | some [.int j]=>if -(2 ^ 62)<=j/\j<2 ^ 62 then some (rng 0 j.toNat) else none
 | _=>none
def jkj (fa:eg->Option (List D)):eg->Option (List D):=fun ρ=>match fa ρ with
 | some [.int i,.int j]=>if -(2 ^ 62)<=i/\i<2 ^ 62 /\ -(2 ^ 62)<=j/\j<2 ^ 62 then some (rng i (j-i).toNat) else none
 | _=>none
theorem joL (h:jaN ta fa):IOk (jnU ta) (QW fa):=fun G0 H0 G H σ ρ R ds e q k=>by
 unfold QW at q;split at q
 . rename_i j z;split at q
   . rename_i hb;cases q;refine h _ _ _ _ _ _ _ _ e z fun vs G' H' x r=>?_;cases r with
     | cons r t=>(have hh:=RepT.of_int r;subst hh);cases t;exact ⟨j,rfl,hb.1,hb.2,k _ G' H' x jfE⟩
   . cases q
 . cases q
theorem jpE (h:jaN ta fa):IOk (jnQ ta) (jkj fa):=fun G0 H0 G H σ ρ R ds e q k=>by
 unfold jkj at q;split at q
 . rename_i i j z;split at q
   . rename_i hb;cases q;refine h _ _ _ _ _ _ _ _ e z fun vs G' H' x r=>?_;cases r with
     | cons r t=>(have hh:=RepT.of_int r;subst hh);cases t with | cons r t=>(have hh:=RepT.of_int r;subst hh);cases t;exact ⟨i,j,rfl,hb,k _ G' H' x jfE⟩
   . cases q
 . cases q
def Q4 (fa:eg->Option (List D)):eg->Option (List D):=fun ρ=>match fa ρ with
 | some [.lst l,.lst m]=>some (jac l m)
 | _=>none
theorem jo2 (h:jaN ta fa):jiU (joX Fr.K ta) (Q4 fa):=fun G0 H0 G H σ ρ R ds e q k=>by
 unfold Q4 at q;split at q
 . rename_i l m z;cases q;refine h _ _ _ _ _ _ _ _ e z fun vs G' H' x r=>?_;cases r with
   | cons r t=>cases t with | cons r' t=>cases t;cases r with | lst h1 r1=>cases r' with | lst h2 r2=>exact ⟨_,_,_,_,rfl,.inl h1,.inl h2,k _ G' H' x (jkY h1 h2 r1 r2)⟩
 . cases q
def J7 (fa:eg->Option (List D)):eg->Option (List D):=fun ρ=>match fa ρ with
 | some [.lst l]=>some (QN l)
 | _=>none
theorem job (h:AOk ta fa):IOk (jlz Fr.K ta) (J7 fa):=fun G0 H0 G H σ ρ R ds e q k=>by
 unfold J7 at q;split at q
 . rename_i l z;cases q;refine h _ _ _ _ _ _ _ _ e z fun vs G' H' x r=>?_;cases r with
   | cons r t=>cases t;cases r with | lst h1 r1=>exact ⟨_,_,rfl,.inl (h1.same x.gh),k _ G' H' x (jjl h1 r1)⟩
 . cases q
end
def JO (m:D->eg->Option eg) (B:FS):List D->FS
 | [],ρ=>.next ρ
 | d::ds,ρ=>match m d ρ with
   | none=>.fail
   | some ρ1=>match B ρ1 with
     | .next ρ2=>JO m B ds ρ2
     | .cnt ρ2=>JO m B ds ρ2
     | .brk ρ2=>.next ρ2
     | .ret d=>.ret d
     | .retO l=>.retO l
     | .fail=>.fail
def zT (fi:eg->Option (List D)) (m:D->eg->Option eg) (B:FS):FS:=fun ρ=>match fi ρ with
 | some ds=>JO m B ds ρ
 | none=>.fail
theorem jqO {wi:TI} {fi:eg->Option (List D)} {g:TG} {m:D->eg->Option eg} {tb:TS} {B:FS} (hi:IOk wi fi) (hg:GOk g m) (hb:ZJ tb B):ZJ (jrE wi g tb) (zT fi m B):=fun G0 H0 G H σ ρ E e q=>by
 unfold zT at q;split at q
 . rename_i ds z;refine hi _ _ _ _ _ _ _ _ e z fun J G1 H1 x1 it=>?_;refine ⟨fun i n σ' H'=>n=ds.length-i/\i<=ds.length/\∃G' ρ',Same G1 G'/\EnvOk G0 H0 G' H' σ' ρ'/\ResOk G0 H0 G' (JO m B (ds.drop i) ρ') E,⟨_,rfl,yA _,G1,ρ,.refl _,e.grow x1,q.mono x1.gg⟩,?_⟩;rintro i n σ' H' ⟨rfl,hl,G',ρ',s1,e1,q1⟩;obtain ⟨go,stop⟩:=it i G' H' s1 (s1.trans e1.same) e1.same;by_cases hlt:i<ds.length
   . have hd:ds[i]?=some ds[i]:=Yb hlt;obtain ⟨g1,g2⟩:=go _ hd;rw [Kw hlt] at q1;simp only [JO] at q1;split at q1
     . exact q1.elim
     . rename_i ρ1 hm;refine .inr ⟨g1,fun σ2 H2=>∃G2 ρ2,Same G1 G2/\EnvOk G0 H0 G2 H2 σ2 ρ2/\ResOk G0 H0 G2 (JO m B (ds.drop (i+1)) ρ2) E,fun σ2 H2 ⟨G2,ρ2,a1,a2,a3⟩=>⟨_,by omega,rfl,hlt,G2,ρ2,a1,a2,a3⟩,fun x H2 y=>?_⟩;obtain ⟨G2,x2,r2⟩:=g2 x H2 y;refine hg _ _ _ _ _ _ _ _ _ _ (e1.grow x2) r2 hm fun σ2 e2=>hb _ _ _ _ _ _ _ e2 ?_;have q2:=q1.mono x2.gg;have s2:=s1.trans x2.gg;cases hB:B ρ1 with
       | next ρ2=>rw [hB] at q2;exact fun G3 H3 σ3 s3 e3=>⟨G3,ρ2,s2.trans s3,e3,q2.mono s3⟩
       | cnt ρ2=>rw [hB] at q2;exact fun G3 H3 σ3 s3 e3=>⟨G3,ρ2,s2.trans s3,e3,q2.mono s3⟩
       | brk ρ2=>rw [hB] at q2;exact q2
       | ret d=>rw [hB] at q2;exact q2
       | retO d=>rw [hB] at q2;exact q2
       | fail=>rw [hB] at q2;exact q2
   . have hd:ds[i]?=none:=YR.mpr (by omega);rw [KN (by omega)] at q1;exact .inl ⟨stop hd,q1 G' H' σ' (.refl _) e1⟩
 . exact q.elim
def wh (c:eg->Option Bool) (B:FS):Nat->eg->Option Res
 | 0,_=>none
 | n+1,ρ=>match c ρ with
   | none=>some .fail
   | some false=>some (.next ρ)
   | some true=>match B ρ with
     | .next ρ2=>wh c B n ρ2
     | .cnt ρ2=>wh c B n ρ2
     | .brk ρ2=>some (.next ρ2)
     | .ret d=>some (.ret d)
     | .retO l=>some (.retO l)
     | .fail=>some .fail
open Classical in
def JN (c:eg->Option Bool) (B:FS):FS:=fun ρ=>if h:∃n r,wh c B n ρ=some r then h.choose_spec.choose else .fail
omit [Fr] in
theorem jhy {c:eg->Option Bool} {B:FS}:∀{n k:Nat} {ρ:eg} {r:Res},wh c B n ρ=some r->wh c B (n+k) ρ=some r
 | 0,_,_,_,h=>by cases h
 | n+1,k,ρ,r,h=>by
   rw [Nat.add_right_comm];unfold wh at h ⊢;cases hc:c ρ with
   | none=>rw [hc] at h;exact h
   | some b=>
     rw [hc] at h;cases b with
     | false=>exact h
     | true=>
       dsimp only at h ⊢;cases hB:B ρ with
       | next ρ2=>rw [hB] at h;exact jhy h
       | cnt ρ2=>rw [hB] at h;exact jhy h
       | brk ρ2=>rw [hB] at h;exact h
       | ret d=>rw [hB] at h;exact h
       | retO d=>rw [hB] at h;exact h
       | fail=>rw [hB] at h;exact h
omit [Fr] in
theorem jpj {c:eg->Option Bool} {B:FS} {n k:Nat} {ρ:eg} {r r':Res} (h:wh c B n ρ=some r) (h':wh c B k ρ=some r'):r=r':=by have a:=jhy (k:=k) h;have b:=jhy (k:=n) h';rw [Nat.add_comm k n,a] at b;exact Option.some.inj b
omit [Fr] in
theorem jdT {c:eg->Option Bool} {B:FS} {n:Nat} {ρ:eg} {r:Res} (h:wh c B n ρ=some r):JN c B ρ=r:=by unfold JN;have hx:∃n r,wh c B n ρ=some r:=⟨n,r,h⟩;rw [dif_pos hx];exact jpj hx.choose_spec.choose_spec h
theorem jmG {tc:TT} {c:eg->Option Bool} {tb:TS} {B:FS} (hc:TOk tc c) (hb:ZJ tb B):ZJ (jgv tc tb) (JN c B):=fun G0 H0 G H σ ρ E e q=>by
 by_cases hx:∃n r,wh c B n ρ=some r
 . obtain ⟨n,r,hr⟩:=hx;rw [jdT hr] at q;refine ⟨fun n σ' H'=>∃G' ρ' r,EnvOk G0 H0 G' H' σ' ρ'/\wh c B n ρ'=some r/\ResOk G0 H0 G' r E,⟨n,G,ρ,r,e,hr,q⟩,?_⟩;rintro n σ' H' ⟨G',ρ',r,e1,h1,q1⟩;cases n with
   | zero=>cases h1
   | succ n=>
     unfold wh at h1;split at h1
     . cases h1;exact q1.elim
     . rename_i z;cases h1;exact hc _ _ _ _ _ _ _ _ e1 z fun G2 H2 x=>by rw [if_neg Yf];exact q1 G2 H2 σ' x.gg (e1.grow x)
     . rename_i z;refine hc _ _ _ _ _ _ _ _ e1 z fun G2 H2 x=>?_;rw [if_pos rfl];refine ⟨fun σ2 H2=>∃G' ρ' r,EnvOk G0 H0 G' H2 σ2 ρ'/\wh c B n ρ'=some r/\ResOk G0 H0 G' r E,fun σ2 H2 w=>⟨n,yL n,w⟩,hb _ _ _ _ _ _ _ (e1.grow x) ?_⟩;have q2:=q1.mono x.gg;cases hB:B ρ' with
       | next ρ2=>rw [hB] at h1;exact fun G3 H3 σ3 s3 e3=>⟨G3,ρ2,r,e3,h1,q2.mono s3⟩
       | cnt ρ2=>rw [hB] at h1;exact fun G3 H3 σ3 s3 e3=>⟨G3,ρ2,r,e3,h1,q2.mono s3⟩
       | brk ρ2=>rw [hB] at h1;cases h1;exact q2
       | ret d=>rw [hB] at h1;cases h1;exact q2
       | retO d=>rw [hB] at h1;cases h1;exact q2
       | fail=>rw [hB] at h1;cases h1;exact q2
 . unfold JN at q;rw [dif_neg hx] at q;exact q.elim
def zE (n:Nat) (ix:List Nat) (ρ:eg):eg:=List.replicate n .un++ix.map fun k=>match ρ[k]? with
 | some (.sh d)=>.sh d
 | _=>.un
theorem jky {G0 H0 G H:Hp} {σ:St} {ρ:eg} (n:Nat) (ix:List Nat) (e:EnvOk G0 H0 G H σ ρ):EnvOk G0 H0 G H (Jn n σ ix) (zE n ix ρ):=by
 have key:∀(i:Nat) s,(zE n ix ρ)[i]?=some s->s=.un\/∃d k,s=.sh d/\n<=i/\ix[i-n]?=some k/\ρ[k]?=some (.sh d):=fun i s h=>by
  unfold zE at h;rcases YW i n with hi | hi
  . rw [Yw ‹"5"›,List.getElem?_replicate] at h;simp [hi] at h;exact .inl h.symm
  . rw [Yy ‹"5"›,List.length_replicate,List.getElem?_map] at h;cases e1:ix[i-n]? with
    | none=>rw [e1] at h;cases h
    | some k=>
      rw [e1] at h;simp only [Yx,Option.some.injEq] at h;split at h
      . rename_i d hd;exact .inr ⟨d,k,h.symm,hi,rfl,hd⟩
      . exact .inl h.symm
 refine ⟨e.ext,by simp [Jn,zE,capt],fun i o s h1 h2=>?_,fun i j o o' s s' b h1 h2 h3 h4 f f'=>?_⟩
 . rcases key i s h2 with rfl | ⟨d,k,rfl,hi,hk,hd⟩
   . exact .un _
   . obtain ⟨v,hv,r⟩:=e.sh hd;unfold Jn at h1;rw [Yy ‹"5"›,List.length_replicate] at h1;unfold capt at h1;rw [List.getElem?_map,hk] at h1;simp only [Yx,Option.some.injEq] at h1;rw [hv] at h1;subst h1;exact .sh r
 . rcases key i _ h2 with z | ⟨d,k,z,_⟩
   . subst z;cases o with | none=>exact f.elim | some v=>cases v <;> exact f.elim
   . subst z;cases o with | none=>exact f.elim | some v=>cases v <;> exact f.elim
def Z3 (m:D->eg->Option eg) (ft:eg->Option Bool) (fe:eg->Option D) (ρ:eg):List D->Option (List D)
 | []=>some []
 | d::ds=>(m d ρ).bind fun ρ1=>(ft ρ1).bind fun b=>if b then (fe ρ1).bind fun y=>(Z3 m ft fe ρ ds).map (y::·) else Z3 m ft fe ρ ds
def JT (fi:eg->Option (List D)) (m:D->eg->Option eg) (ft:eg->Option Bool) (fe:eg->Option D) (n:Nat) (ix:List Nat):eg->Option (List D):=fun ρ=>(fi ρ).bind fun ds=>if zx ds.length then Z3 m ft fe (zE n ix ρ) ds else none
theorem jpG {wi:TI} {fi:eg->Option (List D)} {g:TG} {m:D->eg->Option eg} {tt:TT} {ft:eg->Option Bool} {te:TE} {fe:eg->Option D} (n:Nat) (ix:List Nat) (hi:jiU wi fi) (hg:GOk g m) (ht:TOk tt ft) (he:EOk te fe) :
 EOkO (tLC wi g tt te n ix) (JT fi m ft fe n ix):=fun G0 H0 G H σ ρ Q es e q k=>by
 obtain ⟨ds,q1,q2⟩:=bind_some q;split at q2
 . rename_i hz;refine hi _ _ _ _ _ _ _ _ e q1 fun J G1 H1 x1 it=>?_;refine ⟨fun i n' ys H'=>n'=ds.length-i/\i<=ds.length/\ys.length<=i/\∃G' gs hs,Ext G1 H1 G' H'/\Reps G' ys gs/\Z3 m ft fe (zE n ix ρ) (ds.drop i)=some hs/\gs++hs=es,⟨_,rfl,yA _,Yn _,G1,[],es,.refl x1.gh,.nil,q2,rfl⟩,?_⟩;rintro i n' ys H' ⟨rfl,hl,hy,G',gs,hs,x2,r2,hlc,hes⟩;have hz':=Zo hz;obtain ⟨go,stop⟩:=it i G' H' x2.gg x2.hh x2.gh;by_cases hlt:i<ds.length
   . have hd:ds[i]?=some ds[i]:=Yb hlt;obtain ⟨g1,g2⟩:=go _ hd;rw [Kw hlt] at hlc;simp only [Z3] at hlc;obtain ⟨ρ1,hm,hlc⟩:=bind_some hlc;obtain ⟨b,hb,hlc⟩:=bind_some hlc;refine .inr ⟨g1,by omega,fun ys' H'=>ys'.length<=i+1/\∃G' gs hs,Ext G1 H1 G' H'/\Reps G' ys' gs/\Z3 m ft fe (zE n ix ρ) (ds.drop (i+1))=some hs/\gs++hs=es,fun ys' H' ⟨a0,a⟩=>⟨_,by omega,rfl,hlt,a0,a⟩,fun x H2 y=>?_⟩;obtain ⟨G2,x3,r3⟩:=g2 x H2 y;have e3:EnvOk G0 H0 G2 H2 (Jn n σ ix) (zE n ix ρ):=(jky n ix e).grow ‹"ak"›;refine hg _ _ _ _ _ _ _ _ _ _ e3 r3 hm fun σ2 e4=>ht _ _ _ _ _ _ _ _ e4 hb fun G4 H4 x4=>?_;have x24:=(x2.trans x3).trans x4;cases b with
     | false=>rw [if_neg Yf] at hlc ⊢;exact ⟨by omega,G4,gs,hs,x24,r2.mono (x3.trans x4).gg,hlc,hes⟩
     | true=>rw [if_pos rfl] at hlc ⊢;obtain ⟨y',hy',hlc⟩:=bind_some hlc;obtain ⟨hs',hh,hlc⟩:=map_some hlc;subst hlc;refine he _ _ _ _ _ _ _ _ (e4.grow x4) hy' fun v G5 H5 x5 r5=>⟨by simp;omega,G5,gs++[y'],hs',x24.trans x5,((r2.mono ((x3.trans x4).trans x5).gg).snoc r5),hh,by simpa using hes⟩
   . have hd:ds[i]?=none:=YR.mpr (by omega);rw [KN (by omega)] at hlc;cases hlc;rw [yK] at hes;subst hes;refine .inl ⟨stop hd,by omega,fun p hp=>?_⟩;exact k p ys G' _ ((x1.trans x2).trans (.new x2.gh hp)) ((x1.trans x2).hh.free hp) (x2.gh.free hp) jC r2
 . cases q2
def qB (n:Nat) (ds:List D):eg:=ds.map .sh++List.replicate (n-ds.length) .un
def jaW:Res->Option D
 | .ret d=>some d
 | .retO es=>some (.lst es)
 | .next _=>some .non
 | _=>none
def jdp:Res->Option (List D)
 | .retO es=>some es
 | _=>none
def qQ (k n:Nat) (F:FS) (ds:List D):Option D:=if ds.length=k then jaW (F (qB n ds)) else none
def Je (k n:Nat) (F:FS) (ds:List D):Option (List D):=if ds.length=k then jdp (F (qB n ds)) else none
theorem jhw {G H:Hp} {vs:List V} {ds:List D} {k n:Nat} (s:Same G H) (r:Reps G vs ds) (hk:k=n-vs.length):EnvOk G H G H (vs.map some++List.replicate k none) (qB n ds):=by
 have hl:=r.length;refine ⟨.refl s,by simp [qB,hl,hk],fun i o s' h1 h2=>?_,fun i j o o' s s' b h1 h3 _ _ f _=>?_⟩
 . unfold qB at h2;rcases YW i ds.length with hi | hi
   . rw [Yw ‹"5"›,List.getElem?_map] at h2;rw [Yw (by simpa [hl] using hi),List.getElem?_map] at h1;have hd:ds[i]?=some ds[i]:=Yb hi;obtain ⟨v,g1,g2⟩:=r.get hd;rw [g1] at h1;rw [hd] at h2;cases h1;cases h2;exact .sh g2
   . rw [Yy ‹"5"›,List.getElem?_replicate] at h2;split at h2
     . cases h2;exact .un _
     . cases h2
 . exfalso;unfold qB at h3;rcases YW i ds.length with hi | hi
   . rw [Yw ‹"5"›,List.getElem?_map] at h3;have hd:ds[i]?=some ds[i]:=Yb hi;rw [hd] at h3;cases h3;cases o with | none=>exact f.elim | some v=>cases v <;> exact f.elim
   . rw [Yy ‹"5"›,List.getElem?_replicate] at h3;split at h3
     . cases h3;cases o with | none=>exact f.elim | some v=>cases v <;> exact f.elim
     . cases h3
theorem jri {k n:Nat} {F:FS} {vs:List V} {H:Hp} {Q:VK} {E:XK} (q:spS (qQ k n F) vs H Q E):vs.length=k:=by
 obtain ⟨G,ds,d,s,r,hf,fin⟩:=q;unfold qQ at hf;split at hf
 . rename_i h;rw [r.length];exact h
 . cases hf
theorem jrd {k n:Nat} {F:FS} {vs:List V} {H:Hp} {Q:VK} {E:XK} (q:spO (Je k n F) vs H Q E):vs.length=k:=by
 obtain ⟨G,ds,d,s,r,hf,fin⟩:=q;unfold Je at hf;split at hf
 . rename_i h;rw [r.length];exact h
 . cases hf
theorem jn8 {t:TS} {F:FS} {a n k:Nat} {vs:List V} {H:Hp} {Q:VK} {E:XK} (h:ZJ t F) (hk:k=n-vs.length) (q:spS (qQ a n F) vs H Q E):t { nx:=fun _ H'=>Q .non H',rt:=Q } (vs.map some++List.replicate k none) H:=by
 obtain ⟨G,ds,d,s,r,hf,fin⟩:=q;refine h G H G H _ _ _ (jhw s r hk) ?_;unfold qQ at hf;split at hf
 . cases z:F (qB n ds) with
   | next ρ=>rw [z] at hf;cases hf;exact fun G' H' σ _ e=>fin _ G' H' e.ext .non
   | ret d=>rw [z] at hf;cases hf;exact fun G' H' v x r=>fin v G' H' x r
   | retO es=>rw [z] at hf;cases hf;exact fun G' H' a us x hn hg hh r=>fin _ _ H' (x.freeze hn hg hh) (.lst (.inl jC) (r.mono (.upd hg)))
   | brk _=>rw [z] at hf;cases hf
   | cnt _=>rw [z] at hf;cases hf
   | fail=>rw [z] at hf;cases hf
 . cases hf
theorem jo9 {t:TS} {F:FS} {a n k:Nat} {vs:List V} {H:Hp} {Q:VK} {E:XK} (h:ZJ t F) (hk:k=n-vs.length) (q:spO (Je a n F) vs H Q E):t { nx:=fun _ H'=>Q .non H',rt:=Q } (vs.map some++List.replicate k none) H:=by
 obtain ⟨G,ds,d,s,r,hf,fin⟩:=q;refine h G H G H _ _ _ (jhw s r hk) ?_;unfold Je at hf;split at hf
 . cases z:F (qB n ds) with
   | retO es=>rw [z] at hf;cases hf;exact fun G' H' a us x hn hg hh r=>fin a us G' H' x hn hg hh r
   | _=>rw [z] at hf;cases hf
 . cases hf
end
end L2
namespace L2
open PySem PySem.Spec PyProof.Rows
def QP:List D->Option (List Int)
 | []=>some []
 | .int i::l=>(QP l).map (i::·)
 | _=>none
theorem Qb:∀ns:List Int,QP (ns.map D.int)=some ns
 | []=>rfl
 | n::ns=>by simp [QP,Qb ns]
theorem JH:∀{l:List D} {ns:List Int},QP l=some ns->l=ns.map D.int
 | [],_,h=>by cases h;rfl
 | .int i::l,ns,h=>by obtain ⟨ms,h1,h2⟩:=map_some h;subst h2;rw [JH h1];rfl
 | .bl _::_,_,h=>by cases h
 | .non::_,_,h=>by cases h
 | .str _::_,_,h=>by cases h
 | .lst _::_,_,h=>by cases h
 | .tup _::_,_,h=>by cases h
 | .scr _::_,_,h=>by cases h
def jdx:List D->Option (List Bool)
 | []=>some []
 | .bl i::l=>(jdx l).map (i::·)
 | _=>none
theorem Zg:∀ns:List Bool,jdx (ns.map D.bl)=some ns
 | []=>rfl
 | n::ns=>by simp [jdx,Zg ns]
theorem jbn:∀{l:List D} {ns:List Bool},jdx l=some ns->l=ns.map D.bl
 | [],_,h=>by cases h;rfl
 | .bl i::l,ns,h=>by obtain ⟨ms,h1,h2⟩:=map_some h;subst h2;rw [jbn h1];rfl
 | .int _::_,_,h=>by cases h
 | .non::_,_,h=>by cases h
 | .str _::_,_,h=>by cases h
 | .lst _::_,_,h=>by cases h
 | .tup _::_,_,h=>by cases h
 | .scr _::_,_,h=>by cases h
def jfe:List Int->Option Int
 | []=>none
 | x::l=>match jfe l with
   | none=>some x
   | some y=>some (if y<x then y else x)
def jfp:List Int->Option Int
 | []=>none
 | x::l=>match jfp l with
   | none=>some x
   | some y=>some (if x<y then y else x)
theorem jgc:∀{l:List Int},jfe l=none->l=[]
 | [],_=>rfl
 | x::l,h=>by unfold jfe at h;split at h <;> cases h
theorem je9:∀{l:List Int},jfp l=none->l=[]
 | [],_=>rfl
 | x::l,h=>by unfold jfp at h;split at h <;> cases h
theorem jel:∀{l:List Int} {m:Int},jfe l=some m->m∈l/\∀a∈l,m<=a
 | [],_,h=>by cases h
 | x::l,m,h=>by
   unfold jfe at h;split at h
   . rename_i z;cases h;rw [jgc z];simp
   . rename_i y z;cases h;obtain ⟨h1,h2⟩:=jel z;refine ⟨by split <;> simp [h1],fun a ha=>?_⟩;rcases Yl.mp ha with rfl | ha
     . split <;> omega
     . have:=h2 a ha;split <;> omega
theorem jex:∀{l:List Int} {m:Int},jfp l=some m->m∈l/\∀a∈l,a<=m
 | [],_,h=>by cases h
 | x::l,m,h=>by
   unfold jfp at h;split at h
   . rename_i z;cases h;rw [je9 z];simp
   . rename_i y z;cases h;obtain ⟨h1,h2⟩:=jex z;refine ⟨by split <;> simp [h1],fun a ha=>?_⟩;rcases Yl.mp ha with rfl | ha
     . split <;> omega
     . have:=h2 a ha;split <;> omega
section
variable [Fr]
theorem RepTs.one {G H:Hp} {xs:List V} {d:D} (h:RepTs G H xs [d]):∃v,xs=[v]/\RepT G H v d:=by cases h with | cons r t=>cases t;exact ⟨_,rfl,r⟩
theorem RepTs.two {G H:Hp} {xs:List V} {d e:D} (h:RepTs G H xs [d,e]):∃v u,xs=[v,u]/\RepT G H v d/\RepT G H u e:=by cases h with | cons r t=>cases t with | cons r' t=>cases t;exact ⟨_,_,rfl,r,r'⟩
section
variable {As:TA} {fs:eg->Option (List D)} {ta:TE} {fa:eg->Option D}
def JP:List D->Option D
 | [.lst l]=>some (.int l.length)
 | [.tup l]=>some (.int l.length)
 | [.scr l]=>some (.int l.length)
 | [.str z]=>if z.length<=sizeLine then some (.int z.length) else none
 | _=>none
theorem jjL {ds:List D} {d:D} (q:JP ds=some d):(∃l,ds=[.lst l]/\D.int l.length=d)\/(∃l,ds=[.tup l]/\D.int l.length=d)\/(∃l,ds=[.scr l]/\D.int l.length=d)\/∃z,ds=[.str z]/\z.length<=sizeLine/\D.int z.length=d:=by
 cases ds with
 | nil=>exact qe q
 | cons x t=>
   cases t with
   | cons y t=>cases x <;> exact qe q
   | nil=>
     cases x with
     | lst l=>exact .inl ⟨l,rfl,Option.some.inj q⟩
     | tup l=>exact .inr (.inl ⟨l,rfl,Option.some.inj q⟩)
     | scr l=>exact .inr (.inr (.inl ⟨l,rfl,Option.some.inj q⟩))
     | str z=>
       by_cases c:z.length<=sizeLine
       . exact .inr (.inr (.inr ⟨z,rfl,c,Option.some.inj ((if_pos c).symm.trans q)⟩))
       . exact qe ((if_neg c).symm.trans q)
     | _=>exact qe q
theorem jrn:jdz (fun xs H Q=>(∃p ys,xs=[.ref p]/\(Jc Fr.K H p ys\/SqT Fr.K H p ys)/\Q (.int ys.length) H)\/∃z,xs=[.str z]/\z.length<=sizeLine/\Q (.int z.length) H) JP:=fun G H xs ds d Q s rr q k=>by
 rcases jjL q with ⟨l,rfl,rfl⟩ | ⟨l,rfl,rfl⟩ | ⟨l,rfl,rfl⟩ | ⟨z,rfl,hz,rfl⟩
 . obtain ⟨v,rfl,r⟩:=rr.one;cases r with | lst h r=>exact .inl ⟨_,_,rfl,.inl (.inl h),by rw [r.length];exact k _ G H (.refl s) (.int _)⟩
 . obtain ⟨v,rfl,r⟩:=rr.one;cases r with | tup h r=>exact .inl ⟨_,_,rfl,.inr (.inl (.inl h)),by rw [r.length];exact k _ G H (.refl s) (.int _)⟩
 . obtain ⟨v,rfl,r⟩:=rr.one;cases r with | scr h=>exact .inl ⟨_,_,rfl,.inl h,by rw [Yd];exact k _ G H (.refl s) (.int _)⟩
 . obtain ⟨v,rfl,r⟩:=rr.one
   (have hh:=RepT.of_str r;subst hh)
   exact .inr ⟨_,rfl,hz,k _ G H (.refl s) (.int _)⟩
def Zr:List D->Option (List D)
 | [.lst l]=>some l
 | [.tup l]=>some l
 | _=>none
theorem joH:jhX (fun xs H Q=>∃p ys,xs=[.ref p]/\(Jc Fr.K H p ys\/SqT Fr.K H p ys)/\∀l,H l=none->Q (.ref l) (upd H l (.lst ys))) Zr:=fun G H xs ds d Q s rr q k=>by
 unfold Zr at q;split at q
 . cases q;obtain ⟨v,rfl,r⟩:=rr.one;cases r with | lst h r=>exact ⟨_,_,rfl,.inl (.inl h),fun l hl=>k l _ G _ (.new s hl) hl (s.free hl) jC r⟩
 . cases q;obtain ⟨v,rfl,r⟩:=rr.one;cases r with | tup h r=>exact ⟨_,_,rfl,.inr (.inl (.inl h)),fun l hl=>k l _ G _ (.new s hl) hl (s.free hl) jC r⟩
 . cases q
def jns:List D->Option D
 | [.lst l]=>some (.tup l)
 | _=>none
def Js:List D->Option D
 | [.lst l]=>(QP l).map fun ns=>.int ns.sum
 | _=>none
theorem jqs:jdz (fun xs H Q=>∃(p:Addr) (ns:List Int),xs=[.ref p]/\Jc Fr.K H p (ns.map V.int)/\Q (.int ns.sum) H) Js:=fun G H xs ds d Q s rr q k=>by
 unfold Js at q;split at q
 . obtain ⟨ns,q1,q2⟩:=map_some q;subst q2;obtain ⟨v,rfl,r⟩:=rr.one;obtain ⟨_,_,rfl,h,r⟩:=r.of_lst;rw [JH q1] at r;rw [r.ints] at h;exact ⟨_,ns,rfl,.inl h,k _ G H (.refl s) (.int _)⟩
 . cases q
def jiJ:List D->Option D
 | [.lst l]=>(jdx l).map fun ns=>.bl (ns.all id)
 | _=>none
theorem jrv:jdz (fun xs H Q=>∃(p:Addr) (ns:List Bool),xs=[.ref p]/\Jc Fr.K H p (ns.map V.bl)/\Q (.bl (ns.all id)) H) jiJ:=fun G H xs ds d Q s rr q k=>by
 unfold jiJ at q;split at q
 . obtain ⟨ns,q1,q2⟩:=map_some q;subst q2;obtain ⟨v,rfl,r⟩:=rr.one;obtain ⟨_,_,rfl,h,r⟩:=r.of_lst;rw [jbn q1] at r;rw [r.bls] at h;exact ⟨_,ns,rfl,.inl h,k _ G H (.refl s) (.bl _)⟩
 . cases q
def ZW:List D->Option D
 | [.int i,.int j]=>some (.int (if j<i then j else i))
 | _=>none
def ZU:List D->Option D
 | [.int i,.int j]=>some (.int (if j>i then j else i))
 | _=>none
theorem jox:jdz (fun xs H Q=>∃i j,xs=[.int i,.int j]/\Q (.int (if j<i then j else i)) H) ZW:=fun G H xs ds d Q s rr q k=>by
 unfold ZW at q;split at q
 . cases q;obtain ⟨v,u,rfl,r,r'⟩:=rr.two
   (have hh:=RepT.of_int r;subst hh)
   (have hh:=RepT.of_int r';subst hh)
   exact ⟨_,_,rfl,k _ G H (.refl s) (.int _)⟩
 . cases q
theorem jo0:jdz (fun xs H Q=>∃i j,xs=[.int i,.int j]/\Q (.int (if j>i then j else i)) H) ZU:=fun G H xs ds d Q s rr q k=>by
 unfold ZU at q;split at q
 . cases q;obtain ⟨v,u,rfl,r,r'⟩:=rr.two
   (have hh:=RepT.of_int r;subst hh)
   (have hh:=RepT.of_int r';subst hh)
   exact ⟨_,_,rfl,k _ G H (.refl s) (.int _)⟩
 . cases q
def jdJ:List D->Option D
 | [.lst l]=>(QP l).bind fun ns=>(jfe ns).map .int
 | _=>none
def jge:List D->Option D
 | [.lst l]=>(QP l).bind fun ns=>(jfp ns).map .int
 | _=>none
theorem joc:jdz (fun xs H Q=>∃(p:Addr) (ns:List Int),xs=[.ref p]/\Jc Fr.K H p (ns.map V.int)/\0<ns.length/\∀M,M∈ns->(∀a∈ns,M<=a)->Q (.int M) H) jdJ:=fun G H xs ds d Q s rr q k=>by
 unfold jdJ at q;split at q
 . obtain ⟨ns,q1,q2⟩:=bind_some q;obtain ⟨m,q4,q3⟩:=map_some q2;subst q3;obtain ⟨v,rfl,r⟩:=rr.one;obtain ⟨m1,m2⟩:=jel q4;obtain ⟨_,_,rfl,h,r⟩:=r.of_lst;rw [JH q1] at r;rw [r.ints] at h;refine ⟨_,ns,rfl,.inl h,List.length_pos_of_mem m1,fun M h1 h2=>?_⟩;have e:M=m:=by have:=h2 m m1;have:=m2 M h1;omega
   subst e;exact k _ G H (.refl s) (.int _)
 . cases q
theorem jpk:jdz (fun xs H Q=>∃(p:Addr) (ns:List Int),xs=[.ref p]/\Jc Fr.K H p (ns.map V.int)/\0<ns.length/\∀M,M∈ns->(∀a∈ns,a<=M)->Q (.int M) H) jge:=fun G H xs ds d Q s rr q k=>by
 unfold jge at q;split at q
 . obtain ⟨ns,q1,q2⟩:=bind_some q;obtain ⟨m,q4,q3⟩:=map_some q2;subst q3;obtain ⟨v,rfl,r⟩:=rr.one;obtain ⟨m1,m2⟩:=jex q4;obtain ⟨_,_,rfl,h,r⟩:=r.of_lst;rw [JH q1] at r;rw [r.ints] at h;refine ⟨_,ns,rfl,.inl h,List.length_pos_of_mem m1,fun M h1 h2=>?_⟩;have e:M=m:=by have:=h2 m m1;have:=m2 M h1;omega
   subst e;exact k _ G H (.refl s) (.int _)
 . cases q
def joN:List D->Option D
 | [.int i]=>some (.int i)
 | [.bl b]=>some (.int (if b then 1 else 0))
 | _=>none
theorem jrq:jdz (fun xs H Q=>(∃i,xs=[.int i]/\Q (.int i) H)\/∃k,xs=[.bl k]/\Q (.int (if k then 1 else 0)) H) joN:=fun G H xs ds d Q s rr q k=>by
 unfold joN at q;split at q
 . cases q;obtain ⟨v,rfl,r⟩:=rr.one
   (have hh:=RepT.of_int r;subst hh)
   exact .inl ⟨_,rfl,k _ G H (.refl s) (.int _)⟩
 . cases q;obtain ⟨v,rfl,r⟩:=rr.one
   (have hh:=RepT.of_bl r;subst hh)
   exact .inr ⟨_,rfl,k _ G H (.refl s) (.int _)⟩
 . cases q
def dIs:D->D->Option D
 | .bl a,.bl b=>some (.bl (decide (a=b)))
 | _,_=>none
def jnl:D->D->Option D
 | .bl a,.bl b=>some (.bl (!decide (a=b)))
 | _,_=>none
def vOf:D->V
 | .int i=>.int i
 | .bl b=>.bl b
 | .str z=>.str z
 | _=>.non
theorem RepT.v {G H:Hp} {v:V} {d:D} (r:RepT G H v d) (f:zp d=true):v=vOf d:=by cases r <;> first | rfl | cases f
theorem Rep.v {G:Hp} {v:V} {d:D} (r:Rep G v d) (f:zp d=true):v=vOf d:=by cases r <;> first | rfl | cases f
theorem jaA {d:D} (f:zp d=true):jf4 (vOf d)=true:=by cases d <;> first | rfl | cases f
def jbT (xs:List D) (lo hi:Option Int):List D:=(xs.drop (HT.sIx xs.length 0 lo)).take ‹"an"›
def POk (t:TO) (f:eg->Option (Option Int)):Prop:=∀G0 H0 G H σ ρ (Q:Option Int->Hp->Prop) b,EnvOk G0 H0 G H σ ρ->f ρ=some b->(∀G' H',Ext G H G' H'->Q b H')->t σ H Q
def pNo:eg->Option (Option Int):=fun _=>some none
def pSo (fa:eg->Option D):eg->Option (Option Int):=fun ρ=>match fa ρ with
 | some (.int i)=>some (some i)
 | _=>none
theorem jr5:POk jhR pNo:=fun G0 H0 G H σ ρ Q b e q k=>by cases q;exact k G H (.refl e.same)
theorem jrW (h:zR ta fa):POk (jnS ta) (pSo fa):=fun G0 H0 G H σ ρ Q b e q k=>by
 unfold pSo at q;split at q
 . rename_i i z;cases q;refine h _ _ _ _ _ _ _ _ e z fun v G' H' x r=>?_
   (have hh:=RepT.of_int r;subst hh)
   exact ⟨_,rfl,k G' H' x⟩
 . cases q
def eSl (fa:eg->Option D) (fl fh:eg->Option (Option Int)):eg->Option (List D):=fun ρ=>match fa ρ,fl ρ,fh ρ with
 | some (.lst l),some lo,some hi=>some (jbT l lo hi)
 | some (.scr ns),some lo,some hi=>some (jbT (ns.map .int) lo hi)
 | _,_,_=>none
theorem jsh {tl th:TO} {fl fh:eg->Option (Option Int)} (h:zR ta fa) (hl:POk tl fl) (hh:POk th fh):EOkO (tSl (joh Fr.K) ta tl th) (eSl fa fl fh):=fun G0 H0 G H σ ρ Q ds e q k=>by
 unfold eSl at q;split at q
 . rename_i l lo hi z1 z2 z3;cases q;refine h _ _ _ _ _ _ _ _ e z1 fun v G1 H1 x1 r=>hl _ _ _ _ _ _ _ _ (e.grow x1) z2 fun G2 H2 x2=>hh _ _ _ _ _ _ _ _ ((e.grow x1).grow x2) z3 fun G3 H3 x3=>?_;obtain ⟨_,_,rfl,h,r⟩:=r.of_lst;have x:=(x1.trans x2).trans x3;have r3:=r.mono (x2.trans x3).gg;refine ⟨_,_,rfl,.inl (h.same (x2.trans x3).hh),fun p hp=>k p _ G3 _ (x.trans (.new x3.gh hp)) (x.hh.free hp) (x3.gh.free hp) jC ?_⟩;unfold jiL jbT;rw [r.length];exact (r3.drop _).take _
 . rename_i ns lo hi z1 z2 z3;cases q;refine h _ _ _ _ _ _ _ _ e z1 fun v G1 H1 x1 r=>hl _ _ _ _ _ _ _ _ (e.grow x1) z2 fun G2 H2 x2=>hh _ _ _ _ _ _ _ _ ((e.grow x1).grow x2) z3 fun G3 H3 x3=>?_;obtain ⟨_,rfl,h⟩:=r.of_scr;have x:=(x1.trans x2).trans x3;refine ⟨_,_,rfl,(x2.trans x3).hh.seq h,fun p hp=>k p _ G3 _ (x.trans (.new x3.gh hp)) (x.hh.free hp) (x3.gh.free hp) jC ?_⟩;unfold jiL jbT;rw [Yd,Yd];exact ((Reps.of_ints ns).drop _).take _
 . cases q
def QF (T:String):D->Option Bool
 | .int _=>some (T == "int")
 | .bl _=>some (T == "bool" || T == "int")
 | .non=>some false
 | .str _=>some (T == "str")
 | .lst _=>some (T == "list")
 | .tup _=>some (T == "tuple")
 | .scr _=>none
 | .dic _ _=>none
def jgo (T:String) (fa:eg->Option D):eg->Option D:=fun ρ=>(fa ρ).bind fun d=>(QF T d).map .bl
def eLZ (fs:eg->Option (List D)):eg->Option (List D):=fun ρ=>match fs ρ with
 | some [.lst l,.lst m]=>if zx l.length then some (jac l m) else none
 | _=>none
theorem jss (h:jaN As fs):EOkO (jcZ Fr.K As) (eLZ fs):=fun G0 H0 G H σ ρ Q ds e q k=>by
 unfold eLZ at q;split at q
 . rename_i l m z;split at q
   . rename_i hz;cases q;refine h _ _ _ _ _ _ _ _ e z fun vs G1 H1 x1 rr=>?_;obtain ⟨v,u,rfl,r1,r2⟩:=rr.two;cases r1 with
     | @lst a vs l h1 r1=>
       cases r2 with
       | @lst b us m h2 r2=>
         refine ⟨a,b,vs,us,rfl,.inl h1,.inl h2,by rw [r1.length];exact Zo hz,fun c ts H' hc hts hcn hnd tL hoth hcl htup=>?_⟩;have G2:∃G2:Hp,G2=fun x=>if x∈ts then H' x else G1 x:=⟨_,rfl⟩
         obtain ⟨G2,eG2⟩:=G2;have inT:∀x,x∈ts->G2 x=H' x:=fun x hx=>by rw [eG2];exact if_pos hx
         have outT:∀x,x∉ts->G2 x=G1 x:=fun x hx=>by rw [eG2];exact if_neg hx
         have sG:Same G1 G2:=fun x o w=>by rw [outT x fun z=>by have:=hts x z;rw [x1.gh x o w] at this;cases this];exact w
         have sH:Same H1 H':=fun x o w=>by rw [hoth x (jE w hc) fun z=>by have:=hts x z;rw [w] at this;cases this];exact w
         have x2:Ext G1 H1 G2 H':=⟨sH,sG,fun x o w=>by
          by_cases hx:x∈ts
          . rw [inT x hx] at w;exact w
          . rw [outT x hx] at w;exact sH x o (x1.gh x o w),fun x o w=>by
          by_cases hx:x∈ts
          . exact .inr (hts x hx)
          . rw [outT x hx] at w;exact .inl w⟩
         have gc:G2 c=none:=by rw [outT c hcn];exact x1.gh.free hc
         refine k c _ G2 H' (x1.trans x2) (x1.hh.free hc) gc hcl ?_;have len:(ts.map V.ref).length=(jac l m).length:=by simp [jac,tL,r1.length,r2.length]
         have build:∀(vs:List V) (ds:List D),vs.length=ds.length->(∀(i:Nat) v d,vs[i]?=some v->ds[i]?=some d->Rep G2 v d)->Reps G2 vs ds:=by
          intro vs;induction vs with
          | nil=>intro ds hl _;cases ds with | nil=>exact .nil | cons _ _=>simp at hl
          | cons v vs ih=>
            intro ds hl hh;cases ds with
            | nil=>simp at hl
            | cons d ds=>exact .cons (hh 0 v d rfl rfl) (ih ds (by simpa using hl) fun i v d h1 h2=>hh (i+1) v d (by simpa using h1) (by simpa using h2))
         refine build _ _ len fun i v d g1 g2=>?_;rw [List.getElem?_map] at g1;cases et:ts[i]? with
         | none=>rw [et] at g1;cases g1
         | some t=>
           rw [et] at g1;cases g1;unfold jac at g2;rw [List.getElem?_map] at g2;cases ep:(l.zip m)[i]? with
           | none=>rw [ep] at g2;cases g2
           | some p=>rw [ep] at g2;cases g2;obtain ⟨w1,w2⟩:=YQ.mp ep;obtain ⟨v1,y1,y2⟩:=r1.get w1;obtain ⟨v2,y3,y4⟩:=r2.get w2;have ht:=htup i t v1 v2 et y1 y3;exact .tup (by rw [inT t (Yz et)];exact ht) (.cons (y2.mono sG) (.cons (y4.mono sG) .nil))
   . cases q
 . cases q
end
def eqB (x y:D):Option Bool:=if zp x=true then (if zp y=true then some (eqV (vOf x) (vOf y)) else none) else none
def jcR (f:D->D->Option Bool):List D->List D->Option Bool
 | x::l,y::m=>(f x y).bind fun b=>(jcR f l m).map (b && ·)
 | _,_=>some true
def eqF:Nat->D->D->Option Bool
 | n+1,.lst l,.lst m=>if l.length=m.length then jcR (eqF n) l m else some false
 | n+1,.tup l,.tup m=>(jcR (eqF n) l m).map (· && l.length == m.length)
 | _,x,y=>eqB x y
def jdM (x y:D):Option Bool:=if zp x && zp y then (if jn4 (vOf x) (vOf y) then some (decide (vOf x=vOf y)) else none) else eqF 40 x y
def jhu:R2:=fun x y H Q=>∃G dx dy b,Same G H/\RepT G H x dx/\RepT G H y dy/\jdM dx dy=some b/\Q (.bl b) H
def jgw:R2:=fun x y H Q=>∃G dx dy b,Same G H/\RepT G H x dx/\RepT G H y dy/\jdM dx dy=some b/\Q (.bl (!b)) H
def dEq:D->D->Option D:=fun x y=>(jdM x y).map .bl
def dNe:D->D->Option D:=fun x y=>(jdM x y).map fun b=>.bl (!b)
theorem jrZ:ROk jhu dEq:=fun G H x y dx dy d Q s rx ry q k=>by obtain ⟨b,q1,q2⟩:=map_some q;subst q2;exact ⟨G,dx,dy,b,s,rx,ry,q1,k _ G H (.refl s) (.bl _)⟩
theorem jsa:ROk jgw dNe:=fun G H x y dx dy d Q s rx ry q k=>by obtain ⟨b,q1,q2⟩:=map_some q;subst q2;exact ⟨G,dx,dy,b,s,rx,ry,q1,k _ G H (.refl s) (.bl _)⟩
def jnw:R2:=fun x y H Q=>∃l b xs zs,x=.ref l/\y=.ref b/\Rd H l (.lst xs)/\Rd H b (.lst zs)/\xs.length+zs.length<=sizeLine/\∀p,H p=none->Q (.ref p) (upd H p (.lst (xs++zs)))
def jdt:D->D->Option (List D)
 | .lst l,.lst m=>if l.length+m.length<=sizeLine then some (l++m) else none
 | _,_=>none
theorem jqw:jpr jnw jdt:=fun G H x y dx dy d Q s rx ry q k=>by
 unfold jdt at q;split at q
 . split at q
   . rename_i hz;cases q;obtain ⟨_,_,rfl,h,r⟩:=rx.of_lst;obtain ⟨_,_,rfl,h',r'⟩:=ry.of_lst;exact ⟨_,_,_,_,rfl,rfl,h,h',by rw [r.length,r'.length];exact hz,fun p hp=>k p _ G _ (.new s hp) hp (s.free hp) jC (r.append r')⟩
   . cases q
 . cases q
end
end L2
namespace L2
open PySem PySem.Spec PyProof.Rows
section
variable {es:List Expr} {env:PySem.Env} {p:Pos}
end
section
variable {X:Cx}
theorem jjv:CallR X (.builtin "len") (fun xs H Q=>(∃p ys,xs=[.ref p] ∧ (Jc X.K H p ys ∨ SqT X.K H p ys) ∧ Q (.int ys.length) H) ∨ ∃z,xs=[.str z] ∧ z.length ≤ sizeLine ∧ Q (.int z.length) H):=call_len_seq.or jeI
theorem jmk:OpR X (binaryOp .Add) jnw:=by
 intro tf s σ H x y v u Q I rx ry h;obtain ⟨l,b,xs,zs,rfl,rfl,hH,hB,hz,q⟩:=h;cases rx;cases ry;obtain ⟨z,tF,n,r,e⟩:=hH.ok I.hok;obtain ⟨z2,its2,n2,r2,e2⟩:=hB.ok I.hok;have hl:=r.length;have hl2:=r2.length;refine PySem.P.add_list e e2 ?_ (by rw [YA,YA];omega);have ea:tF.toArray++its2.toArray=(tF++its2).toArray:=by simp
 rw [ea];exact ⟨.ref _,_,I.lnew (t':=s.toks) (r.append r2) (by rw [YD];omega),rfl,q _ I.fresh⟩
end
def jp7 (k:Int):List Int->List Int
 | []=>[k]
 | x::l=>if k<=x then k::x::l else x::jp7 k l
def jsp (l:List Int):List Int:=l.foldr jp7 []
section
variable {X:Cx}
end
section
variable [Fr]
def jsA:List D->Option (List D)
 | [.lst l]=>(QP l).bind fun ns=>if ns.length<64 then some ((jsp ns).map .int) else none
 | _=>none
def jgb (fs:eg->Option (List D)):eg->Option (List D):=fun ρ=>match fs ρ with
 | some [.lst l]=>(QP l).bind fun ns=>if ns.length<64 then some ((srt ns).map .int) else none
 | _=>none
theorem joR {X:Cx} {As:TA} {fs:eg->Option (List D)} (ha:jaN As fs):EOkO (tCB (fun xs H Q=>∃(a:Addr) (ns:List Int),xs=[.ref a]/\H a=some (jeO X a ns)/\ns.length<64 /\
 ∀(l:Addr) (ks:List Int),H l=none->ks.Pairwise (· < ·)->(∀k,k∈ks ↔ k∈ns)->ks.length<=ns.length->Q (.ref l) (upd H l (.lst (ks.map V.int))))
 (jb6 (tCB (fun xs H Q=>∃(p:Addr) (ns:List Int),xs=[.ref p]/\Jc Fr.K H p (ns.map V.int)/\ns.length<64/\∀a,H a=none->Q (.ref a) (upd H a (jeO X a ns))) As) ji2)) (jgb fs):=fun G0 H0 G H σ ρ Q es e q k=>by
 unfold jgb at q;split at q
 . rename_i l z;obtain ⟨ns,q1,q2⟩:=bind_some q;split at q2
   . rename_i hz;cases q2;refine ha _ _ _ _ _ _ _ _ e z fun vs G1 H1 x1 rr=>?_;obtain ⟨v,rfl,r⟩:=rr.one;obtain ⟨_,_,rfl,h,r⟩:=r.of_lst;rw [JH q1] at r;rw [r.ints] at h;refine ⟨_,ns,rfl,.inl h,hz,fun a ha'=>?_⟩;have x2:Ext G1 H1 G1 (upd H1 a (jeO X a ns)):=.new x1.gh ha';refine ⟨a,ns,rfl,jC,hz,fun l ks hl hp hm hn=>?_⟩;have ek:ks=srt ns:=jcB hp jaa fun j=>by rw [hm j,jeN]
     subst ek;exact k l _ G1 _ ((x1.trans x2).trans (.new x2.gh hl)) ((x1.trans x2).hh.free hl) (x2.gh.free hl) jC (Reps.of_ints _)
   . cases q2
 . cases q
def okT (T:String):Bool:=T == "int" || T == "bool" || T == "str" || T == "list" || T == "tuple"
theorem jl3 {G H:Hp} {x:V} {d:D} {T:String} {b:Bool} (r:RepT G H x d) (q:QF T d=some b) (hT:okT T=true):IsT Fr.K H x T b:=by
 have hT':T = "int" ∨ T="bool" ∨ T="str" ∨ T="list" ∨ T="tuple":=by simpa [okT,or_assoc] using hT
 cases r with
 | int i=>rcases hT' with rfl | rfl | rfl | rfl | rfl <;> (simp [QF] at q;subst q;exact ⟨_,.int i,by rfl⟩)
 | bl i=>rcases hT' with rfl | rfl | rfl | rfl | rfl <;> (simp [QF] at q;subst q;exact ⟨_,.bl i,by rfl⟩)
 | non=>rcases hT' with rfl | rfl | rfl | rfl | rfl <;> (simp [QF] at q;subst q;exact ⟨_,.non,by rfl⟩)
 | str i=>rcases hT' with rfl | rfl | rfl | rfl | rfl <;> (simp [QF] at q;subst q;exact ⟨_,.str i,by rfl⟩)
 | lst h r=>
   rcases h with h | ⟨o,h⟩
   . rcases hT' with rfl | rfl | rfl | rfl | rfl <;> (simp [QF] at q;subst q;exact ⟨_,.lst h,by rfl⟩)
   . rcases hT' with rfl | rfl | rfl | rfl | rfl <;> (simp [QF] at q;subst q;exact ⟨_,.frz h,by rfl⟩)
 | tup h r=>rcases hT' with rfl | rfl | rfl | rfl | rfl <;> (simp [QF] at q;subst q;exact ⟨_,.tup h,by rfl⟩)
 | scr h=>cases q
 | dic h hl r=>cases q
theorem jqi {T:String} {ta:TE} {fa:eg->Option D} (ha:zR ta fa) (hT:okT T=true):EOk (tCB (fun xs H Q=>∃x T b,xs=[x,.ty T]/\IsT Fr.K H x T b/\Q (.bl b) H) (jb6 ta (jb6 (tC (.ty T)) ji2))) (jgo T fa):=fun G0 H0 G H σ ρ Q d e q k=>by obtain ⟨dx,q1,q2⟩:=bind_some q;obtain ⟨b,q4,q3⟩:=map_some q2;subst q3;exact ha _ _ _ _ _ _ _ _ e q1 fun v G' H' x r=>⟨v,T,b,rfl,jl3 r q4 hT,k _ G' H' x (.bl _)⟩
end
section
variable [Fr]
theorem jgm {v:V} (f:jf4 v=true):eqV v v=true:=by cases v <;> first | rfl | exact absurd f Yf | simp [eqV]
theorem Zd {x y:D} {b:Bool} (h:eqB x y=some b):zp x=true/\zp y=true/\b=eqV (vOf x) (vOf y):=by
 unfold eqB at h;by_cases f1:zp x=true
 . by_cases f2:zp y=true
   . rw [if_pos f1,if_pos f2] at h;exact ⟨f1,f2,(Option.some.inj h).symm⟩
   . rw [if_pos f1,if_neg f2] at h;exact qe h
 . rw [if_neg f1] at h;exact qe h
theorem jbV {n:Nat} {dx dy:D} {b:Bool} (h:eqF (n+1) dx dy=some b):(∃l m,dx=.lst l/\dy=.lst m/\(if l.length=m.length then jcR (eqF n) l m else some false)=some b)\/(∃l m,dx=.tup l/\dy=.tup m/\(jcR (eqF n) l m).map (· && l.length == m.length)=some b)\/eqB dx dy=some b:=by
 cases dx with
 | lst l=>
   cases dy with
   | lst m=>exact .inl ⟨l,m,rfl,rfl,h⟩
   | _=>exact qe h
 | tup l=>
   cases dy with
   | tup m=>exact .inr (.inl ⟨l,m,rfl,rfl,h⟩)
   | _=>exact qe h
 | _=>exact .inr (.inr h)
theorem jam {f:D->D->Option Bool}:∀{l m:List D} {b:Bool},jcR f l m=some b->∃e:Nat->Bool,(∀(j:Nat) x y,l[j]?=some x->m[j]?=some y->f x y=some (e j))/\(List.range (min l.length m.length)).all e=b:=by
 intro l;induction l with
 | nil=>intro m b h;cases h;exact ⟨fun _=>true,fun j x y h1 _=>(by rw [Kq] at h1;cases h1),by rw [yi,Nat.zero_min];rfl⟩
 | cons x l ih=>
   intro m b h;cases m with
   | nil=>cases h;exact ⟨fun _=>true,fun j x y _ h2=>(by rw [Kq] at h2;cases h2),by rw [yi,Nat.min_zero];rfl⟩
   | cons y m=>
     obtain ⟨c,h1,h2⟩:=bind_some h;obtain ⟨c',h3,h4⟩:=map_some h2;obtain ⟨e,he,hb⟩:=ih h3;refine ⟨fun j=>Nat.casesOn j c e,fun j u v g1 g2=>?_,?_⟩
     . cases j with
       | zero=>cases g1;cases g2;exact h1
       | succ j=>exact he j u v g1 g2
     . rw [<-h4,<- hb];simp only [YG,Nat.add_min_add_right,List.range_succ_eq_map,List.all_cons,List.all_map];rfl
end
section
variable {X:Cx} {tf:List (Addr×Obj)} {σ:St} {H G:Hp} {s:Shared}
theorem jh8 [Fr] (hK:Fr.K=X.K) (I:Inv X tf σ H s) (sg:Same G H):∀(n:Nat) {v:V} {dx dy:D} {b:Bool},Rep G v dx->Rep G v dy->eqF n dx dy=some b->b=true:=by
 intro n;induction n with
 | zero=>intro v dx dy b rx ry h;obtain ⟨f1,f2,rfl⟩:=Zd (show eqB dx dy=some b from h);rw [<-rx.v f1,<- ry.v f2];exact jgm (by rw [rx.v f1];exact jaA f1)
 | succ n ih=>
   have zz:∀{vs:List V} {l m:List D} {b:Bool},Reps G vs l->Reps G vs m->jcR (eqF n) l m=some b->b=true:=by
    intro vs;induction vs with
    | nil=>intro l m b r1 r2 h;cases r1;cases r2;cases h;rfl
    | cons v vs ihv=>
      intro l m b r1 r2 h;cases r1 with
      | cons a1 t1=>
        cases r2 with
        | cons a2 t2=>obtain ⟨c,h1,h2⟩:=bind_some h;obtain ⟨c',h3,h4⟩:=map_some h2;rw [ih a1 a2 h1,ihv t1 t2 h3] at h4;exact h4.symm
   intro v dx dy b rx ry h;rcases jbV h with ⟨l,m,rfl,rfl,q⟩ | ⟨l,m,rfl,rfl,q⟩ | q
   . obtain ⟨_,_,rfl,h1,r1⟩:=rx.of_lst;obtain ⟨_,_,e0,h2,r2⟩:=ry.of_lst;cases e0;have e:=I.list_inj (.inl (h1.same sg)) (.inl (h2.same sg));subst e;rw [if_pos (show l.length=m.length by rw [<-r1.length,<- r2.length])] at q;exact zz r1 r2 q
   . obtain ⟨_,_,rfl,h1,r1⟩:=rx.of_tup;obtain ⟨_,_,e0,h2,r2⟩:=ry.of_tup;cases e0;rw [h1] at h2;cases h2;have hl:l.length=m.length:=by rw [<-r1.length,<- r2.length]
     obtain ⟨c,h3,h4⟩:=map_some q;rw [zz r1 r2 h3,hl] at h4;simpa using h4.symm
   . obtain ⟨f1,f2,rfl⟩:=Zd q;rw [<-rx.v f1,<- ry.v f2];exact jgm (by rw [rx.v f1];exact jaA f1)
theorem jiq [Fr] {x y:V} {dx dy:D} {b:Bool} {u v:Value} {A:Around} (rx:Rep G x dx) (ry:Rep G y dy) (h:eqB dx dy=some b) (ru:RelV x u) (rv:RelV y v):SeqAt.EqAt A s u v b:=by obtain ⟨f1,f2,rfl⟩:=Zd h;rw [<-rx.v f1,<- ry.v f2];exact jeh ru rv (by rw [rx.v f1];exact jaA f1) (by rw [ry.v f2];exact jaA f2)
theorem jao [Fr] {vs us:List V} {l m:List D} {i1 i2:List Value} {e:Nat->Bool} {A:Around} {n:Nat} (r1:Reps G vs l) (r2:Reps G us m) (v1:Vals vs i1) (v2:Vals us i2)
 (he:∀(j:Nat) x y,l[j]?=some x->m[j]?=some y->eqF n x y=some (e j))
 (ih:∀{x y:V} {dx dy:D} {b:Bool} {u v:Value},Rep G x dx->Rep G y dy->eqF n dx dy=some b->RelV x u->RelV y v->SeqAt.EqAt A s u v b) :
 ∀j (h1:j<i1.toArray.size) (h2:j<i2.toArray.size),SeqAt.EqAt A s i1.toArray[j] i2.toArray[j] (e j):=fun j h1 h2=>by
 have l1:=v1.length;have l2:=v2.length;have hj1:j<vs.length:=by simp at h1;omega
 have hj2:j<us.length:=by simp at h2;omega
 obtain ⟨u1,g1,g2⟩:=v1.get (Yb hj1);obtain ⟨u2,g3,g4⟩:=v2.get (Yb hj2);obtain ⟨d1,k1,k2⟩:=r1.getV (Yb hj1);obtain ⟨d2,k3,k4⟩:=r2.getV (Yb hj2);have e1:i1.toArray[j]=u1:=by have:=Yi.mp g1;simpa using this.2
 have e2:i2.toArray[j]=u2:=by have:=Yi.mp g3;simpa using this.2
 rw [e1,e2];exact ih k2 k4 (he j _ _ k1 k3) g2 g4
theorem jfu [Fr] (hK:Fr.K=X.K) (I:Inv X tf σ H s) {a c:Addr} {vs us:List V} {l m:List D} {b:Bool} {n:Nat} {A:Around} (h1:Rd H a (.lst vs)) (h2:Rd H c (.lst us)) (r1:Reps G vs l) (r2:Reps G us m) (h:(if l.length=m.length then jcR (eqF n) l m else some false)=some b) (hu:A.units<cLine)
 (ih:∀{x y:V} {dx dy:D} {b:Bool} {u v:Value},Rep G x dx->Rep G y dy->eqF n dx dy=some b->RelV x u->RelV y v->SeqAt.EqAt A.in1 s u v b):SeqAt.RcAt A s (.ref a) (.ref c) b:=by
 obtain ⟨i1,v1,p1,_⟩:=I.list (.inl h1);obtain ⟨i2,v2,p2,_⟩:=I.list (.inl h2);have l1:=v1.length;have l2:=v2.length;have k1:=r1.length;have k2:=r2.length;split at h
 . rename_i hl;obtain ⟨e,he,hb⟩:=jam h;have hb':(List.range i1.toArray.size).all e=b:=by rw [<-hb,<- hl,kb,YA,<- l1,k1]
   rw [<-hb'];exact SeqAt.RcAt.lists p1.isList p2.isList (by simp;omega) hu (jao r1 r2 v1 v2 he ih)
 . rename_i hl;cases h;exact SeqAt.RcAt.lists_lengths p1.isList p2.isList (by simp;omega) hu
theorem jhL [Fr] (hK:Fr.K=X.K) (I:Inv X tf σ H s) {a c:Addr} {vs us:List V} {l m:List D} {b:Bool} {n:Nat} {A:Around} (h1:H a=some (.tup vs)) (h2:H c=some (.tup us)) (r1:Reps G vs l) (r2:Reps G us m) (h:(jcR (eqF n) l m).map (· && l.length == m.length)=some b) (hu:A.units<cLine)
 (ih:∀{x y:V} {dx dy:D} {b:Bool} {u v:Value},Rep G x dx->Rep G y dy->eqF n dx dy=some b->RelV x u->RelV y v->SeqAt.EqAt A.in1 s u v b):SeqAt.RcAt A s (.ref a) (.ref c) b:=by
 obtain ⟨i1,v1,p1,_⟩:=I.tuple (SqT.of h1);obtain ⟨i2,v2,p2,_⟩:=I.tuple (SqT.of h2);have l1:=v1.length;have l2:=v2.length;have k1:=r1.length;have k2:=r2.length;obtain ⟨c,h3,h4⟩:=map_some h;obtain ⟨e,he,hb⟩:=jam h3;have q1:i1.toArray.size=l.length:=by simp;omega
 have q2:i2.toArray.size=m.length:=by simp;omega
 have hb':‹"ap"›=b:=by rw [q1,q2,hb];exact h4
 rw [<-hb'];exact SeqAt.RcAt.tuples (show s.heap.IsTuple a i1.toArray from p1) (show s.heap.IsTuple _ i2.toArray from p2) hu (jao r1 r2 v1 v2 he ih)
theorem jnJ [Fr] (hK:Fr.K=X.K) (I:Inv X tf σ H s) (sg:Same G H):∀(n:Nat) {x y:V} {dx dy:D} {b:Bool} {u v:Value} {A:Around},Rep G x dx->Rep G y dy->eqF n dx dy=some b->RelV x u->RelV y v->A.units+n<cLine->SeqAt.EqAt A s u v b:=by
 intro n;induction n with
 | zero=>intro x y dx dy b u v A rx ry h ru rv _;exact jiq rx ry (show eqB dx dy=some b from h) ru rv
 | succ n ih=>
   intro x y dx dy b u v A rx ry h ru rv hu;have hu1:A.units<cLine:=by omega
   have ih':∀{x y:V} {dx dy:D} {b:Bool} {u v:Value},Rep G x dx->Rep G y dy->eqF n dx dy=some b->RelV x u->RelV y v->SeqAt.EqAt A.in1 s u v b:=fun r1 r2 h ru rv=>ih r1 r2 h ru rv (by show A.units+1+n<cLine;omega);rcases jbV h with ⟨l,m,rfl,rfl,q⟩ | ⟨l,m,rfl,rfl,q⟩ | q
   . cases rx with
     | @lst a vs _ h1 r1=>
       cases ry with
       | @lst c us _ h2 r2=>
         cases ru;cases rv;by_cases hac:a=c
         . subst hac;rw [jh8 hK I sg (n+1) (.lst h1 r1) (.lst h2 r2) h];exact SeqAt.EqAt.same _
         . exact SeqAt.EqAt.of_refs hac (jfu hK I (h1.same sg) (h2.same sg) r1 r2 q hu1 ih')
   . cases rx with
     | @tup a vs _ h1 r1=>
       cases ry with
       | @tup c us _ h2 r2=>
         cases ru;cases rv;by_cases hac:a=c
         . subst hac;rw [jh8 hK I sg (n+1) (.tup h1 r1) (.tup h2 r2) h];exact SeqAt.EqAt.same _
         . exact SeqAt.EqAt.of_refs hac (jhL hK I (sg _ _ h1) (sg _ _ h2) r1 r2 q hu1 ih')
   . exact jiq rx ry q ru rv
end
section
variable {X:Cx}
theorem jpH [Fr] (hK:Fr.K=X.K) {tf:List (Addr×Obj)} {σ:St} {H G:Hp} {s:Shared} (hu:X.A.units+64<cLine) (I:Inv X tf σ H s) (sg:Same G H) {x y:V} {dx dy:D} {b:Bool} {u v:Value} (rx:RepT G H x dx) (ry:RepT G H y dy) (h:eqF 40 dx dy=some b)
 (hf:(zp dx && zp dy)=false) (ru:RelV x u) (rv:RelV y v):SeqAt.RcAt X.A s u v b:=by
 have ih:∀{x y:V} {dx dy:D} {b:Bool} {u v:Value},Rep G x dx->Rep G y dy->eqF 39 dx dy=some b->RelV x u->RelV y v->SeqAt.EqAt X.A.in1 s u v b:=fun r1 r2 h ru rv=>jnJ hK I sg 39 r1 r2 h ru rv (by show X.A.units+1+39<cLine;omega);rcases jbV (n:=39) h with ⟨l,m,rfl,rfl,q⟩ | ⟨l,m,rfl,rfl,q⟩ | q
 . obtain ⟨_,_,rfl,h1,r1⟩:=rx.of_lst;obtain ⟨_,_,rfl,h2,r2⟩:=ry.of_lst;cases ru;cases rv;exact jfu hK I h1 h2 r1 r2 q (by omega) ih
 . obtain ⟨_,_,rfl,h1,r1⟩:=rx.of_tup;obtain ⟨_,_,rfl,h2,r2⟩:=ry.of_tup;cases ru;cases rv;exact jhL hK I h1 h2 r1 r2 q (by omega) ih
 . obtain ⟨f1,f2,_⟩:=Zd q;rw [f1,f2] at hf;exact absurd hf Bool.noConfusion
theorem jiW [Fr] (hK:Fr.K=X.K) (I:Inv X tf σ H s) {a c:Addr} {vs us:List V} {l m:List D} {b:Bool} {n:Nat} {A:Around} (h1:Rd H a (.lst vs)) (h2:Rd H c (.lst us)) (r1:Reps G vs l) (r2:Reps G us m) (h:(if l.length=m.length then jcR (eqF n) l m else some false)=some b) (hu:A.units<cLine)
 (ih:∀{x y:V} {dx dy:D} {b:Bool} {u v:Value},Rep G x dx->Rep G y dy->eqF n dx dy=some b->RelV x u->RelV y v->SeqAt.EqAt A.in1 s u v b):SeqAt.RcNeAt A s (.ref a) (.ref c) (!b):=by
 obtain ⟨i1,v1,p1,_⟩:=I.list (.inl h1);obtain ⟨i2,v2,p2,_⟩:=I.list (.inl h2);have l1:=v1.length;have l2:=v2.length;have k1:=r1.length;have k2:=r2.length;split at h
 . rename_i hl;obtain ⟨e,he,hb⟩:=jam h;have hb':(List.range i1.toArray.size).all e=b:=by rw [<-hb,<- hl,kb,YA,<- l1,k1]
   rw [<-hb'];exact SeqAt.RcNeAt.lists p1.isList p2.isList (by simp;omega) hu (jao r1 r2 v1 v2 he ih)
 . rename_i hl;cases h;exact SeqAt.RcNeAt.lists_lengths p1.isList p2.isList (by simp;omega) hu
theorem jkO [Fr] (hK:Fr.K=X.K) (I:Inv X tf σ H s) {a c:Addr} {vs us:List V} {l m:List D} {b:Bool} {n:Nat} {A:Around} (h1:H a=some (.tup vs)) (h2:H c=some (.tup us)) (r1:Reps G vs l) (r2:Reps G us m) (h:(jcR (eqF n) l m).map (· && l.length == m.length)=some b) (hu:A.units<cLine)
 (ih:∀{x y:V} {dx dy:D} {b:Bool} {u v:Value},Rep G x dx->Rep G y dy->eqF n dx dy=some b->RelV x u->RelV y v->SeqAt.EqAt A.in1 s u v b):SeqAt.RcNeAt A s (.ref a) (.ref c) (!b):=by
 obtain ⟨i1,v1,p1,_⟩:=I.tuple (SqT.of h1);obtain ⟨i2,v2,p2,_⟩:=I.tuple (SqT.of h2);have l1:=v1.length;have l2:=v2.length;have k1:=r1.length;have k2:=r2.length;obtain ⟨c,h3,h4⟩:=map_some h;obtain ⟨e,he,hb⟩:=jam h3;have q1:i1.toArray.size=l.length:=by simp;omega
 have q2:i2.toArray.size=m.length:=by simp;omega
 have hb':‹"ap"›=b:=by rw [q1,q2,hb];exact h4
 rw [<-hb'];exact SeqAt.RcNeAt.tuples (show s.heap.IsTuple a i1.toArray from p1) (show s.heap.IsTuple _ i2.toArray from p2) hu (jao r1 r2 v1 v2 he ih)
theorem jmv [Fr] (hK:Fr.K=X.K) {tf:List (Addr×Obj)} {σ:St} {H G:Hp} {s:Shared} (hu:X.A.units+64<cLine) (I:Inv X tf σ H s) (sg:Same G H) {x y:V} {dx dy:D} {b:Bool} {u v:Value} (rx:RepT G H x dx) (ry:RepT G H y dy) (h:eqF 40 dx dy=some b)
 (hf:(zp dx && zp dy)=false) (ru:RelV x u) (rv:RelV y v):SeqAt.RcNeAt X.A s u v (!b):=by
 have ih:∀{x y:V} {dx dy:D} {b:Bool} {u v:Value},Rep G x dx->Rep G y dy->eqF 39 dx dy=some b->RelV x u->RelV y v->SeqAt.EqAt X.A.in1 s u v b:=fun r1 r2 h ru rv=>jnJ hK I sg 39 r1 r2 h ru rv (by show X.A.units+1+39<cLine;omega);rcases jbV (n:=39) h with ⟨l,m,rfl,rfl,q⟩ | ⟨l,m,rfl,rfl,q⟩ | q
 . obtain ⟨_,_,rfl,h1,r1⟩:=rx.of_lst;obtain ⟨_,_,rfl,h2,r2⟩:=ry.of_lst;cases ru;cases rv;exact jiW hK I h1 h2 r1 r2 q (by omega) ih
 . obtain ⟨_,_,rfl,h1,r1⟩:=rx.of_tup;obtain ⟨_,_,rfl,h2,r2⟩:=ry.of_tup;cases ru;cases rv;exact jkO hK I h1 h2 r1 r2 q (by omega) ih
 . obtain ⟨f1,f2,_⟩:=Zd q;rw [f1,f2] at hf;exact absurd hf Bool.noConfusion
theorem jlA (hu:X.A.units+64<cLine):OpR X (compareOp .Eq) (@jhu ⟨X.K⟩):=by
 intro tf s σ H x y v u Q I rx ry h;obtain ⟨G,dx,dy,b,sg,r1,r2,he,q⟩:=h;unfold jdM at he;split at he
 . rename_i hf;simp only [Ky] at hf;split at he
   . rename_i hs;cases he;have e1:=@RepT.v ⟨X.K⟩ _ _ _ _ r1 hf.1;have e2:=@RepT.v ⟨X.K⟩ _ _ _ _ r2 hf.2;rw [<-e1,<- e2] at q hs;exact jq4 tf s σ H x y v u Q I rx ry ⟨hs,q⟩
   . cases he
 . rename_i hf;exact @jpH X ⟨X.K⟩ rfl _ _ _ _ _ hu I sg _ _ _ _ _ _ _ r1 r2 he (by simpa using hf) rx ry X.prog X.w _ _ ⟨.bl b,H,I,rfl,q⟩
theorem jkK (hu:X.A.units+64<cLine):OpR X (compareOp .NotEq) (@jgw ⟨X.K⟩):=by
 intro tf s σ H x y v u Q I rx ry h;obtain ⟨G,dx,dy,b,sg,r1,r2,he,q⟩:=h;unfold jdM at he;split at he
 . rename_i hf;simp only [Ky] at hf;split at he
   . rename_i hs;cases he;have e1:=@RepT.v ⟨X.K⟩ _ _ _ _ r1 hf.1;have e2:=@RepT.v ⟨X.K⟩ _ _ _ _ r2 hf.2;rw [<-e1,<- e2] at q hs;exact jq7 tf s σ H x y v u Q I rx ry ⟨hs,q⟩
   . cases he
 . rename_i hf;exact @jmv X ⟨X.K⟩ rfl _ _ _ _ _ hu I sg _ _ _ _ _ _ _ r1 r2 he (by simpa using hf) rx ry X.prog X.w _ _ ⟨.bl (!b),H,I,rfl,q⟩
end
def LcOk (sc:Scope) (N:List Str) (scope:Scope) (F:List Str) (ix:List Nat):Prop:=
 scope.kind=.function/\(∀x∈scope.names,x.2=.local->scope.names.lookup x.1=some .local)/\(∀y∈scope.names,y.2=.cell->scope.names.lookup y.1=some .cell) /\
 (∀y∈scope.names,y.2=.free->sc.names.lookup y.1=some .cell\/sc.names.lookup y.1=some .free)/\ix.length=F.length /\
 (∀p∈F.zip ix,N[p.2]?=some p.1/\(sc.names.lookup p.1=some .cell\/sc.names.lookup p.1=some .free)/\scope.names.lookup p.1=some .free)
instance (sc:Scope) (N:List Str) (scope:Scope) (F:List Str) (ix:List Nat):Decidable (LcOk sc N scope F ix):=by unfold LcOk;infer_instance
section
variable {X:Cx} {tg iter elt:Expr} {ifs:List Expr} {scope:Scope} {pos:Pos} {wi:TI} {g:TG} {tt:TT} {te:TE} {Lc F N:List Str} {ix:List Nat} {sc:Scope}
theorem LcOk.free (ok:LcOk sc N scope F ix) (hsc:X.env.scope=sc):∀n,(n,NameKind.free)∈scope.names->X.env.scope.names.lookup n=some .cell\/X.env.scope.names.lookup n=some .free:=fun n hn=>by rw [hsc];exact ok.2.2.2.1 (n,.free) hn rfl
theorem LcOk.capt (ok:LcOk sc N scope F ix) (hsc:X.env.scope=sc) (hN:X.N=N):∀(j:Nat) (x:Str) (k:Nat),F[j]?=some x->ix[j]?=some k->X.N[k]?=some x/\(X.env.scope.names.lookup x=some .cell\/X.env.scope.names.lookup x=some .free)/\scope.names.lookup x=some .free:=fun j x k h1 h2=>by rw [hsc,hN];exact ok.2.2.2.2.2 (x,k) (Yz (i:=j) (YQ.mpr ⟨h1,h2⟩))
theorem joT (hsc:X.env.scope=sc) (hN:X.N=N) (hc:X.calm=true) (ok:LcOk sc N scope F ix)
 (hi:PI X tg iter wi) (hg:∀C s H fp,PG ‹"b"› tg g) (hloc:jgY Lc.length g) (ht:∀C s H fp,PTs ‹"b"› ifs tt) (he:∀C s H fp,PE ‹"b"› elt te)
 (hs:∀x,foldedSetIterable iter X.env x=pure x:=by intro _;rfl):PE X ‹"m"› (tLC wi g tt te Lc.length ix):=
 jqC hc ok.1 ok.2.1 ok.2.2.1 (ok.free hsc) ok.2.2.2.2.1 (ok.capt hsc hN) hi hg hloc ht he hs
theorem Z2 {i:Nat} {y:Str} {py spos:Pos} (hNd:X.N.Nodup) (hy:X.N[i]?=some y) (hyl:X.env.scope.names.lookup y=some .local) (hsc:X.env.scope=sc) (hN:X.N=N) (hc:X.calm=true) (ok:LcOk sc N scope F ix)
 (hi:PI X tg iter wi) (hg:∀C s H fp,PG ‹"b"› tg g) (hloc:jgY Lc.length g) (ht:∀C s H fp,PTs ‹"b"› ifs tt) (he:∀C s H fp,PE ‹"b"› elt te)
 (hsw:swapsWith ‹"m"› (some (.Name y py)) spos.line X.env=pure true)
 (hs:∀x,foldedSetIterable iter X.env x=pure x:=by intro _;rfl):PS X (.Assign [.Name y py] ‹"m"› spos) (jdA (tLC wi g tt te Lc.length ix) (ZK i)):=
 jjA hNd hy hyl hc ok.1 ok.2.1 ok.2.2.1 (ok.free hsc) ok.2.2.2.2.1 (ok.capt hsc hN) hi hg hloc ht he hsw hs
end
end L2
namespace L2
open PySem PySem.Spec PyProof.Rows
section
variable {i j:Int} {F F':FS} {ρ ρ':eg} {r:Res}
theorem jP:qL (.int i) (.int j)=some (.int (i+j)):=rfl
theorem ql:qX (.int i) (.int j)=some (.int (i-j)):=rfl
theorem QK (h1:-18446744073709551616<i) (h2:i<18446744073709551616):zr (.int i) (.int j)=some (.int (i*j)):=by unfold zr dI;simp only;rw [if_pos];exact .inl (.inl ⟨by omega,by omega⟩)
theorem Jl (h1:-18446744073709551616<j) (h2:j<18446744073709551616):zr (.int i) (.int j)=some (.int (i*j)):=by unfold zr dI;simp only;rw [if_pos];exact .inl (.inr ⟨by omega,by omega⟩)
theorem qM (h1:0<j) (h2:j<1606938044258990275541962092341162602522202993782792835301376):Zj (.int i) (.int j)=some (.int (i/j)):=by unfold Zj dI;simp only;rw [if_pos];exact ⟨h1,by show j<2 ^ 200;omega⟩
theorem jL (h1:0<j):qV (.int i) (.int j)=some (.int (i%j)):=by unfold qV dI;simp only;rw [if_pos];exact h1
theorem jaC (h:jds i j):Qu (.int i) (.int j)=some (.int (i ^ j.toNat)):=by unfold Qu dI;simp only;rw [if_pos h]
theorem jhT:Qu (.int 10) (.int 5)=some (.int 100000):=by rw [jaC (by unfold jds;omega)];rfl
theorem jkz:Qu (.int 10) (.int 9)=some (.int 1000000000):=by rw [jaC (by unfold jds;omega)];rfl
theorem jkB:Qu (.int 10) (.int 14)=some (.int 100000000000000):=by rw [jaC (by unfold jds;omega)];rfl
theorem jed:Qu (.int 10) (.int 15)=some (.int 1000000000000000):=by rw [jaC (by unfold jds;omega)];rfl
theorem jk2:Qu (.int 10) (.int 16)=some (.int 10000000000000000):=by rw [jaC (by unfold jds;omega)];rfl
theorem J6:dLt (.int i) (.int j)=some (.bl (decide (i<j))):=rfl
theorem jeH:dLe (.int i) (.int j)=some (.bl (decide (i<=j))):=rfl
theorem jb9:dGt (.int i) (.int j)=some (.bl (decide (j<i))):=rfl
theorem jhl:dGe (.int i) (.int j)=some (.bl (decide (j<=i))):=rfl
theorem jkC:decide (V.int i=V.int j)=decide (i=j):=by
 by_cases q:i=j
 . subst q;simp
 . have:¬V.int i=V.int j:=fun z=>q (by injection z);simp [q,this]
theorem jmU:dEq (.int i) (.int j)=some (.bl (decide (i=j))):=by show some (D.bl (decide (V.int i=V.int j)))=_;rw [jkC]
theorem jpw:dNe (.int i) (.int j)=some (.bl (!decide (i=j))):=by show some (D.bl (!decide (V.int i=V.int j)))=_;rw [jkC]
theorem joo {a b:Bool}:dEq (.bl a) (.bl b)=some (.bl (decide (a=b))):=by cases a <;> cases b <;> rfl
theorem jqS {a b:Bool}:dNe (.bl a) (.bl b)=some (.bl (!decide (a=b))):=by cases a <;> cases b <;> rfl
theorem jrk {ds:List D} {i:Int} (h0:0<=i) (h1:i<ds.length):∃m,m∈ds/\jZ (.lst ds) (.int i)=some m:=by
 have hi:i.toNat<ds.length:=by omega
 refine ⟨ds[i.toNat],K0 hi,?_⟩;show atI ds i=_;unfold atI ixN;rw [if_pos h0,if_pos h1];simp [hi]
theorem jee {ds:List D} {i:Int} {d:D} (h0:0<=i) (h:ds[i.toNat]?=some d):jZ (.lst ds) (.int i)=some d:=by have hi:i.toNat<ds.length:=(Yi.mp h).1;show atI ds i=_;unfold atI ixN;rw [if_pos h0,if_pos (by omega)];simpa using h
theorem qx {n:Nat} (h:n<16777216):zx n=true:=YX h
theorem jbs {i:Int}:QF "int" (.int i)=some true:=by rfl
theorem jcW {b:Bool}:QF "int" (.bl b)=some true:=by rfl
theorem jbz  : QF "int" .non=some false:=by rfl
theorem jbt {z:Str}:QF "int" (.str z)=some false:=by rfl
theorem jbB {l:List D}:QF "int" (.lst l)=some false:=by rfl
theorem jbr {l:List D}:QF "int" (.tup l)=some false:=by rfl
theorem jat {i:Int}:QF "bool" (.int i)=some false:=by rfl
theorem jby {b:Bool}:QF "bool" (.bl b)=some true:=by rfl
theorem jas  : QF "bool" .non=some false:=by rfl
theorem ja0 {z:Str}:QF "bool" (.str z)=some false:=by rfl
theorem jaI {l:List D}:QF "bool" (.lst l)=some false:=by rfl
theorem jan {l:List D}:QF "bool" (.tup l)=some false:=by rfl
theorem jbL {i:Int}:QF "str" (.int i)=some false:=by rfl
theorem jb8 {b:Bool}:QF "str" (.bl b)=some false:=by rfl
theorem jbF  : QF "str" .non=some false:=by rfl
theorem jbx {z:Str}:QF "str" (.str z)=some true:=by rfl
theorem jbw {l:List D}:QF "str" (.lst l)=some false:=by rfl
theorem jbC {l:List D}:QF "str" (.tup l)=some false:=by rfl
theorem ja1 {i:Int}:QF "list" (.int i)=some false:=by rfl
theorem jbD {b:Bool}:QF "list" (.bl b)=some false:=by rfl
theorem jaY  : QF "list" .non=some false:=by rfl
theorem jaE {z:Str}:QF "list" (.str z)=some false:=by rfl
theorem jaH {l:List D}:QF "list" (.lst l)=some true:=by rfl
theorem jaZ {l:List D}:QF "list" (.tup l)=some false:=by rfl
theorem ZP {i:Int}:QF "tuple" (.int i)=some false:=by rfl
theorem jaB {b:Bool}:QF "tuple" (.bl b)=some false:=by rfl
theorem ZR  : QF "tuple" .non=some false:=by rfl
theorem ZV {z:Str}:QF "tuple" (.str z)=some false:=by rfl
theorem ZQ {l:List D}:QF "tuple" (.lst l)=some false:=by rfl
theorem ZO {l:List D}:QF "tuple" (.tup l)=some true:=by rfl
theorem JE {a:D} {l:List D}:jZ (.tup (a::l)) (.int 0)=some a:=by show atI (a::l) 0=_;unfold atI ixN;rw [if_pos (by decide),if_pos (by simp only [YG];omega)];rfl
theorem JF {a b:D} {l:List D}:jZ (.tup (a::b::l)) (.int 1)=some b:=by show atI (a::b::l) 1=_;unfold atI ixN;rw [if_pos (by decide),if_pos (by simp only [YG];omega)];rfl
theorem jbo {a b c:D} {l:List D}:jZ (.tup (a::b::c::l)) (.int 2)=some c:=by show atI (a::b::c::l) 2=_;unfold atI ixN;rw [if_pos (by decide),if_pos (by simp only [YG];omega)];rfl
theorem jck {a b c d:D} {l:List D}:jZ (.tup (a::b::c::d::l)) (.int 3)=some d:=by show atI (a::b::c::d::l) 3=_;unfold atI ixN;rw [if_pos (by decide),if_pos (by simp only [YG];omega)];rfl
theorem jeW {a:D} {l:List D}:jZ (.lst (a::l)) (.int 0)=some a:=by show atI (a::l) 0=_;unfold atI ixN;rw [if_pos (by decide),if_pos (by simp only [YG];omega)];rfl
theorem jk1 {a b:D} {l:List D}:jZ (.lst (a::b::l)) (.int 1)=some b:=by show atI (a::b::l) 1=_;unfold atI ixN;rw [if_pos (by decide),if_pos (by simp only [YG];omega)];rfl
theorem jlb {a b c:D} {l:List D}:jZ (.lst (a::b::c::l)) (.int 2)=some c:=by show atI (a::b::c::l) 2=_;unfold atI ixN;rw [if_pos (by decide),if_pos (by simp only [YG];omega)];rfl
theorem jjP {a b c d:D} {l:List D}:jZ (.lst (a::b::c::d::l)) (.int 3)=some d:=by show atI (a::b::c::d::l) 3=_;unfold atI ixN;rw [if_pos (by decide),if_pos (by simp only [YG];omega)];rfl
end
end L2
namespace L2
open PySem PySem.Spec PyProof.Rows
structure Fm where
 ι:Type
 X:ι->Cx
 K:PySem.W.Frag
 N:List Str
 hK:∀i,(X i).K=K
 hN:∀i,(X i).N=N
 calm:∀i,(X i).calm=true
abbrev Fm.fr (M:Fm):Fr:=⟨M.K⟩
structure WE (M:Fm) (e:Expr) (f:eg->Option D):Prop where
 h:∃t,(∀i,PE (M.X i) e t)/\@EOk M.fr t f
structure WT (M:Fm) (e:Expr) (f:eg->Option D):Prop where
 h:∃t,(∀i,PE (M.X i) e t)/\@zR M.fr t f
structure WO (M:Fm) (e:Expr) (f:eg->Option (List D)):Prop where
 h:∃t,(∀i,PE (M.X i) e t)/\@EOkO M.fr t f
structure WC (M:Fm) (e:Expr) (f:eg->Option Bool):Prop where
 h:∃t,(∀i,PT (M.X i) e t)/\@TOk M.fr t f
structure WW (M:Fm) (e:Expr) (f:eg->Option Bool):Prop where
 h:∃t,(∀i,PW (M.X i) e t)/\@TOk M.fr t f
structure WTs (M:Fm) (e:List Expr) (f:eg->Option Bool):Prop where
 h:∃t,(∀i,PTs (M.X i) e t)/\@TOk M.fr t f
structure WA (M:Fm) (e:List Expr) (f:eg->Option (List D)):Prop where
 h:∃t,(∀i,PA (M.X i) e t)/\@AOk M.fr t f
structure WAT (M:Fm) (e:List Expr) (f:eg->Option (List D)):Prop where
 h:∃t,(∀i,PA (M.X i) e t)/\@jaN M.fr t f
structure WP (M:Fm) (e:Option Expr) (f:eg->Option (Option Int)):Prop where
 h:∃t,(∀i,PO (M.X i) e t)/\@POk M.fr t f
structure WI (M:Fm) (tg e:Expr) (f:eg->Option (List D)):Prop where
 h:∃t,(∀i,PI (M.X i) tg e t)/\@IOk M.fr t f
structure WIT (M:Fm) (tg e:Expr) (f:eg->Option (List D)):Prop where
 h:∃t,(∀i,PI (M.X i) tg e t)/\@jiU M.fr t f
structure WG (M:Fm) (tg:Expr) (m:D->eg->Option eg):Prop where
 h:∃t,(∀i,PG (M.X i) tg t)/\@GOk M.fr t m
structure WGs (M:Fm) (tg:List Expr) (m:List D->eg->Option eg):Prop where
 h:∃t,(∀i,PGs (M.X i) tg t)/\@jiO M.fr t m
structure WL (M:Fm) (n:Nat) (tg:Expr) (m:D->eg->Option eg):Prop where
 h:∃t,(∀i,PG (M.X i) tg t)/\@GOk M.fr t m/\jgY n t
structure WS (M:Fm) (st:Stmt) (F:FS):Prop where
 h:∃t,(∀i,PS (M.X i) st t)/\@ZJ M.fr t F
structure WSs (M:Fm) (st:List Stmt) (F:FS):Prop where
 h:∃t,(∀i,PSs (M.X i) st t)/\@ZJ M.fr t F
def qg:Expr->Bool
 | .Starred _ _=>true
 | _=>false
theorem qi {e:Expr} {es:List Expr} {env:PySem.Env} (h:qg e=false):starEach (e::es) env=(false,eval e env)::starEach es env:=by cases e <;> first | rfl | cases h
theorem JM {pos:Pos} {env:PySem.Env}:∀{es:List Expr},(es.all fun e=>!qg e)=true->(backTo pos (starEach es env)).any (·.1)=false
 | [],_=>rfl
 | e::es,h=>by simp only [List.all_cons,Ky,Bool.not_eq_true'] at h;rw [qi h.1];show (false || (backTo pos (starEach es env)).any (·.1))=false;rw [JM h.2];rfl
section
variable {M:Fm} {a b c e o:Expr} {es:List Expr} {fa fb fc fe:eg->Option D} {fo:eg->Option (List D)} {fs:eg->Option (List D)} {ga gb:eg->Option Bool} {pos p apos cpos:Pos} {x:Str}
theorem WO.toE (h:WO M e fo):WE M e (jN fo):=let ⟨t,h1,h2⟩:=h.h;⟨t,h1,@EOkO.e M.fr _ _ h2⟩
theorem WE.toT (h:WE M e fe):WT M e fe:=let ⟨t,h1,h2⟩:=h.h;⟨t,h1,@EOk.t M.fr _ _ h2⟩
abbrev eh:=@WE.toT
theorem jo (i:Nat) (hN:M.N[i]?=some x:=by rfl) (hv:autoParam (∀j,Vis (M.X j).env.scope x) QA.a7._auto_1) (hd:‹"p"›=false:=by decide)
 (hcd:(x == ("__classdict__":Str))=false:=by decide):WE M (.Name x pos) (jr i):=⟨_,fun j=>Za (by rw [M.hN j];exact hN) (hv j) hd hcd,@jqZ M.fr i⟩
theorem jb (i:Nat) (hN:M.N[i]?=some x:=by rfl) (hv:autoParam (∀j,Vis (M.X j).env.scope x) QA.a7._auto_1) (hd:‹"p"›=false:=by decide)
 (hcd:(x == ("__classdict__":Str))=false:=by decide):WT M (.Name x pos) (ja i):=⟨_,fun j=>Za (by rw [M.hN j];exact hN) (hv j) hd hcd,@joA M.fr i⟩
theorem qo {i:Int} {t:Tok} (hg:∀j,Gl (M.X j) x) (hm:∀j,(M.X j).mg x=some (.int i t)) (hd:‹"p"›=false:=by decide):WE M (.Name x pos) (eC (.int i)):=⟨_,fun j=>jlR (hg j) (hm j) hd,@jnD M.fr i⟩
theorem jy {i:Int} {k:Nat}:WE M (.Constant (.int i) k pos) (eC (.int i)):=⟨_,fun _=>joQ,@jnD M.fr i⟩
theorem jeQ {i:Bool} {k:Nat}:WE M (.Constant (.bool i) k pos) (eC (.bl i)):=⟨_,fun _=>jqy,@jrY M.fr i⟩
theorem jio {k:Nat}:WE M (.Constant .none k pos) (eC .non):=⟨_,fun _=>jpK,@jqf M.fr⟩
theorem jdI {op:Operator} {r:R2} {f:D->D->Option D} (ho:∀j,OpR (M.X j) (binaryOp op) r) (hr:@ROk M.fr r f) (ha:WT M a fa) (hb:WT M b fb):WE M (.BinOp a op b pos) (js f fa fb):=let ⟨_,h1,h2⟩:=ha.h;let ⟨_,k1,k2⟩:=hb.h;⟨_,fun j=>jkr (ho j) (h1 j) (k1 j),@jmb M.fr _ _ _ _ _ _ hr h2 k2⟩
theorem zK (ha:WT M a fa) (hb:WT M b fb):WE M (.BinOp a .Add b pos) (js qL fa fb):=jdI (fun _=>jpo) (@jqe M.fr) ha hb
theorem zq (ha:WT M a fa) (hb:WT M b fb):WE M (.BinOp a .Sub b pos) (js qX fa fb):=jdI (fun _=>joW) (@jqj M.fr) ha hb
theorem JL (ha:WT M a fa) (hb:WT M b fb):WE M (.BinOp a .Mult b pos) (js zr fa fb):=jdI (fun _=>jmT) (@jry M.fr) ha hb
theorem jaQ (ha:WT M a fa) (hb:WT M b fb):WE M (.BinOp a .FloorDiv b pos) (js Zj fa fb):=jdI (fun _=>jlr) (@jqN M.fr) ha hb
theorem zL (ha:WT M a fa) (hb:WT M b fb):WE M (.BinOp a .Mod b pos) (js qV fa fb):=jdI (fun _=>jpS) (@jqB M.fr) ha hb
theorem jh9 (ha:WT M a fa) (hb:WT M b fb):WE M (.BinOp a .Pow b pos) (js Qu fa fb):=jdI (fun _=>jok) (@jp6 M.fr) ha hb
theorem jh1 (ha:WT M a fa) (hb:WT M b fb):WO M (.BinOp a .Add b pos) (js jdt fa fb):=let ⟨_,h1,h2⟩:=ha.h;let ⟨_,k1,k2⟩:=hb.h;⟨_,fun j=>jkr jmk (h1 j) (k1 j),@jnC M.fr _ _ _ _ _ _ (@jqw M.fr) h2 k2⟩
theorem w_not (ha:WT M a fa):WE M (.UnaryOp .Not a pos) (jjp fa):=let ⟨_,h1,h2⟩:=ha.h;⟨_,fun j=>jpi (h1 j),@jrb M.fr _ _ h2⟩
theorem jR (ha:WT M a fa) (hb:WT M b fb) (hs:jeu b:=by exact fun _ _=>rfl):WE M (.Subscript a b pos) (js jZ fa fb):=let ⟨_,h1,h2⟩:=ha.h;let ⟨_,k1,k2⟩:=hb.h;⟨_,fun j=>jny (r:=rIx M.K) (by rw [<-M.hK j];exact jjZ) (h1 j) (k1 j) hs,@jmb M.fr _ _ _ _ _ _ (@jr9 M.fr) h2 k2⟩
structure WCmp (M:Fm) (op:CmpOp) (f:D->D->Option D):Prop where
 h:∃r,(∀j,OpR (M.X j) (compareOp op) r)/\@ROk M.fr r f
theorem jdq:WCmp M .Lt dLt:=⟨_,fun _=>jrf,@jsk M.fr⟩
theorem jlI:WCmp M .LtE dLe:=⟨_,fun _=>jq3,@jsq M.fr⟩
theorem jo8:WCmp M .Gt dGt:=⟨_,fun _=>jqE,@jsi M.fr⟩
theorem jsb:WCmp M .GtE dGe:=⟨_,fun _=>jqg,@jr8 M.fr⟩
theorem jkc (hu:∀j,(M.X j).A.units+64<cLine):WCmp M .Eq dEq:=⟨@jhu M.fr,fun j=>by have:=jlA (hu j);rw [M.hK j] at this;exact this,@jrZ M.fr⟩
theorem jrU (hu:∀j,(M.X j).A.units+64<cLine):WCmp M .NotEq dNe:=⟨@jgw M.fr,fun j=>by have:=jkK (hu j);rw [M.hK j] at this;exact this,@jsa M.fr⟩
variable {op op':CmpOp} {f f':D->D->Option D}
theorem jhW (ho:WCmp M op f) (ha:WT M a fa) (hb:WT M b fb) (hm:autoParam (behindInMarks op b=false) QA.a9._auto_1):WE M (.Compare a [op] [b] pos) (js f fa fb):=let ⟨_,r1,r2⟩:=ho.h;let ⟨_,h1,h2⟩:=ha.h;let ⟨_,k1,k2⟩:=hb.h;⟨_,fun j=>jlX (r1 j) (h1 j) (k1 j) hm,@jmb M.fr _ _ _ _ _ _ r2 h2 k2⟩
theorem zI (ho:WCmp M op f) (ha:WT M a fa) (hb:WT M b fb) (hm:autoParam (behindInMarks op b=false) QA.a9._auto_1):WC M (.Compare a [op] [b] pos) (qR (js f fa fb)):=let ⟨_,r1,r2⟩:=ho.h;let ⟨_,h1,h2⟩:=ha.h;let ⟨_,k1,k2⟩:=hb.h;⟨_,fun j=>jl2 (r1 j) (h1 j) (k1 j) hm,@jlk M.fr _ _ (@EOk.t M.fr _ _ (@jmb M.fr _ _ _ _ _ _ r2 h2 k2))⟩
theorem jmC (ho:WCmp M op f) (ho':WCmp M op' f') (ha:WT M a fa) (hb:WT M b fb) (hc:WT M c fc) (hm:autoParam (lastMarks [op,op'] [b,c]=false) QA.a6._auto_1):WE M (.Compare a [op,op'] [b,c] pos) (JK f f' fa fb fc):=let ⟨_,r1,r2⟩:=ho.h;let ⟨_,r3,r4⟩:=ho'.h;let ⟨_,h1,h2⟩:=ha.h;let ⟨_,k1,k2⟩:=hb.h;let ⟨_,l1,l2⟩:=hc.h;⟨_,fun j=>jkP (r1 j) (r3 j) (h1 j) (k1 j) (l1 j) hm,@jic M.fr _ _ _ _ _ _ _ _ _ _ r2 r4 h2 k2 l2⟩
theorem jlU (ho:WCmp M op f) (ho':WCmp M op' f') (ha:WT M a fa) (hb:WT M b fb) (hc:WT M c fc) (hm:autoParam (lastMarks [op,op'] [b,c]=false) QA.a6._auto_1):WC M (.Compare a [op,op'] [b,c] pos) (qR (JK f f' fa fb fc)):=let ⟨_,r1,r2⟩:=ho.h;let ⟨_,r3,r4⟩:=ho'.h;let ⟨_,h1,h2⟩:=ha.h;let ⟨_,k1,k2⟩:=hb.h;let ⟨_,l1,l2⟩:=hc.h;⟨_,fun j=>jjV (r1 j) (r3 j) (h1 j) (k1 j) (l1 j) hm,@jlk M.fr _ _ (@EOk.t M.fr _ _ (@jic M.fr _ _ _ _ _ _ _ _ _ _ r2 r4 h2 k2 l2))⟩
theorem jqu {k:Nat} {p':Pos} (ha:WT M a fa):WC M (.Compare a [.Is] [.Constant .none k p'] pos) (qR (jjC fa)):=let ⟨_,h1,h2⟩:=ha.h;⟨_,fun j=>jlt (jpO (h1 j)),@t_B M.fr _ _ (@EOk.t M.fr _ _ (@jqn M.fr _ _ h2))⟩
theorem je2 {k:Nat} {p':Pos} (ha:WT M a fa):WC M (.Compare a [.IsNot] [.Constant .none k p'] pos) (qR (ZL fa)):=let ⟨_,h1,h2⟩:=ha.h;⟨_,fun j=>jlt (jme (h1 j)),@t_B M.fr _ _ (@EOk.t M.fr _ _ (@joP M.fr _ _ h2))⟩
theorem jk5 {bo:BoolOp} (h:WE M a fa):WE M (.BoolOp bo [a] pos) fa:=let ⟨_,h1,h2⟩:=h.h;⟨_,fun j=>jpN (h1 j),h2⟩
theorem jir (ha:WT M a fa) (hb:WE M (.BoolOp .And (b::es) pos) fb):WE M (.BoolOp .And (a::b::es) pos) (jdc fa fb):=let ⟨_,h1,h2⟩:=ha.h;let ⟨_,k1,k2⟩:=hb.h;⟨_,fun j=>jpc (h1 j) (k1 j),@jqP M.fr _ _ _ _ h2 k2⟩
theorem jpy (hc:WC M c ga) (ha:WE M a fa) (hb:WE M b fb):WE M (.IfExp c a b pos) (eIf ga fa fb):=let ⟨_,l1,l2⟩:=hc.h;let ⟨_,h1,h2⟩:=ha.h;let ⟨_,k1,k2⟩:=hb.h;⟨_,fun j=>jlp (l1 j) (h1 j) (k1 j),@jr1 M.fr _ _ _ _ _ _ l2 h2 k2⟩
theorem jcG (h:WT M a fa) (he:∀j whole,isTrue a (M.X j).env whole=(do let v <- whole;standAt a.pos;holding [v] (truthy v)):=by intro _ _;rfl):WC M a (qR fa):=let ⟨_,h1,h2⟩:=h.h;⟨_,fun j=>jpf (h1 j) (he j),@t_B M.fr _ _ h2⟩
theorem WW.toC (h:WW M a ga):WC M a ga:=let ⟨_,h1,h2⟩:=h.h;⟨_,fun j=>(h1 j).pt,h2⟩
theorem jg7 (h:WC M a ga):WW M (.BoolOp .And [a] pos) ga:=let ⟨_,h1,h2⟩:=h.h;⟨_,fun j=>jmS (h1 j),h2⟩
theorem jqW (h:WC M a ga):WW M (.BoolOp .Or [a] pos) ga:=let ⟨_,h1,h2⟩:=h.h;⟨_,fun j=>jpe (h1 j),h2⟩
theorem jhz (ha:WC M a ga) (hb:WW M (.BoolOp .And (b::es) pos) gb):WW M (.BoolOp .And (a::b::es) pos) (ZI ga gb):=let ⟨_,h1,h2⟩:=ha.h;let ⟨_,k1,k2⟩:=hb.h;⟨_,fun j=>jo6 (h1 j) (k1 j),@jgn M.fr _ _ _ _ h2 k2⟩
theorem jrX (ha:WC M a ga) (hb:WW M (.BoolOp .Or (b::es) pos) gb):WW M (.BoolOp .Or (a::b::es) pos) (bOr ga gb):=let ⟨_,h1,h2⟩:=ha.h;let ⟨_,k1,k2⟩:=hb.h;⟨_,fun j=>jrD (h1 j) (k1 j),@jse M.fr _ _ _ _ h2 k2⟩
theorem jh2 (ha:WC M a ga):WC M (.UnaryOp .Not a pos) (jbQ ga):=let ⟨_,h1,h2⟩:=ha.h;⟨_,fun j=>joO (h1 j),@jfS M.fr _ _ h2⟩
theorem ju:WA M [] jl:=⟨_,fun _=>jba,@a_nil M.fr⟩
theorem je (ha:WE M e fe) (hs:WA M es fs) (h:qg e=false:=by rfl):WA M (e::es) (jc fe fs):=let ⟨_,h1,h2⟩:=ha.h;let ⟨_,k1,k2⟩:=hs.h;⟨_,fun j=>QI (h1 j) (k1 j) (qi h),@jlJ M.fr _ _ _ _ h2 k2⟩
theorem jD:WAT M [] jl:=⟨_,fun _=>jba,@jpJ M.fr⟩
theorem jm (ha:WT M e fe) (hs:WAT M es fs) (h:qg e=false:=by rfl):WAT M (e::es) (jc fe fs):=let ⟨_,h1,h2⟩:=ha.h;let ⟨_,k1,k2⟩:=hs.h;⟨_,fun j=>QI (h1 j) (k1 j) (qi h),@jlS M.fr _ _ _ _ h2 k2⟩
theorem jik {k:Nat} (h:WA M es fs):WE M (.Tuple es k pos) (jaD fs):=let ⟨_,h1,h2⟩:=h.h;⟨_,fun j=>jog (h1 j),@jre M.fr _ _ h2⟩
theorem J4 (h:WA M es fs):WO M (.List es pos) (JQ fs):=let ⟨_,h1,h2⟩:=h.h;⟨_,fun j=>jom (h1 j),@jqY M.fr _ _ h2⟩
theorem jnR:WP M none pNo:=⟨_,fun _=>jmt,@jr5 M.fr⟩
theorem jhZ (h:WT M e fe):WP M (some e) (pSo fe):=let ⟨_,h1,h2⟩:=h.h;⟨_,fun j=>jlV (h1 j),@jrW M.fr _ _ h2⟩
theorem jph {lo hi:Option Expr} {fl fh:eg->Option (Option Int)} {p2:Pos} (h:WT M e fe) (hl:WP M lo fl) (hh:WP M hi fh):WO M (.Subscript e (.Slice lo hi none p2) pos) (eSl fe fl fh):=let ⟨_,h1,h2⟩:=h.h;let ⟨_,k1,k2⟩:=hl.h;let ⟨_,l1,l2⟩:=hh.h;⟨_,fun j=>jkW (r:=joh M.K) (by rw [<-M.hK j];exact jmz) (h1 j) (k1 j) (l1 j),@jsh M.fr _ _ _ _ _ _ h2 k2 l2⟩
structure WB (M:Fm) (g:Value) (f:List D->Option D):Prop where
 h:∃r,(∀j,CallR (M.X j) g r)/\@jdz M.fr r f
structure WBO (M:Fm) (g:Value) (f:List D->Option (List D)):Prop where
 h:∃r,(∀j,CallR (M.X j) g r)/\@jhX M.fr r f
theorem tP:WB M (.builtin "len") JP:=⟨_,fun j=>by have:=jjv (X:=M.X j);rw [M.hK j] at this;exact this,@jrn M.fr⟩
theorem ue:WBO M (.type "list") Zr:=⟨_,fun j=>by have:=je5 (X:=M.X j);rw [M.hK j] at this;exact this,@joH M.fr⟩
theorem tN:WB M (.builtin "sum") Js:=⟨_,fun j=>by have:=jjW (M.calm j);rw [M.hK j] at this;exact this,@jqs M.fr⟩
theorem wu:WB M (.builtin "all") jiJ:=⟨_,fun j=>by have:=jjR (M.calm j);rw [M.hK j] at this;exact this,@jrv M.fr⟩
theorem jeD:WB M (.builtin "min") ZW:=⟨_,fun j=>jjB (M.calm j),@jox M.fr⟩
theorem jgM:WB M (.builtin "max") ZU:=⟨_,fun j=>jjq (M.calm j),@jo0 M.fr⟩
theorem jk6:WB M (.builtin "min") jdJ:=⟨_,fun j=>by have:=jiC (M.calm j);rw [M.hK j] at this;exact this,@joc M.fr⟩
theorem jpu:WB M (.builtin "max") jge:=⟨_,fun j=>by have:=jjm (M.calm j);rw [M.hK j] at this;exact this,@jpk M.fr⟩
theorem sd:WB M (.type "int") joN:=⟨_,fun _=>jiH,@jrq M.fr⟩
variable {id T:String} {f1:List D->Option D} {f2:List D->Option (List D)}
theorem zm (hc:WB M (.builtin id) f1) (hg:∀j,Gl (M.X j) x) (hm:∀j,(M.X j).mg x=none) (hv:bootBuiltins x=some (.builtin id)) (ha:WAT M (e::es) fs) (hn:x ≠ "__name__":=by decide) (hdb:‹"p"›=false:=by decide)
 (h:qg e=false:=by rfl) (h':(es.all fun e=>!qg e)=true:=by rfl):WE M ‹"J"› (jk f1 fs):=
 let ⟨_,r1,r2⟩:=hc.h;let ⟨_,h1,h2⟩:=ha.h;⟨_,fun j=>jcl (r1 j) (hg j) (hm j) hv (h1 j) hn hdb (qi h) (JM h'),@jsn M.fr _ _ _ _ r2 h2⟩
theorem jih (hc:WBO M (.type T) f2) (hg:∀j,Gl (M.X j) x) (hm:∀j,(M.X j).mg x=none) (hv:bootBuiltins x=some (.type T)) (ha:WAT M (e::es) fs) (hn:x ≠ "__name__":=by decide) (hdb:‹"p"›=false:=by decide)
 (h:qg e=false:=by rfl) (h':(es.all fun e=>!qg e)=true:=by rfl):WO M ‹"J"› (jk f2 fs):=
 let ⟨_,r1,r2⟩:=hc.h;let ⟨_,h1,h2⟩:=ha.h;⟨_,fun j=>ja6 (r1 j) (hg j) (hm j) hv (h1 j) hn hdb (qi h) (JM h'),@jqo M.fr _ _ _ _ r2 h2⟩
theorem jib {y:Str} {p':Pos} (hg:∀j,Gl (M.X j) "isinstance") (hm:∀j,(M.X j).mg "isinstance"=none) (hg':∀j,Gl (M.X j) y) (hm':∀j,(M.X j).mg y=none) (hv':bootBuiltins y=some (.type T)) (hT:okT T=true) (ha:WT M a fa)
 (hn:y ≠ "__name__":=by decide) (hdb:(y == ("__debug__":Str))=false:=by decide) (h:qg a=false:=by rfl):WE M (.Call (.Name "isinstance" p) [a,.Name y p'] [] pos) (jgo T fa):=
 let ⟨_,h1,h2⟩:=ha.h
 ⟨_,fun j=>jcl (r:=fun xs H Q=>∃x T b,xs=[x,.ty T]/\IsT M.K H x T b/\Q (.bl b) H) (by have:=jgd (X:=M.X j);rw [M.hK j] at this;exact this) (hg j) (hm j) boot_isinstance (QI (h1 j) (QI (jrp (hg' j) (hm' j) hv' hn hdb) jba (qi rfl)) (qi h)) (by decide) (by decide) (qi h) (JM rfl),@jqi M.fr T _ _ h2 hT⟩
theorem jpq {p' pos':Pos} (hg:∀j,Gl (M.X j) "sorted") (hm:∀j,(M.X j).mg "sorted"=none) (hg':∀j,Gl (M.X j) "set") (hm':∀j,(M.X j).mg "set"=none) (ha:WAT M [e] fs) (h:qg e=false:=by rfl) (sub:∀i j,(M.X i).prog=(M.X j).prog ∧ (M.X i).w=(M.X j).w) (j0:M.ι) :
 WO M (.Call (.Name "sorted" p) [.Call (.Name "set" p') [e] [] pos'] [] pos) (jgb fs):=
 let ⟨ta,h1,h2⟩:=ha.h
 ⟨_,fun j=>by
  have r1:=jgF (X:=M.X j) (M.calm j);have r2:=jc9 (X:=M.X j) (M.calm j);have eS:∀a ns,jeO (M.X j) a ns=jeO (M.X j0) a ns:=fun a ns=>by unfold jeO;rw [(sub j j0).1,(sub j j0).2]
  rw [M.hK j] at r1;simp only [eS] at r1 r2;exact jcl r2 (hg j) (hm j) boot_sorted (QI (ja6 r1 (hg' j) (hm' j) boot_set (h1 j) (by decide) (by decide) (qi h) (JM rfl)) jba (qi rfl)) (by decide) (by decide) (qi rfl) (JM rfl),@joR M.fr (M.X j0) _ _ h2⟩
theorem jsj {p1 p2 pos1 pos2:Pos} (hg1:∀j,Gl (M.X j) "list") (hm1:∀j,(M.X j).mg "list"=none) (hg2:∀j,Gl (M.X j) "zip") (hm2:∀j,(M.X j).mg "zip"=none) (ha:WAT M [a,b] fs) (h:qg a=false:=by rfl) (h':qg b=false:=by rfl) :
 WO M (.Call (.Name "list" p1) [.Call (.Name "zip" p2) [a,b] [] pos2] [] pos1) (eLZ fs):=
 let ⟨_,h1,h2⟩:=ha.h
 ⟨jcZ M.K _,fun j=>by have:=jgu (p1:=p1) (p2:=p2) (pos1:=pos1) (pos2:=pos2) (M.calm j) (hg1 j) (hm1 j) (hg2 j) (hm2 j) (h1 j) (by rw [qi h,qi h'];rfl) (by rw [qi h'];rfl) (by rw [qi rfl];rfl);rw [M.hK j] at this;exact this,@jss M.fr _ _ h2⟩
theorem j4 {k:Nat} {g:Addr} {fd:FuncData} {ps:List Str} (F:∀j,FnOk (M.X j).prog (M.X j).w (M.X j).K (M.X j).mg (M.X j).base JC k g fd ps (@spS M.fr f1)) (hr:∀j,Room k (M.X j).A) (hg:∀j,Gl (M.X j) x) (hm:∀j,(M.X j).mg x=some (.ref g)) (hk:∀j,PySem.W.keepIn (M.X j).K (.ref g)=true)
 (hb:∀j,Binds (M.X j).K fd ps []) (ha:WA M (e::es) fs) (hdb:‹"p"›=false:=by decide) (h:qg e=false:=by rfl) (h':(es.all fun e=>!qg e)=true:=by rfl):WE M ‹"J"› (jk f1 fs):=
 let ⟨_,h1,h2⟩:=ha.h;⟨_,fun j=>jh6 (F j) (hr j) (hg j) (hm j) (hk j) (hb j) .nil jnr (h1 j) hdb (qi h) (JM h'),@jo5 M.fr _ _ f1 E0 h2⟩
theorem qI {k:Nat} {g:Addr} {fd:FuncData} {ps:List Str} (F:∀j,FnOk (M.X j).prog (M.X j).w (M.X j).K (M.X j).mg (M.X j).base JC k g fd ps (@spO M.fr f2)) (hr:∀j,Room k (M.X j).A) (hg:∀j,Gl (M.X j) x) (hm:∀j,(M.X j).mg x=some (.ref g)) (hk:∀j,PySem.W.keepIn (M.X j).K (.ref g)=true)
 (hb:∀j,Binds (M.X j).K fd ps []) (ha:WA M (e::es) fs) (hdb:‹"p"›=false:=by decide) (h:qg e=false:=by rfl) (h':(es.all fun e=>!qg e)=true:=by rfl):WO M ‹"J"› (jk f2 fs):=
 let ⟨_,h1,h2⟩:=ha.h;⟨_,fun j=>jh6 (F j) (hr j) (hg j) (hm j) (hk j) (hb j) .nil jnr (h1 j) hdb (qi h) (JM h'),@jlO M.fr _ _ f2 E0 h2⟩
variable {m:D->eg->Option eg} {ms:List D->eg->Option eg} {tg iter:Expr}
theorem jT {i:Nat} (hN:∀j,(M.X j).N.Nodup) (hi:M.N[i]?=some x) (hx:∀j,Loc (M.X j).env.scope x) (hf:∀j,(M.X j).fn x=true\/(M.X j).env.scope.names.lookup x=some .local):WG M (.Name x pos) (jx i):=⟨_,fun j=>jeA (hN j) (by rw [M.hN j];exact hi) (hx j) (hf j),@jg1 M.fr i⟩
theorem Q5:WGs M [] JU:=⟨_,fun _=>jh0,@jnA M.fr⟩
theorem qr (h1:WG M e m) (h2:WGs M es ms) (hs:∀j,(assignEach (e::es) (M.X j).env).map (·.2)=assign e (M.X j).env::‹"ai"›.map (·.2):=by intro _;rfl):WGs M (e::es) (jV m ms):=let ⟨_,a1,a2⟩:=h1.h;let ⟨_,b1,b2⟩:=h2.h;⟨_,fun j=>jfN (a1 j) (b1 j) (hs j),@jle M.fr _ _ _ _ a2 b2⟩
theorem Q1 {k n:Nat} (h:WGs M es ms) (hn:∀j,‹"ai"›.length=n:=by intro _;rfl) (hst:∀j,‹"ai"›.findIdx? (·.1)=none:=by intro _;rfl):WG M (.Tuple es k pos) (JS n ms):=let ⟨_,a1,a2⟩:=h.h;⟨jm5 M.K n _,fun j=>by have:=jkZ (k:=k) (pos:=pos) (M.calm j) (a1 j) (hn j) (hst j);rw [M.hK j] at this;exact this,@jnm M.fr n _ _ a2⟩
theorem WI.toT {f:eg->Option (List D)} (h:WI M tg e f):WIT M tg e f:=let ⟨_,h1,h2⟩:=h.h;⟨_,h1,@IOk.t M.fr _ _ h2⟩
theorem jeZ (h:WE M e fe):WI M tg e (j7 fe):=let ⟨_,h1,h2⟩:=h.h;⟨jfP M.K _,fun j=>by have:=jix (tg:=tg) (h1 j);rw [M.hK j] at this;exact this,@joC M.fr _ _ h2⟩
theorem j2 (h:WT M e fe):WIT M tg e (j7 fe):=let ⟨_,h1,h2⟩:=h.h;⟨jfP M.K _,fun j=>by have:=jix (tg:=tg) (h1 j);rw [M.hK j] at this;exact this,@jl7 M.fr _ _ h2⟩
theorem jpB (h:WE M e fe):WI M tg e (jbM fe):=let ⟨_,h1,h2⟩:=h.h;⟨joM M.K _,fun j=>by have:=jpR (tg:=tg) (h1 j);rw [M.hK j] at this;exact this,@jqc M.fr _ _ h2⟩
theorem JW (hg:∀j,Gl (M.X j) "range") (hm:∀j,(M.X j).mg "range"=none) (ha:WAT M [a] fs) (h:qg a=false:=by rfl):WI M tg (.Call (.Name "range" p) [a] [] pos) (QW fs):=let ⟨_,h1,h2⟩:=ha.h;⟨_,fun j=>ji4 (hg j) (hm j) (h1 j) (by rw [qi h];rfl),@joL M.fr _ _ h2⟩
theorem jmR (hg:∀j,Gl (M.X j) "range") (hm:∀j,(M.X j).mg "range"=none) (ha:WAT M [a,b] fs) (h:qg a=false:=by rfl) (h':qg b=false:=by rfl):WI M tg (.Call (.Name "range" p) [a,b] [] pos) (jkj fs):=let ⟨_,h1,h2⟩:=ha.h;⟨_,fun j=>jja (hg j) (hm j) (h1 j) (by rw [qi h,qi h'];rfl) (by rw [qi h'];rfl),@jpE M.fr _ _ h2⟩
theorem jal {ts:List Expr} {k:Nat} {tp:Pos} (hg:∀j,Gl (M.X j) "zip") (hm:∀j,(M.X j).mg "zip"=none) (ha:WAT M [a,b] fs) (h:qg a=false:=by rfl) (h':qg b=false:=by rfl):WIT M (.Tuple ts k tp) (.Call (.Name "zip" p) [a,b] [] pos) (Q4 fs):=let ⟨_,h1,h2⟩:=ha.h;⟨joX M.K _,fun j=>by have:=jop (elts:=ts) (x1:=k) (tpos:=tp) (p:=p) (pos:=pos) (hg j) (hm j) (h1 j) (by rw [qi h,qi h'];rfl) (by rw [qi h'];rfl);rw [M.hK j] at this;exact this,@jo2 M.fr _ _ h2⟩
theorem jaw {ts:List Expr} {k:Nat} {tp:Pos} (hg:∀j,Gl (M.X j) "enumerate") (hm:∀j,(M.X j).mg "enumerate"=none) (ha:WA M [a] fs) (h:qg a=false:=by rfl):WI M (.Tuple ts k tp) (.Call (.Name "enumerate" p) [a] [] pos) (J7 fs):=let ⟨_,h1,h2⟩:=ha.h;⟨jlz M.K _,fun j=>by have:=jmY (elts:=ts) (x1:=k) (tpos:=tp) (p:=p) (pos:=pos) (hg j) (hm j) (h1 j) (by rw [qi h];rfl);rw [M.hK j] at this;exact this,@job M.fr _ _ h2⟩
variable {st:Stmt} {sts body:List Stmt} {F F' B:FS}
theorem qu:WSs M [] qj:=⟨_,fun _=>jmK,@jol M.fr⟩
theorem jn (h:WS M st F):WSs M [st] F:=let ⟨_,h1,h2⟩:=h.h;⟨_,fun j=>jmB (h1 j),h2⟩
theorem jg (h:WS M st F) (h':WSs M sts F'):WSs M (st::sts) (jz F F'):=let ⟨_,h1,h2⟩:=h.h;let ⟨_,k1,k2⟩:=h'.h;⟨_,fun j=>jj2 (h1 j) (k1 j),@jrj M.fr _ _ _ _ h2 k2⟩
theorem jml (h:WT M e fe) (hs:∀j,swapsWith e none pos.line (M.X j).env=pure false:=by intro _;rfl):WS M (.Expr e pos) (jcb fe):=let ⟨_,h1,h2⟩:=h.h;⟨_,fun j=>jhE (h1 j) (hs j),@jpx M.fr _ _ h2⟩
theorem j3 (h:WE M e fe):WS M (.Return (some e) pos) (qE fe):=let ⟨_,h1,h2⟩:=h.h;⟨_,fun j=>jgx (h1 j),@jqM M.fr _ _ h2⟩
theorem Jp (h:WO M e fo):WS M (.Return (some e) pos) (zy fo):=let ⟨_,h1,h2⟩:=h.h;⟨_,fun j=>jgx (h1 j),@joJ M.fr _ _ h2⟩
theorem jin (i:Nat) (hN:M.N[i]?=some x:=by rfl) (hv:autoParam (∀j,Vis (M.X j).env.scope x) QA.a7._auto_1) (hd:‹"p"›=false:=by decide)
 (hcd:(x == ("__classdict__":Str))=false:=by decide):WS M (.Return (some (.Name x p)) pos) (jcD i):=⟨_,fun j=>jgx ‹"R"›,@jod M.fr i⟩
theorem zP (hc:WC M c ga) (h:WSs M sts F) (h':WSs M body F'):WS M (.If c sts body pos) (Qa ga F F'):=let ⟨_,l1,l2⟩:=hc.h;let ⟨_,h1,h2⟩:=h.h;let ⟨_,k1,k2⟩:=h'.h;⟨_,fun j=>jru (l1 j) (h1 j) (k1 j),@jr2 M.fr _ _ _ _ _ _ l2 h2 k2⟩
theorem jH {i:Nat} {pos':Pos} (h:WE M e fe) (hN:∀j,(M.X j).N.Nodup) (hi:M.N[i]?=some x) (hx:∀j,Loc (M.X j).env.scope x) (hf:∀j,(M.X j).fn x=true\/(M.X j).env.scope.names.lookup x=some .local) (hs:∀j,swapsWith e (some (.Name x pos')) pos.line (M.X j).env=pure false:=by intro _;rfl) :
 WS M (.Assign [.Name x pos'] e pos) (jM i fe):=let ⟨_,h1,h2⟩:=h.h;⟨_,fun j=>jgO (hN j) (by rw [M.hN j];exact hi) (hx j) (h1 j) (hs j) (hf j),@jnH M.fr _ _ i h2⟩
theorem ZD {i:Nat} {pos':Pos} (h:WO M e fo) (hN:∀j,(M.X j).N.Nodup) (hi:M.N[i]?=some x) (hx:∀j,Loc (M.X j).env.scope x) (hf:∀j,(M.X j).fn x=true\/(M.X j).env.scope.names.lookup x=some .local) (hs:∀j,swapsWith e (some (.Name x pos')) pos.line (M.X j).env=pure false:=by intro _;rfl) :
 WS M (.Assign [.Name x pos'] e pos) (Jo i fo):=let ⟨_,h1,h2⟩:=h.h;⟨_,fun j=>jgO (hN j) (by rw [M.hN j];exact hi) (hx j) (h1 j) (hs j) (hf j),@jjX M.fr _ _ i h2⟩
theorem joI (h:WE M e fe) (hg:WG M tg m) (hs:∀j,swapsWithSole [tg] e pos.line (M.X j).env=pure false:=by intro _;rfl) (hw:∀j,swappedStores [tg] e (M.X j).env=pure none:=by intro _;rfl) (h1:∀j,(assignEach [tg] (M.X j).env).map (·.2)=[assign tg (M.X j).env]:=by intro _;rfl) :
 WS M (.Assign [tg] e pos) (ji6 m fe):=let ⟨_,a1,a2⟩:=h.h;let ⟨_,b1,b2⟩:=hg.h;⟨_,fun j=>jlG (a1 j) (b1 j) (hs j) (hw j) (h1 j),@jqA M.fr _ _ _ _ b2 a2⟩
theorem jk7 {i:Nat} {pos':Pos} {y:Str} {py:Pos} (hN:M.N[i]?=some y) (hv:∀j,Vis (M.X j).env.scope y) (hk:WE M b fb) (h:WE M e fe) (hd:(y == ("__debug__":Str))=false:=by decide) (hcd:(y == ("__classdict__":Str))=false:=by decide)
 (ha:autoParam (∀j v,assign (.Subscript (.Name y py) b pos') (M.X j).env v=(do
  let ov <- holding [v] (eval (.Name y py) (M.X j).env)
  let iv <- holding [v,ov] (eval b (M.X j).env)
  standAt pos'
  holding [v,ov,iv] (setItem ov iv v)
  release [v,ov,iv] [])) QA.a10._auto_1)
 (hs:∀j,swapsWithSole [.Subscript (.Name y py) b pos'] e pos.line (M.X j).env=pure false:=by intro _;rfl) (hw:∀j,swappedStores [.Subscript (.Name y py) b pos'] e (M.X j).env=pure none:=by intro _;rfl)
 (h1:∀j,(assignEach [.Subscript (.Name y py) b pos'] (M.X j).env).map (·.2)=[assign (.Subscript (.Name y py) b pos') (M.X j).env]:=by intro _;rfl):WS M (.Assign [.Subscript (.Name y py) b pos'] e pos) (jdv i fb fe):=
 let ⟨_,a1,a2⟩:=h.h;let ⟨_,b1,b2⟩:=hk.h;⟨_,fun j=>jlG (a1 j) (jpb ‹"R"› (b1 j) jfk (ha j)) (hs j) (hw j) (h1 j),@jql M.fr _ _ _ _ i b2 a2⟩
theorem jjQ (i:Nat) (h:WS M st F):WS M st (jeB i F):=let ⟨_,h1,h2⟩:=h.h;⟨_,h1,@jq9 M.fr _ _ i h2⟩
theorem zO (hi:WI M tg iter fo) (hg:WG M tg m) (hb:WSs M body B) (hp:autoParam (∀j,PassesOwn (model (M.X j).prog (M.X j).w) (M.X j).A (M.X j).env (M.X j).xe) QA.a11._auto_1) (hs:∀j x,foldedSetIterable iter (M.X j).env x=pure x:=by intro _ _;rfl):WS M (.For tg iter body [] pos) (zT fo m B):=let ⟨_,i1,i2⟩:=hi.h;let ⟨_,g1,g2⟩:=hg.h;let ⟨_,b1,b2⟩:=hb.h;⟨_,fun j=>jpD (hp j) (M.calm j) (i1 j) (g1 j) (b1 j) (hs j),@jqO M.fr _ _ _ _ _ _ i2 g2 b2⟩
theorem jco (hc:WC M c ga) (hb:WSs M body B) (hp:autoParam (∀j,PassesOwn (model (M.X j).prog (M.X j).w) (M.X j).A (M.X j).env (M.X j).xe) QA.a11._auto_1):WS M (.While c body [] pos) (JN ga B):=let ⟨_,c1,c2⟩:=hc.h;let ⟨_,b1,b2⟩:=hb.h;⟨_,fun j=>jk8 (hp j) (c1 j) (b1 j),@jmG M.fr _ _ _ _ c2 b2⟩
theorem Z1 {i:Nat} {y:Str} {py:Pos} (hN:M.N[i]?=some y) (hv:∀j,Vis (M.X j).env.scope y) (h:WE M e fe) (hd:(y == ("__debug__":Str))=false:=by decide) (hcd:(y == ("__classdict__":Str))=false:=by decide)
 (hbase:∀j,attributeBase (.Name y py) "append" (M.X j).env (eval (.Name y py) (M.X j).env)=eval (.Name y py) (M.X j).env:=by intro _;rfl) (hline:(apos.endLine == cpos.line)=true:=by rfl) (h':qg e=false:=by rfl)
 (hs:∀j,swapsWith (.Call (.Attribute (.Name y py) "append" apos) [e] [] cpos) none pos.line (M.X j).env=pure false:=by intro _;rfl):WS M (.Expr (.Call (.Attribute (.Name y py) "append" apos) [e] [] cpos) pos) (QE i fe):=
 let ⟨_,a1,a2⟩:=h.h
 ⟨_,fun j=>jhE (te:=tBM M.K "list" jeS _ _) (by have:=jnX (X:=M.X j) (apos:=apos) (cpos:=cpos) PySem.F.plainAttrs_list PySem.F.slot_list_append PySem.F.type_list_append jiK (Za (i:=i) (pos:=py) (by rw [M.hN j];exact hN) (hv j) hd hcd) (QI (a1 j) jba (qi h')) (hbase j) (by rw [qi h'];rfl) hline (qi h') (JM rfl);rw [M.hK j] at this;exact this) (hs j),@jrI M.fr _ _ i a2⟩
def Fm.blk (M:Fm) (N:List Str) (scope:Scope):Fm:=⟨M.ι×Addr×Shared×Hp×List Addr,fun i=>(M.X i.1).blk N scope i.2.1 i.2.2.1 i.2.2.2.1 i.2.2.2.2,M.K,N,fun i=>M.hK i.1,fun _=>rfl,fun i=>M.calm i.1⟩
variable {ifs:List Expr} {scope sc:Scope} {Lc Fn:List Str} {ix:List Nat}
theorem jY {i n:Nat} (hN:∀j,(M.X j).N.Nodup) (hi:M.N[i]?=some x) (hn:i<n) (hx:∀j,Loc (M.X j).env.scope x) (hf:∀j,(M.X j).fn x=true\/(M.X j).env.scope.names.lookup x=some .local):WL M n (.Name x pos) (jx i):=⟨_,fun j=>jeA (hN j) (by rw [M.hN j];exact hi) (hx j) (hf j),@jg1 M.fr i,jju hn⟩
def jqt (n:Nat) (t:TGs):Prop:=(∀xs σ H Q,t xs σ H Q->t xs σ H fun σ2 H2=>Q σ2 H2/\σ2.length=σ.length/\∀j,n<=j->σ2[j]?=σ[j]?)/\∀xs σ H (Q Q':St->Hp->Prop),(∀σ H,Q σ H->Q' σ H)->t xs σ H Q->t xs σ H Q'
structure WLs (M:Fm) (n:Nat) (tg:List Expr) (m:List D->eg->Option eg):Prop where
 h:∃t:TGs,(∀i,PGs (M.X i) tg t)/\@jiO M.fr t m/\jqt n t
theorem jcV {n:Nat}:WLs M n [] JU:=⟨jpn,fun _=>jh0,@jnA M.fr,fun xs σ H Q h=>⟨h.1,h.2,rfl,fun _ _=>rfl⟩,fun xs σ H Q Q' hq h=>⟨h.1,hq _ _ h.2⟩⟩
theorem Jd {i n:Nat} (hN:∀j,(M.X j).N.Nodup) (hi:M.N[i]?=some x) (hn:i<n) (hx:∀j,Loc (M.X j).env.scope x) (hf:∀j,(M.X j).fn x=true\/(M.X j).env.scope.names.lookup x=some .local) (h:WLs M n es ms)
 (hs:∀j,(assignEach (.Name x pos::es) (M.X j).env).map (·.2)=assign (.Name x pos) (M.X j).env::‹"ai"›.map (·.2):=by intro _;rfl):WLs M n (.Name x pos::es) (jV (jx i) ms):=
 let ⟨_,b1,b2,b3,b4⟩:=h.h
 ⟨_,fun j=>jfN (jeA (hN j) (by rw [M.hN j];exact hi) (hx j) (hf j)) (b1 j) (hs j),@jle M.fr _ _ _ _ (@jg1 M.fr i) b2,fun xs σ H Q ⟨v,r,e,q⟩=>⟨v,r,e,b4 _ _ _ _ _ (fun σ2 H2 ⟨q1,q2,q3⟩=>⟨q1,by rw [q2];simp,fun k hk=>by rw [q3 k hk,YM (by omega)]⟩) (b3 _ _ _ _ q)⟩,
  fun xs σ H Q Q' hq ⟨v,r,e,q⟩=>⟨v,r,e,b4 _ _ _ _ _ hq q⟩⟩
theorem jb3 {k n l:Nat} (h:WLs M n es ms) (hn:∀j,‹"ai"›.length=l:=by intro _;rfl) (hst:∀j,‹"ai"›.findIdx? (·.1)=none:=by intro _;rfl):WL M n (.Tuple es k pos) (JS l ms):=let ⟨_,a1,a2,a3,_⟩:=h.h;⟨jm5 M.K l _,fun j=>by have:=jkZ (k:=k) (pos:=pos) (M.calm j) (a1 j) (hn j) (hst j);rw [M.hK j] at this;exact this,@jnm M.fr l _ _ a2,fun x σ H Q ⟨a,xs,e,hq,hl,q⟩=>⟨a,xs,e,hq,hl,a3 _ _ _ _ q⟩⟩
theorem jS:WTs M [] ‹"k"›:=⟨_,fun _=>jmZ,@joF M.fr⟩
theorem jei (h:WC M e ga):WTs M [e] ga:=let ⟨_,h1,h2⟩:=h.h;⟨_,fun j=>jl0 (h1 j),h2⟩
theorem JV (hsc:∀j,(M.X j).env.scope=sc) (ok:LcOk sc M.N scope Fn ix) (hi:WIT M tg iter fo) (hg:WL ‹"P"› Lc.length tg m) (ht:WTs ‹"P"› ifs ga) (he:WE ‹"P"› e fe)
 (hs:∀j x,foldedSetIterable iter (M.X j).env x=pure x:=by intro _ _;rfl):WO M ‹"r"› (JT fo m ga fe Lc.length ix):=
 let ⟨_,i1,i2⟩:=hi.h;let ⟨_,g1,g2,g3⟩:=hg.h;let ⟨_,t1,t2⟩:=ht.h;let ⟨_,e1,e2⟩:=he.h
 ⟨_,fun j=>joT (hsc j) (M.hN j) (M.calm j) ok (i1 j) (fun C s H fp=>g1 (j,C,s,H,fp)) g3 (fun C s H fp=>t1 (j,C,s,H,fp)) (fun C s H fp=>e1 (j,C,s,H,fp)) (hs j),@jpG M.fr _ _ _ _ _ _ _ _ _ _ i2 g2 t2 e2⟩
def jly (sc scope:Scope):Scope:={ scope with names:=scope.names.map fun (n,k)=>if (k == NameKind.free && sc.kind == .function && sc.names.lookup n == some .cell) then (n,NameKind.cell) else (n,k) }
theorem jra {N1:List Str} {scope1:Scope} (hsc:∀j,(M.X j).env.scope=sc) (ok:LcOk (jly sc scope1) N1 scope Fn ix) (hi:WIT (M.blk N1 scope1) tg iter fo) (hg:WL ((M.blk N1 scope1).blk (Lc++Fn) scope) Lc.length tg m) (ht:WTs ((M.blk N1 scope1).blk (Lc++Fn) scope) ifs ga) (he:WE ((M.blk N1 scope1).blk (Lc++Fn) scope) e fe)
 (hs:∀j x,foldedSetIterable iter ((M.blk N1 scope1).X j).env x=pure x:=by intro _ _;rfl):WO (M.blk N1 scope1) ‹"r"› (JT fo m ga fe Lc.length ix):=
 JV (M:=M.blk N1 scope1) (sc:=jly sc scope1) (fun j=>by rw [<-hsc j.1];rfl) ok hi hg ht he hs
theorem jdF {i:Nat} {y:Str} {py spos:Pos} (hNd:∀j,(M.X j).N.Nodup) (hy:M.N[i]?=some y) (hyl:∀j,(M.X j).env.scope.names.lookup y=some .local) (hsc:∀j,(M.X j).env.scope=sc) (ok:LcOk sc M.N scope Fn ix) (hi:WIT M tg iter fo) (hg:WL ‹"P"› Lc.length tg m) (ht:WTs ‹"P"› ifs ga) (he:WE ‹"P"› e fe)
 (hsw:∀j,swapsWith ‹"r"› (some (.Name y py)) spos.line (M.X j).env=pure true:=by intro _;rfl) (hs:∀j x,foldedSetIterable iter (M.X j).env x=pure x:=by intro _ _;rfl):WS M (.Assign [.Name y py] ‹"r"› spos) (jM i (jN (JT fo m ga fe Lc.length ix))):=
 let ⟨_,i1,i2⟩:=hi.h;let ⟨_,g1,g2,g3⟩:=hg.h;let ⟨_,t1,t2⟩:=ht.h;let ⟨_,e1,e2⟩:=he.h
 ⟨_,fun j=>Z2 (hNd j) (by rw [M.hN j];exact hy) (hyl j) (hsc j) (M.hN j) (M.calm j) ok (i1 j) (fun C s H fp=>g1 (j,C,s,H,fp)) g3 (fun C s H fp=>t1 (j,C,s,H,fp)) (fun C s H fp=>e1 (j,C,s,H,fp)) (hsw j) (hs j),@jnH M.fr _ _ i (@EOkO.e M.fr _ _ (@jpG M.fr _ _ _ _ _ _ _ _ _ _ i2 g2 t2 e2))⟩
theorem jou {i:Nat} {y:Str} {py spos:Pos} (hNd:∀j,(M.X j).N.Nodup) (hy:M.N[i]?=some y) (hyl:∀j,(M.X j).env.scope.names.lookup y=some .local) (hsc:∀j,(M.X j).env.scope=sc) (ok:LcOk sc M.N scope Fn ix) (hi:WIT M tg iter fo) (hg:WL ‹"P"› Lc.length tg m) (ht:WTs ‹"P"› ifs ga) (he:WE ‹"P"› e fe)
 (hsw:∀j,swapsWith ‹"r"› (some (.Name y py)) spos.line (M.X j).env=pure true:=by intro _;rfl) (hs:∀j x,foldedSetIterable iter (M.X j).env x=pure x:=by intro _ _;rfl):WS M (.Assign [.Name y py] ‹"r"› spos) (Jo i (JT fo m ga fe Lc.length ix)):=
 let ⟨_,i1,i2⟩:=hi.h;let ⟨_,g1,g2,g3⟩:=hg.h;let ⟨_,t1,t2⟩:=ht.h;let ⟨_,e1,e2⟩:=he.h
 ⟨_,fun j=>Z2 (hNd j) (by rw [M.hN j];exact hy) (hyl j) (hsc j) (M.hN j) (M.calm j) ok (i1 j) (fun C s H fp=>g1 (j,C,s,H,fp)) g3 (fun C s H fp=>t1 (j,C,s,H,fp)) (fun C s H fp=>e1 (j,C,s,H,fp)) (hsw j) (hs j),@jjX M.fr _ _ i (@jpG M.fr _ _ _ _ _ _ _ _ _ _ i2 g2 t2 e2)⟩
end
section
variable {P:Program} {w:World} {K:PySem.W.Frag} {mg:Str->Option Value} {base:Heap} {y qual:Str} {st:Stmt} {f:Addr} {fd:FuncData} {N ps:List Str} {k a n:Nat} {m:FS}
abbrev jnP (P:Program) (w:World) (K:PySem.W.Frag) (mg:Str->Option Value) (base:Heap) (N:List Str) (qual:Str) (scope:Scope) (f:Addr) (cdv:Value) (A:Around) (outer:List PySem.Env) (s:Shared) (H:Hp) (E:XK):Fm:=⟨Unit,fun _=>(jgy JC P w K mg base N qual scope f cdv A outer s H E).nox,K,N,fun _=>rfl,fun _=>rfl,fun _=>rfl⟩
theorem zo (F:Fun K y qual st f fd) (S:FnScope N ps (jd st)) (ha:a=ps.length) (hn:N.length=n)
 (h:∀(cdv:Value) (A:Around) (outer:List PySem.Env) (s:Shared) (H:Hp) (E:XK),Room k ‹"ag"›->WSs (jnP P w K mg base N qual (jd st) f cdv A outer s H E) (jF st) m) :
 FnOk P w K mg base JC (k+1) f fd ps (@spS ⟨K⟩ (qQ a n m)):=by
 letI:Fr:=⟨K⟩
 refine F.ok S (fun vs H Q E h=>(jri h).trans ha) (fun cdv A outer s H vs Q E hr q=>?_);obtain ⟨t,h1,h2⟩:=(h cdv A outer s H E hr).h;exact ⟨t,h1 (),jn8 h2 (by rw [<-hn]) q⟩
theorem Ze (F:Fun K y qual st f fd) (S:FnScope N ps (jd st)) (ha:a=ps.length) (hn:N.length=n)
 (h:∀(cdv:Value) (A:Around) (outer:List PySem.Env) (s:Shared) (H:Hp) (E:XK),Room k ‹"ag"›->WSs (jnP P w K mg base N qual (jd st) f cdv A outer s H E) (jF st) m) :
 FnOk P w K mg base JC (k+1) f fd ps (@spO ⟨K⟩ (Je a n m)):=by
 letI:Fr:=⟨K⟩
 refine F.ok S (fun vs H Q E h=>(jrd h).trans ha) (fun cdv A outer s H vs Q E hr q=>?_);obtain ⟨t,h1,h2⟩:=(h cdv A outer s H E hr).h;exact ⟨t,h1 (),jo9 h2 (by rw [<-hn]) q⟩
end
end L2
namespace L2
open PySem PySem.Spec PyProof.Rows
def qW:List Int->List D->Int->Option D
 | i::ks,d::ds,k=>if i=k then some d else qW ks ds k
 | _,_,_=>none
def jkQ:List Int->List D->Int->D->List D
 | i::ks,d::ds,k,e=>(if i=k then e else d)::jkQ ks ds k e
 | _,_,_,_=>[]
def jdf:List Int->List V->Int->V->List V
 | i::ks,d::ds,k,e=>(if i=k then e else d)::jdf ks ds k e
 | _,_,_,_=>[]
section
variable [Fr] {G H:Hp}
theorem jaO {i:Int} {ks:List Int} {v:V} {vs:List V}:qO (i::ks) (v::vs)=(Sum.inl i,v)::qO ks vs:=rfl
theorem jcd {vs:List V} {ds:List D} (r:Reps G vs ds):∀{ks:List Int} (k:Int),ks.length=vs.length->
 (∀d,qW ks ds k=some d->∃v,ja2 (qO ks vs) (Sum.inl k)=some v/\Rep G v d)/\(qW ks ds k=none->ja2 (qO ks vs) (Sum.inl k)=none):=by
 induction vs generalizing ds with
 | nil=>
   intro ks k hl;cases ks with
   | nil=>have hn:qW [] ds k=none:=rfl;rw [hn];exact ⟨fun d h=>(nomatch h),fun _=>rfl⟩
   | cons i ks=>cases hl
 | cons v vs ih=>
   intro ks k hl;cases ks with
   | nil=>cases hl
   | cons i ks=>
     cases r with
     | @cons _ d _ ds r t=>
       have ih':=ih t (ks:=ks) k (by simpa using hl);by_cases e:i=k
       . refine ⟨fun d' h=>⟨v,?_,?_⟩,fun h=>?_⟩
         . rw [jaO];exact jax (by rw [e])
         . have h':(if i=k then some d else qW ks ds k)=some d':=h;rw [if_pos e] at h';cases h';exact r
         . have h':(if i=k then some d else qW ks ds k)=none:=h;rw [if_pos e] at h';cases h'
       . have h0:qW (i::ks) (d::ds) k=qW ks ds k:=if_neg e;rw [h0,jaO,ja3 (show ¬(Sum.inl i:ze)=Sum.inl k from fun z=>e (by injection z))];exact ih'
theorem jfq {vs:List V} {ds:List D} (r:Reps G vs ds) {ks:List Int} (k:Int) (hl:ks.length=vs.length):(ja2 (qO ks vs) (Sum.inl k)).isSome=(qW ks ds k).isSome:=by
 obtain ⟨h1,h2⟩:=jcd r k hl;cases e:qW ks ds k with
 | none=>rw [h2 e];rfl
 | some d=>obtain ⟨v,hv,_⟩:=h1 d e;rw [hv];rfl
theorem jgi {v:V}:∀{ks:List Int} {vs:List V} {k:Int},ks.length=vs.length->(jdf ks vs k v).length=ks.length
 | [],[],_,_=>rfl
 | [],_::_,_,h=>by cases h
 | _::_,[],_,h=>by cases h
 | i::ks,u::vs,k,h=>by show (jdf ks vs k v).length+1=ks.length+1;rw [jgi (by simpa using h)]
theorem jlu {v:V} {d:D} (q:Rep G v d) {vs:List V} {ds:List D} (r:Reps G vs ds):∀{ks:List Int} {k:Int},Reps G (jdf ks vs k v) (jkQ ks ds k d):=by
 induction vs generalizing ds with
 | nil=>intro ks k;cases r;cases ks <;> exact .nil
 | cons u vs ih=>
   intro ks k;cases r with
   | cons a t=>
     cases ks with
     | nil=>exact .nil
     | cons i ks=>
       refine .cons ?_ (ih t);by_cases e:i=k
       . rw [if_pos e,if_pos e];exact q
       . rw [if_neg e,if_neg e];exact a
theorem jiA {v:V}:∀{ks:List Int} {vs:List V} {k:Int},ks.length=vs.length->(qO ks vs).map (fun kv=>if kv.1=(Sum.inl k:ze) then (kv.1,v) else kv)=qO ks (jdf ks vs k v)
 | [],[],_,_=>rfl
 | [],_::_,_,h=>by cases h
 | _::_,[],_,h=>by cases h
 | i::ks,u::vs,k,h=>by
   show _=qO (i::ks) ((if i=k then v else u)::jdf ks vs k v);rw [jaO,jaO,List.map_cons,jiA (by simpa using h)];congr 1;by_cases e:i=k
   . subst e;simp
   . rw [if_neg (show ¬(Sum.inl i:ze)=Sum.inl k from fun z=>e (by injection z)),if_neg e]
theorem jiu {v:V} {k:Int}:∀{ks:List Int} {vs:List V},ks.length=vs.length->qO ks vs++[(Sum.inl k,v)]=qO (ks++[k]) (vs++[v])
 | [],[],_=>rfl
 | [],_::_,h=>by cases h
 | _::_,[],h=>by cases h
 | i::ks,u::vs,h=>by show (Sum.inl i,u)::(qO ks vs++[(Sum.inl k,v)])=qO (i::(ks++[k])) (u::(vs++[v]));rw [jiu (by simpa using h)];rfl
omit [Fr] in
theorem jeT {ks:List Int} {vs:List V} (h:ks.length=vs.length):(qO ks vs).length=ks.length:=by unfold qO;simp [h]
def jow (neg:Bool):R2:=fun x y H Q=>∃a o,y=.ref a/\jfY H a x o/\Q (.bl (neg != o.isSome)) H
def jah (neg:Bool):D->D->Option D
 | .int i,.dic ks ds=>some (.bl (neg != (qW ks ds i).isSome))
 | _,_=>none
theorem jkR {neg:Bool} {x y d:D} (q:jah neg x y=some d):∃i ks ds,x=.int i/\y=.dic ks ds/\D.bl (neg != (qW ks ds i).isSome)=d:=by
 cases x with
 | int i=>
   cases y with
   | dic ks ds=>exact ⟨i,ks,ds,rfl,rfl,Option.some.inj q⟩
   | _=>exact qe q
 | _=>exact qe q
theorem jnk (neg:Bool):ROk (jow neg) (jah neg):=fun G H x y dx dy d Q s rx ry q k=>by
 obtain ⟨i,ks,ds,rfl,rfl,rfl⟩:=jkR q
 (have hh:=RepT.of_int rx;subst hh)
 cases ry with
 | @dic a _ vs _ h hl r=>refine ⟨a,ja2 (qO ks vs) (Sum.inl i),rfl,.inl ⟨_,Sum.inl i,h,rfl,rfl⟩,?_⟩;rw [jfq r i hl];exact k _ G H (.refl s) (.bl _)
def jiw:D->D->Option D
 | .dic ks ds,.int i=>qW ks ds i
 | _,_=>none
theorem jjy {x y d:D} (q:jiw x y=some d):∃i ks ds,x=.dic ks ds/\y=.int i/\qW ks ds i=some d:=by
 cases x with
 | dic ks ds=>
   cases y with
   | int i=>exact ⟨i,ks,ds,rfl,rfl,q⟩
   | _=>exact qe q
 | _=>exact qe q
theorem joY {td ty:TE} {fd fk:eg->Option D} (hd:zR td fd) (hk:zR ty fk):EOk (jnn td ty) (js jiw fd fk):=fun G0 H0 G H σ ρ Q d e q k=>by
 obtain ⟨x,qa,q⟩:=bind_some q;obtain ⟨y,qb,q⟩:=bind_some q;obtain ⟨i,ks,ds,rfl,rfl,q⟩:=jjy q;refine hd G0 H0 G H σ ρ _ _ e qa fun u G1 H1 x1 r1=>?_;refine hk G0 H0 G1 H1 σ ρ _ _ (e.grow x1) qb fun v G2 H2 x2 r2=>?_;have r1':=r1.mono x2.gg x2.hh;cases r1' with
 | @dic a _ vs _ h hl r=>
   (have hh:=RepT.of_int r2;subst hh)
   obtain ⟨v,h1,h2⟩:=(jcd r i hl).1 d q;exact ⟨a,v,rfl,.inl ⟨_,Sum.inl i,h,rfl,h1.symm⟩,k v G2 H2 (x1.trans x2) h2⟩
def EOkD (t:TE) (f:eg->Option (List Int×List D)):Prop:=∀G0 H0 G H σ ρ (Q:VK) p,EnvOk G0 H0 G H σ ρ->f ρ=some p->
 (∀a vs G' H',Ext G H G' H'->H a=none->G' a=none->H' a=some (.dK (qO p.1 vs))->p.1.length=vs.length->Reps G' vs p.2->Q (.ref a) H')->t σ H Q
def tFz (t:TE):TE:=fun σ H Q=>t σ H fun v H1=>∃a kvs,v=.ref a/\H1 a=some (.dK kvs)/\∀o,Q v (upd H1 a (.frz o (.dK kvs)))
def jp4 (f:eg->Option (List Int×List D)):eg->Option D:=fun ρ=>(f ρ).map fun p=>.dic p.1 p.2
theorem EOkD.e {t:TE} {f:eg->Option (List Int×List D)} (h:EOkD t f):EOk (tFz t) (jp4 f):=fun G0 H0 G H σ ρ Q d e q k=>by
 unfold jp4 at q;cases z:f ρ with
 | none=>rw [z] at q;cases q
 | some ds=>rw [z] at q;cases q;refine h G0 H0 G H σ ρ _ ds e z fun a vs G' H' x hn hg ha hl r=>⟨a,_,rfl,ha,fun o=>?_⟩;have x':Ext G H G' (upd H' a (.frz o (.dK (qO ds.1 vs)))):=⟨fun b u w=>by rw [jA (jE w hn)];exact x.hh b u w,x.gg,fun b u w=>by rw [jA (jE w hg)];exact x.gh b u w,x.nw⟩;exact k _ _ _ (x'.freeze hn hg jC) (.dic jC hl (r.mono (.upd hg)))
def jli:eg->Option (List Int×List D):=fun _=>some ([],[])
theorem jpd:EOkD jj4 jli:=fun G0 H0 G H σ ρ Q p e q k hp hn=>by cases q;exact k hp [] G _ (.new e.same hn) hn (e.same.free hn) (by rw [jC];rfl) rfl .nil
def jkN (fk fv:eg->Option D):eg->Option (List Int×List D):=fun ρ=>match fk ρ,fv ρ with
 | some (.int i),some d=>some ([i],[d])
 | _,_=>none
theorem jo3 {tk tv:TE} {fk fv:eg->Option D} (hk:EOk tk fk) (hv:EOk tv fv):EOkD (jnv [(tk,tv)]) (jkN fk fv):=fun G0 H0 G H σ ρ Q p e q k a ha=>by
 unfold jkN at q;split at q
 . rename_i i d z1 z2;cases q;have x0:Ext G H G (upd H a (.dK [])):=.new e.same ha;refine hk _ _ _ _ _ _ _ _ (e.grow x0) z1 fun x G1 H1 x1 r1=>hv _ _ _ _ _ _ _ _ ((e.grow x0).grow x1) z2 fun y G2 H2 x2 r2=>?_
   (have hh:=Rep.of_int r1;subst hh)
   have h2:H2 a=some (.dK []):=(x1.trans x2).hh _ _ jC;have ga:G2 a=none:=(x1.trans x2).gone (e.same.free ha) jC;refine ⟨h2,[(Sum.inl i,y)],rfl,by show 1<=15;decide,?_⟩;have x3:Ext G H G2 H2:=x0.trans (x1.trans x2);refine k a [y] G2 _ ⟨fun b o z=>?_,x3.gg,fun b o z=>?_,x3.nw⟩ ha ga ?_ rfl (.cons r2 .nil)
   . rw [jA (jE z ha)];exact x3.hh b o z
   . rw [jA (jE z ga)];exact x3.gh b o z
   . rw [jC];rfl
 . cases q
def jev:List D->Option (List Int×List D)
 | [.dic ks ds]=>some (ks,ds)
 | _=>none
def jka:List V->Hp->VK->Prop:=fun xs H Q=>∃a kvs,xs=[.ref a]/\Rd H a (.dK kvs)/\∀p,H p=none->Q (.ref p) (upd H p (.dK kvs))
theorem jmX {As:TA} {fs:eg->Option (List D)} (h:jaN As fs):EOkD (tCB jka As) (jk jev fs):=fun G0 H0 G H σ ρ Q p e q k=>by
 obtain ⟨ds,q1,q2⟩:=bind_some q;refine h _ _ _ _ _ _ _ _ e q1 fun vs G1 H1 x1 r1=>?_;unfold jev at q2;split at q2
 . cases q2;cases r1 with
   | cons r t=>cases t;obtain ⟨_,_,rfl,h,hl,r⟩:=r.of_dic;exact ⟨_,_,rfl,h,fun b hb=>k b _ G1 _ (x1.trans (.new x1.gh hb)) (x1.hh.free hb) (x1.gh.free hb) jC hl r⟩
 . cases q2
def jcQ:List D->Option (List D)
 | [.dic ks _]=>if zx ks.length then some (ks.map .int) else none
 | _=>none
def jkG:List V->Hp->VK->Prop:=fun xs H Q=>∃a ks vs,xs=[.ref a]/\Rd H a (.dK (qO ks vs))/\ks.length=vs.length/\∀p,H p=none->Q (.ref p) (upd H p (.lst (ks.map V.int)))
theorem jmd:jhX jkG jcQ:=fun G H xs ds es Q s r q k=>by
 unfold jcQ at q;split at q
 . split at q
   . cases q;cases r with
     | cons r t=>cases t;obtain ⟨_,_,rfl,h,hl,r⟩:=r.of_dic;exact ⟨_,_,_,rfl,h,hl,fun b hb=>k b _ G _ (.new s hb) hb (s.free hb) jC (Reps.of_ints _)⟩
   . cases q
 . cases q
def jfo (i:Nat) (fo:eg->Option (List Int×List D)):FS:=fun ρ=>match fo ρ with
 | some p=>.next (ρ.set i (.od p.1 p.2))
 | none=>.fail
theorem jos {te:TE} {fo:eg->Option (List Int×List D)} (i:Nat) (h:EOkD te fo):ZJ (jdA te (ZK i)) (jfo i fo):=fun G0 H0 G H σ ρ E e q=>by
 unfold jfo at q;split at q
 . rename_i p z;exact h _ _ _ _ _ _ _ _ e z fun a vs G' H' x hn hg hh hl r=>q G' H' _ x.gg (e.setD x hn hg hh hl r)
 . exact q.elim
def jkv (t:TE):TS:=fun D σ H=>t σ H fun v H1=>∃a kvs,v=.ref a/\H1 a=some (.dK kvs)/\∀o,D.rt v (upd H1 a (.frz o (.dK kvs)))
def jgl (i:Nat):FS:=fun ρ=>match ρ[i]? with
 | some (.od ks ds)=>.ret (.dic ks ds)
 | _=>.fail
theorem jpp (i:Nat):ZJ (jkv (je1 i)) (jgl i):=fun G0 H0 G H σ ρ E e q=>by
 unfold jgl at q;split at q
 . rename_i ks ds z;obtain ⟨a,vs,h1,h2,h3,h4,hl,h5⟩:=e.od z;refine ⟨_,h1,a,_,rfl,h4,fun o=>?_⟩;have x':Ext G0 H0 G (upd H a (.frz o (.dK (qO ks vs)))):=⟨fun b u w=>by rw [jA (jE w h2)];exact e.ext.hh b u w,e.ext.gg,fun b u w=>by rw [jA (jE w h3)];exact e.same b u w,e.ext.nw⟩;exact q _ _ _ (x'.freeze h2 h3 jC) (.dic jC hl (h5.mono (.upd h3)))
 . exact q.elim
def jd1 (ks:List Int) (k:Int):List Int:=if k∈ks then ks else ks++[k]
def jif (ks:List Int) (ds:List D) (k:Int) (d:D):List D:=if k∈ks then jkQ ks ds k d else ds++[d]
theorem jmE {ks:List Int} {vs:List V} {k:Int} (hl:ks.length=vs.length):((qO ks vs).any fun kv=>decide (kv.1=(Sum.inl k:ze)))=decide (k∈ks):=by
 induction ks generalizing vs with
 | nil=>rfl
 | cons i ks ih=>
   cases vs with
   | nil=>cases hl
   | cons v vs=>
     rw [jaO,List.any_cons,ih (by simpa using hl)];by_cases e:i=k
     . subst e;simp
     . have:¬(Sum.inl i:ze)=Sum.inl k:=fun z=>e (by injection z);simp [this,Ne.symm e]
def jbv (i:Nat) (fk fv:eg->Option D):FS:=fun ρ=>match ρ[i]?,fv ρ,fk ρ with
 | some (.od ks ds),some d,some (.int k)=>if zx ks.length then .next (ρ.set i (.od (jd1 ks k) (jif ks ds k d))) else .fail
 | _,_,_=>.fail
theorem jo1 {tk tv:TE} {fk fv:eg->Option D} (i:Nat) (hk:EOk tk fk) (hv:EOk tv fv):ZJ (jnN (je1 i) tk tv) (jbv i fk fv):=fun G0 H0 G H σ ρ E e q=>by
 unfold jbv at q;split at q
 . rename_i ks ds d k z1 z2 z3;split at q
   . rename_i hz;obtain ⟨a,vs,h1,h2,h3,h4,hl,h5⟩:=e.od z1;refine hv _ _ _ _ _ _ _ _ e z2 fun v G' H' x r=>⟨_,h1,hk _ _ _ _ _ _ _ _ (e.grow x) z3 fun w G2 H2 x2 r2=>?_⟩
     (have hh:=Rep.of_int r2;subst hh)
     have xx:=x.trans x2;have e':=(e.grow x).grow x2;have h5':=h5.mono xx.gg;have r':=r.mono x2.gg;refine ⟨a,_,rfl,.inl ⟨qO ks vs,Sum.inl k,xx.hh _ _ h4,rfl,by rw [jeT hl];exact Zo hz,rfl⟩,?_⟩;have key:ZG (qO ks vs) (Sum.inl k) v=qO (jd1 ks k) (if k∈ks then jdf ks vs k v else vs++[v]):=by
       unfold ZG jd1;rw [jmE hl];by_cases hm:k∈ks
       . rw [if_pos (YX hm),if_pos hm,if_pos hm,jiA hl]
       . rw [if_neg (by simpa using hm),if_neg hm,if_neg hm,jiu hl]
     rw [key];refine q G2 _ σ xx.gg (e'.putD z1 h1 ?_ ?_)
     . unfold jd1;by_cases hm:k∈ks
       . rw [if_pos hm,if_pos hm,jgi hl]
       . rw [if_neg hm,if_neg hm];simp [hl]
     . unfold jif;by_cases hm:k∈ks
       . rw [if_pos hm,if_pos hm];exact jlu r' h5'
       . rw [if_neg hm,if_neg hm];exact h5'.snoc r'
   . exact q.elim
 . exact q.elim
end
def Itd (a:Addr) (o:Obj):It:=⟨fun i H=>∃ks vs,H a=some (.frz o (.dK (qO ks vs)))/\ks.length=vs.length/\i<ks.length,
 fun i H x H'=>H'=H/\∀ks vs,H a=some (.frz o (.dK (qO ks vs)))->ks.length=vs.length->∃k,ks[i]?=some k/\x=.int k,fun i H=>∃ks vs,H a=some (.frz o (.dK (qO ks vs)))/\ks.length=vs.length/\ks.length<=i⟩
def jqD (tl:TE):TI:=fun σ H R=>tl σ H fun x H1=>∃a o ks vs,x=.ref a/\H1 a=some (.frz o (.dK (qO ks vs)))/\ks.length=vs.length/\R (Itd a o) H1
section
variable [Fr]
def jd4 (fe:eg->Option D):eg->Option (List D):=fun ρ=>match fe ρ with
 | some (.dic ks _)=>some (ks.map .int)
 | _=>none
omit [Fr] in
theorem jn1 {o o':Obj} {ks ks':List Int} {vs vs':List V} (hl:ks.length=vs.length) (hl':ks'.length=vs'.length) (h:HO.frz o (.dK (qO ks vs))=.frz o' (.dK (qO ks' vs'))):ks=ks':=by injection h with _ h;injection h with h;have e:=congrArg (List.map fun kv:ze×V=>kv.1) h;unfold qO at e;rw [List.map_fst_zip (by simp [hl]),List.map_fst_zip (by simp [hl'])] at e;exact (List.map_inj_right fun x y z=>by injection z).mp e
theorem jqH {te:TE} {fe:eg->Option D} (h:EOk te fe):IOk (jqD te) (jd4 fe):=fun G0 H0 G H σ ρ R ds e q k=>by
 unfold jd4 at q;split at q
 . rename_i ks' ds' z;cases q;refine h _ _ _ _ _ _ _ _ e z fun v G1 H1 x1 r1=>?_;cases r1 with
   | @dic a o _ vs _ h hl r=>refine ⟨a,o,ks',vs,rfl,x1.gh _ _ h,hl,k (Itd a o) G1 H1 x1 fun i G2 H2 s1 s2 s3=>?_⟩;have h2:H2 a=some (.frz o (.dK (qO ks' vs))):=s2 _ _ h;refine ⟨fun d hd=>?_,fun hd=>⟨ks',vs,h2,hl,by simpa using hd⟩⟩;rw [List.getElem?_map] at hd;obtain ⟨i',hi,rfl⟩:=map_some hd;refine ⟨⟨ks',vs,h2,hl,(Yi.mp hi).1⟩,fun x H' ⟨e1,e2⟩=>?_⟩;obtain ⟨k',hk',rfl⟩:=e2 ks' vs h2 hl;rw [hi] at hk';cases hk';subst e1;exact ⟨G2,.refl s3,.int _⟩
 . cases q
end
section
variable {X:Cx}
theorem jpV (hu:X.A.units+1<cLine):OpR X (compareOp .In) (jow false):=fun tf s σ H x y v u Q I rx ry ⟨a,o,e,g,q⟩=>by subst e;obtain rfl:u=Value.ref a:=ry;exact jr6 hu I g rx fun s' I'=>⟨.bl o.isSome,H,I',rfl,by simpa using q⟩
theorem jjb (hu:X.A.units+1<cLine):OpR X (compareOp .NotIn) (jow true):=fun tf s σ H x y v u Q I rx ry ⟨a,o,e,g,q⟩=>by subst e;obtain rfl:u=Value.ref a:=ry;exact jl5 hu I g rx fun s' I'=>⟨.bl (!o.isSome),H,I',rfl,by cases o <;> exact q⟩
theorem jhq:CallR X (.type "dict") jka:=fun tf s σ H xs us Q I r ⟨a,kvs,e,h,q⟩=>by subst e;obtain ⟨u,rfl,ru⟩:=jbG r;cases ru;exact jj8 I h fun p s' hp I'=>⟨.ref p,_,I',rfl,q p hp⟩
theorem Inv.fz {tf:List (Addr×Obj)} {σ:St} {H:Hp} {s:Shared} {a:Addr} {kvs:List (ze×V)} (I:Inv X tf σ H s) (h:H a=some (.dK kvs)):∃o,Inv X tf σ (upd H a (.frz o (.dK kvs))) s:=by
 have ok:=(show ObjOk X.prog X.w H s.heap a (.dK kvs) from I.hok a _ h);obtain ⟨o,ho⟩:∃o,s.heap.get? a=some o:=let ⟨_,_,_,_,o,_,_,e,_⟩:=ok;⟨o,e⟩;have ne:∀b (u:HO),H b=some u->u≠.dK kvs->b≠a:=fun b u e hu z=>by subst z;rw [h] at e;exact hu (Option.some.inj e).symm
 refine ⟨o,?_⟩;have:=I.un (t':=s.toks) (h':=s.heap) (H':=upd H a (.frz o (.dK kvs))) ⟨fun b ob e _ _ _=>e,fun b ob e _ _ _=>⟨ob.slots,e⟩,fun b ob _ n _=>by rw [jA fun z=>by subst z;rw [h] at n;cases n];exact n,fun b ob e _=>⟨ob,e⟩,
  fun b xs e=>by rw [jA (ne b _ e (fun z=>by cases z))];exact e,fun b ob u e=>by rw [jA (ne b _ e (fun z=>by cases z))];exact e,fun b ps e=>⟨#[],by rw [jA (ne b _ e (fun z=>by cases z)),Array.append_empty];exact e⟩⟩ ?_
 . exact this
 . intro b u e;by_cases hb:b=a
   . subst hb;rw [jC] at e;cases e;exact ⟨ho,ok⟩
   . rw [jA hb] at e;refine (I.hok b u e).stay (fun c v _ q=>q) (fun c q=>?_) fun c xs q=>?_
     . rw [jA (ne c _ q (fun z=>by cases z))];exact q
     . rw [jA (ne c _ q (fun z=>by cases z))];exact q
theorem jk3 {e:Expr} {t:TE} {pos:Pos} (he:PE X e t):PS X (.Return (some e) pos) (jkv t):=fun tf s σ H D I h=>
 wpAny_Return_some (qt (he tf s σ H _ I h) fun v s1 z=>by obtain ⟨x,H1,I1,r1,a,kvs,ex,ha,q⟩:=z;obtain ⟨o,I2⟩:=I1.fz ha;exact ⟨x,σ,_,I2,r1,q o⟩)
def epO (o:Obj):Nat:=match o.data with
 | .dict _ ep=>ep
 | _=>0
def szO (o:Obj):Nat:=match o.data with
 | .dict es _=>es.size
 | _=>0
theorem jkq {tf:List (Addr×Obj)} {σ:St} {H:Hp} {s:Shared} {a:Addr} {o:Obj} {kvs:List (ze×V)} (I:Inv X tf σ H s) (h:H a=some (.frz o (.dK kvs))) :
 ∃vs,KV kvs vs/\s.heap.DictAt (jX X.prog X.w) a vs (epO o)/\vs.length=szO o/\(a == sysModules)=false/\kvs.length<=sizeLine:=by
 obtain ⟨ho,z,hd,vs,r,o',es,ep,h1,h2,h3,h4,h5,h6⟩:=(show ObjOk X.prog X.w H s.heap a (.frz o (.dK kvs)) from I.hok a _ h);rw [ho] at h1;cases h1;have e1:epO o=ep:=by unfold epO;rw [h3]
 have e2:szO o=es.size:=by unfold szO;rw [h3]
 refine ⟨vs,r,⟨o,es,ho,h2,by rw [e1];exact h3,h4,h5,h6⟩,?_,hd,z⟩;rw [e2,<- h5.length];simp
theorem jie {P:Program} {w:World} {i:Int} {u:Value} (h:(jX P w).is (Sum.inl i) u=true):RelV (.int i) u:=by have h':Q2 (Sum.inl i) u=true:=h;cases u <;> simp [Q2,Value.isInt] at h' <;> first | (subst h';exact ⟨_,rfl⟩) | skip
theorem jkx {ks:List Int} {vs:List V} {ws:List (ze×Value)} (hl:ks.length=vs.length) (r:KV (qO ks vs) ws):ws.length=ks.length/\∀(i:Nat) k,ks[i]?=some k->∃u,ws[i]?=some (Sum.inl k,u):=by
 have tL:ws.length=ks.length:=by rw [<-KV.length r,jeT hl]
 refine ⟨tL,fun i k hk=>?_⟩;have hi:i<vs.length:=by rw [<-hl];exact (Yi.mp hk).1
 have hz:(qO ks vs)[i]?=some (Sum.inl k,vs[i]):=by unfold qO;rw [YQ];exact ⟨by rw [List.getElem?_map,hk];rfl,Yb hi⟩
 obtain ⟨q,hq,e1,e2⟩:=Paired.get r hz;exact ⟨q.2,by rw [hq];congr 1;exact Prod.ext e1.symm rfl⟩
theorem ji9 {P:Program} {w:World} {K:PySem.W.Frag} {tg:Expr} (a it:Addr) (o:Obj):Turn P w K tg (Itd a o) [it] it (fun i h=>h.IsKeyIter it a i (szO o) (epO o)) where
 mem:=by simp
 obj:=fun i h st b hb=>by
  have e:b=it:=by simpa using hb
  subst e;obtain ⟨o,e,c,d⟩:=st;exact ⟨o,e,fun v z=>by rw [d] at z;cases z⟩
 keep:=fun i h h' st k=>st.at fun o e=>k it (by simp) o e
 item:=by intro X hP hw hK hc i tf s σ H E I hf st hg;subst hP hw hK;obtain ⟨ks,vs,hq,hl,hi⟩:=hg;obtain ⟨ws,r,dd,hn,hd,_⟩:=jkq I hq;obtain ⟨tL,hat⟩:=jkx hl r;obtain ⟨u,hu⟩:=hat i ks[i] (Yb hi);obtain ⟨f0,f1,f2,f3,f4,f5⟩:=hf it (by simp);rw [<-hn] at st;refine wpAny_pyNext_dict_item st dd hu fun key h' hkey st' sb=>?_;rw [hn] at st';have I1:Inv X tf σ H { s with heap:=h' }:=I.turned (t':=s.toks) (fun b o hb e=>(sb.2 b hb).trans e) f0 f1 f3 f4 f5;obtain ⟨o',e,c,d⟩:=id st';refine ⟨key,rfl,jhV (s:={ s with heap:=h' }) e c d (by decide) ⟨.int ks[i],H,I1,jie hkey,⟨rfl,fun ks' vs' hq' hl'=>?_⟩,st',fun b hb=>(hf b hb).1⟩⟩;rw [hq] at hq';have:=jn1 hl hl' (Option.some.inj hq');subst this;exact ⟨_,Yb hi,rfl⟩
 done:=by intro X hP hw hK hc i tf s σ H E I hf st hg;subst hP hw hK;obtain ⟨ks,vs,hq,hl,hi⟩:=hg;obtain ⟨ws,r,dd,hn,hd,_⟩:=jkq I hq;obtain ⟨tL,hat⟩:=jkx hl r;obtain ⟨f0,f1,f2,f3,f4,f5⟩:=hf it (by simp);rw [<-hn] at st;exact wpAny_pyNext_dict_end (I.ok.hd hc) st dd (YC (by omega)) fun h' eb=>⟨rfl,I.turned (t':=s.toks) (fun b o hb e=>eb b o hb e) f0 f1 f3 f4 f5⟩
 self:=fun _ _ _ _ _ st h=>wpAny_pyIter_keyiter st h
theorem jmf {tg l:Expr} {tl:TE} (hl:PE X l tl):PI X tg l (jqD tl):=by
 intro tf s σ H R I h;refine qt (hl tf s σ H _ I h) fun v s1 zz=>?_;obtain ⟨x,H1,I1,r1,q1⟩:=zz;obtain ⟨a,o,ks,vs,e,hq,tL,q⟩:=q1;subst e;cases r1;obtain ⟨ws,r,dd,hn,hd,_⟩:=jkq I1 hq;refine wpAny_pyIter_dict hd dd ?_;rw [hn];refine ⟨s1.heap.objs.size,[s1.heap.objs.size],_,_,H1,rfl,I1.kept (t':=s1.toks) fun b o e=>Yg _ e,ji9 a _ o,⟨_,Yv _ rfl,rfl,rfl⟩,fun b hb=>?_,q⟩;have e:b=s1.heap.objs.size:=by simpa using hb
 subst e;exact I1.fpOk (Yn _) (I1.hok.fresh (Yn _))
end
end L2
namespace L2
open PySem PySem.Spec PyProof.Rows
section
variable {X:Cx}
theorem jg3 (hc:X.calm=true):CallR X (.type "list") jkG:=fun tf s σ H xs us Q I r ⟨a,ks,vs,e,h,hl,q⟩=>by
 subst e;obtain ⟨u,rfl,ru⟩:=jbG r;cases ru;obtain ⟨z,hd,ws,rel,dd⟩:=Zn I.hok h;obtain ⟨ep,dat⟩:=dd.dictAt;obtain ⟨tL,hat⟩:=jkx hl rel;refine PySem.W.kdl_call (PySem.W.kdl_dict (knd:=jX X.prog X.w) (kvs:=ws) (ep:=ep) hd) (I.ok.hd hc) dat (by rw [tL,<- jeT hl];exact z) fun h' tk tJ c hk hD hacc=>?_;have hv:Vals (ks.map V.int) tJ.toList:=Paired.of (by rw [Yd,<- tL,<- hacc.1];simp) fun i x y e1 e2=>by rw [List.getElem?_map] at e1;obtain ⟨k,hk',rfl⟩:=map_some e1;obtain ⟨k',u,h1,h2⟩:=hacc.2 i y (by rw [<-yy];exact e2);obtain ⟨u',hu'⟩:=hat i k hk';rw [hu'] at h1;cases h1;exact jie h2
 refine ⟨.ref s.heap.objs.size,_,I.laid (a:=s.heap.objs.size) (o:=.lst (ks.map V.int)) (t':=tk) hk (Yn _) ⟨by rw [Yd,<- jeT hl];exact z,tJ.toList,c,hv,by rw [Array.toArray_toList];exact hD⟩,rfl,q _ (I.hok.fresh (Yn _))⟩
end
section
variable {prog:Program} {w:World} {A:Around} {E:Value->Shared->Prop} {s:Shared}
def Zl:Int:=0xFCA86420
theorem jfM {Q:Int->Shared->Prop} (h:Q Zl { s with toks:=s.toks+1 }):wpAny (model prog w) A (pyHash .none) Q E s:=by
 have hT:s.TypeIs .none "NoneType":=rfl;unfold pyHash pyHashByItsType;refine Yc ?_;rw [cRoomFor,if_neg (by decide)];refine Yh ?_;refine Yc (yH hT F.slot_NoneType_hash.lookup ?_);show wpAny _ _ (if (some (Value.builtin "NoneType.__hash__") == some Value.none)=true then _ else _) Q E s;rw [if_neg (by rw [beq_builtin_none];exact Yf)];refine Yc (yH hT F.slot_NoneType_hash.lookup ?_);show wpAny _ _ (callSpecialIfBoundUnlessNone? .none "__hash__" _ >>= _) Q E s;refine Yc (wpAny_callSpecialIfBoundUnlessNone?_slot hT F.slot_NoneType_hash
  (yp F.slot_NoneType_hash hT F.entry_NoneType_hash
   (show wpAny _ _ (do ret (<- mkInt Zl)) _ _ s from wpAny_ret_mkInt ?_) (F.args_NoneType_hash_1 _)))
 show wpAny _ _ (if (decide (-(2:Int) ^ 63<=Zl) && decide (Zl<2 ^ 63))=true then _ else _) Q E _;rw [if_pos (by decide)];exact Yh h
def jeo:Option ze->Value->Bool
 | some k,v=>Q2 k v
 | none,.none=>true
 | none,_=>false
theorem qk {k:Option ze} {v:Value} (h:jeo k v=true):(k=none/\v=.none)\/∃k',k=some k'/\Q2 k' v=true:=by
 cases k with
 | some k=>exact .inr ⟨k,rfl,h⟩
 | none=>cases v <;> first | exact .inl ⟨rfl,rfl⟩ | cases h
theorem jhJ {k:ze} {v:Value} (h:Q2 k v=true):RelV (kV k) v/\jf4 (kV k)=true:=by
 rcases j1 h with ⟨i,t,rfl,rfl⟩ | ⟨x,t,rfl,rfl⟩
 . exact ⟨⟨t,rfl⟩,rfl⟩
 . exact ⟨⟨t,rfl⟩,rfl⟩
def jhP (prog:Program) (w:World):PySem.KeyKind prog w (Option ze) where
 is:=jeo
 hash:=fun k=>match k with | some k=>jrG w k | none=>Zl
 inj:=fun v a b ha hb=>by
   rcases qk ha with ⟨rfl,rfl⟩ | ⟨a',rfl,ha'⟩
   . rcases qk hb with ⟨rfl,_⟩ | ⟨b',rfl,hb'⟩
     . rfl
     . rcases j1 hb' with ⟨i,t,_,e⟩ | ⟨x,t,_,e⟩ <;> cases e
   . rcases qk hb with ⟨rfl,rfl⟩ | ⟨b',rfl,hb'⟩
     . rcases j1 ha' with ⟨i,t,_,e⟩ | ⟨x,t,_,e⟩ <;> cases e
     . rw [(jX prog w).inj v a' b' ha' hb']
 byValue:=fun k v h=>by
   rcases qk h with ⟨rfl,rfl⟩ | ⟨k',rfl,h'⟩
   . rfl
   . exact (jX prog w).byValue k' v h'
 pyHash:=fun {A E s k v Q} hv h=>by
   rcases qk hv with ⟨rfl,rfl⟩ | ⟨k',rfl,h'⟩
   . exact jfM h
   . exact (jX prog w).pyHash h' h
 eqBool:=fun {A E s a b u v Q} hu hv h=>by
   rcases qk hu with ⟨rfl,rfl⟩ | ⟨a',rfl,ha'⟩
   . rcases qk hv with ⟨rfl,rfl⟩ | ⟨b',rfl,hb'⟩
     . exact jeh (y:=.non) (x:=.non) rfl rfl rfl rfl prog w E Q (by simpa [eqV] using h)
     . obtain ⟨r,f⟩:=jhJ hb';have e:eqV .non (kV b')=false:=by cases b' <;> rfl
       exact jeh (y:=.non) rfl r rfl f prog w E Q (by rw [e];simpa using h)
   . rcases qk hv with ⟨rfl,rfl⟩ | ⟨b',rfl,hb'⟩
     . obtain ⟨r,f⟩:=jhJ ha';have e:eqV (kV a') .non=false:=by cases a' <;> rfl
       exact jeh (x:=.non) r rfl f rfl prog w E Q (by rw [e];simpa using h)
     . refine (jX prog w).eqBool ha' hb' ?_;have e:decide (some a'=some b')=decide (a'=b'):=by
        by_cases z:a'=b'
        . subst z;simp
        . have:¬some a'=some b':=fun q=>z (Option.some.inj q);rw [YY z,YY this]
       rw [e] at h;exact h
 «strs»:=fun k x t v h=>by
   rcases qk h with ⟨rfl,e⟩ | ⟨k',rfl,h'⟩
   . cases e
   . exact (jX prog w).strs k' x t v h'
end
section
variable {X:Cx} {tf:List (Addr×Obj)} {σ:St} {H:Hp} {s:Shared} {a:Addr} {A:Around} {E:Value->Shared->Prop}
theorem jko {kvs:List (ze×V)} (I:Inv X tf σ H s) (e:Rd H a (.dK kvs)):∃f,s.heap.MapOf (jhP X.prog X.w) a f/\f none=none:=by
 obtain ⟨z,hd,vs,rel,dd⟩:=Zn I.hok e;obtain ⟨o,es,ep,h1,h2,h3,h4,h5,h6⟩:=dd;refine ⟨findBy jeo es,⟨o,es,ep,h1,h2,h3,fun q hq=>?_,fun k=>rfl⟩,?_⟩
 . obtain ⟨k,k1,k2⟩:=h4 q hq;exact ⟨some k,k1,k2⟩
 . unfold findBy;have:es.find? (fun q=>jeo none q.key)=none:=by
    rw [Array.find?_eq_none];intro q hq hn;obtain ⟨k,k1,k2⟩:=h4 q hq;rcases qk hn with ⟨_,e⟩ | ⟨k',e,_⟩
    . rcases j1 k1 with ⟨i,t,_,e'⟩ | ⟨x,t,_,e'⟩ <;> · rw [e] at e';cases e'
    . cases e
   rw [this];rfl
theorem joz {kvs:List (ze×V)} {Q:Value → Shared → Prop} (I:Inv X tf σ H s) (e:Rd H a (.dK kvs)) (h:∀s',Inv X tf σ H s' → Q .none s'):wpAny ‹"c"› A (call (.builtin "dict.get") [.ref a,.none]) Q E s:=by obtain ⟨z,hd,vs,rel,dd⟩:=Zn I.hok e;obtain ⟨f,hm,hf⟩:=jko I e;refine call_meetsIn Kj dd.typeIs KM (KG _ _) (meets_dict_get (jhP X.prog X.w) a (k:=none) rfl hd) ⟨f,hm,?_⟩;rw [hf];exact h _ (I.tok _)
end
def jld (td ty:TE):TE:=fun σ H Q=>td σ H fun x H1=>∃a,x=.ref a/\IsD H1 a/\ty σ H1 fun y H2=>(∃o,jfY H2 a y o/\Q (o.getD .non) H2)\/(y=.non/\(∃kvs,Rd H2 a (.dK kvs))/\Q .non H2)
theorem jkg {X:Cx} {o e:Expr} {apos cpos:Pos} {td ty:TE} (hu:X.A.units+1<cLine) (ho:PE X o td) (he:PE X e ty) (m:M1 X o "get" apos e cpos):PE X (.Call (.Attribute o "get" apos) [e] [] cpos) (jld td ty):=by
 intro tf s σ H Q I h;refine wpAny_Call_method m.base m.few m.line PySem.F.plainAttrs_dict Kj PySem.F.type_dict_get (qt (ho tf s σ H _ I h) fun u s1 z=>?_);obtain ⟨x,H1,I1,rx,a,ex,d,q1⟩:=z;subst ex;obtain rfl:u=Value.ref a:=rx;obtain ⟨t1,t2,_⟩:=jn5 I1 d;refine ⟨t1,t2,?_⟩;rw [m.trees];refine Calls.callWith_builtin rfl (Calls.evalArgs_plain (KJ (qt (he tf s1 σ H1 _ I1 q1) fun iv s2 z=>KR ?_)));obtain ⟨y,H2,I2,ry,q2⟩:=z;rcases q2 with ⟨ov,g,q2⟩ | ⟨ey,⟨kvs,g⟩,q2⟩
 . exact joB hu I2 g ry fun w' s3 I3 rw'=>⟨_,H2,I3,rw',q2⟩
 . subst ey;obtain rfl:iv=Value.none:=ry;exact joz I2 g fun s3 I3=>⟨.non,H2,I3,rfl,q2⟩
section
variable [Fr]
def jbq:D->D->Option D
 | .dic ks ds,.int i=>some ((qW ks ds i).getD .non)
 | .dic _ _,.non=>some .non
 | _,_=>none
theorem jg0 {x y d:D} (q:jbq x y=some d):∃ks ds,x=.dic ks ds/\((∃i,y=.int i/\(qW ks ds i).getD .non=d)\/(y=.non/\D.non=d)):=by
 cases x with
 | dic ks ds=>
   refine ⟨ks,ds,rfl,?_⟩;cases y with
   | int i=>exact .inl ⟨i,rfl,Option.some.inj q⟩
   | non=>exact .inr ⟨rfl,Option.some.inj q⟩
   | _=>exact qe q
 | _=>exact qe q
theorem jmr {td ty:TE} {fd fk:eg->Option D} (hd:zR td fd) (hk:zR ty fk):EOk (jld td ty) (js jbq fd fk):=fun G0 H0 G H σ ρ Q d e q k=>by
 obtain ⟨x,qa,q⟩:=bind_some q;obtain ⟨y,qb,q⟩:=bind_some q;obtain ⟨ks,ds,rfl,qz⟩:=jg0 q;clear q;refine hd G0 H0 G H σ ρ _ _ e qa fun u G1 H1 x1 r1=>?_;cases r1 with
 | @dic a _ vs _ h hl r=>
   refine ⟨a,rfl,.inl ⟨_,h⟩,hk G0 H0 G1 H1 σ ρ _ y (e.grow x1) qb fun v G2 H2 x2 r2=>?_⟩;have h':=h.same x2.hh;rcases qz with ⟨i,rfl,rfl⟩ | ⟨rfl,rfl⟩
   . (have hh:=RepT.of_int r2;subst hh)
     have r':=r.mono x2.gg;obtain ⟨l1,l2⟩:=jcd r' i hl;refine .inl ⟨_,.inl ⟨_,Sum.inl i,h',rfl,rfl⟩,?_⟩;cases z:qW ks ds i with
     | none=>rw [l2 z];exact k _ G2 H2 (x1.trans x2) (by rw [z];exact .non)
     | some d'=>obtain ⟨v,hv,rv⟩:=l1 d' z;rw [hv];exact k _ G2 H2 (x1.trans x2) (by rw [z];exact rv)
   . (have hh:=RepT.of_non r2;subst hh)
     exact .inr ⟨rfl,⟨_,h'⟩,k _ G2 H2 (x1.trans x2) .non⟩
end
end L2
namespace L2
open PySem PySem.Spec PyProof.Rows
section
variable [Fr]
def jno (t:TE) (f:eg->Option (List (List D))):Prop:=∀G0 H0 G H σ ρ (Q:VK) dss,EnvOk G0 H0 G H σ ρ->f ρ=some dss->
 (∀a bs G' H',Ext G H G' H'->(∀b∈a::bs,H b=none/\G' b=none)->(a::bs).Nodup->H' a=some (.lst (bs.map V.ref))->Rows G' H' bs dss->Q (.ref a) H')->t σ H Q
def jbu (m:D->eg->Option eg) (ft:eg->Option Bool) (fe:eg->Option (List D)) (ρ:eg):List D->Option (List (List D))
 | []=>some []
 | d::ds=>(m d ρ).bind fun ρ1=>(ft ρ1).bind fun b=>if b then (fe ρ1).bind fun y=>(jbu m ft fe ρ ds).map (y::·) else jbu m ft fe ρ ds
def jkI (fi:eg->Option (List D)) (m:D->eg->Option eg) (ft:eg->Option Bool) (fe:eg->Option (List D)) (n:Nat) (ix:List Nat):eg->Option (List (List D)):=fun ρ=>(fi ρ).bind fun ds=>if zx ds.length then jbu m ft fe (zE n ix ρ) ds else none
theorem Rows.snoc {G H:Hp} {bs:List Addr} {dss:List (List D)} {b:Addr} {us:List V} {ds:List D} (h:Rows G H bs dss) (hb:H b=some (.lst us)) (r:Reps G us ds):Rows G H (bs++[b]) (dss++[ds]):=by
 induction h with
 | nil=>exact .cons hb r .nil
 | cons h q t ih=>exact .cons h q ih
theorem jrl {wi:TI} {fi:eg->Option (List D)} {g:TG} {m:D->eg->Option eg} {tt:TT} {ft:eg->Option Bool} {te:TE} {fe:eg->Option (List D)} (n:Nat) (ix:List Nat) (hi:jiU wi fi) (hg:GOk g m) (ht:TOk tt ft) (he:EOkO te fe) :
 jno (tLC wi g tt te n ix) (jkI fi m ft fe n ix):=fun G0 H0 G H σ ρ Q es e q k=>by
 obtain ⟨ds,q1,q2⟩:=bind_some q;split at q2
 . rename_i hz;refine hi _ _ _ _ _ _ _ _ e q1 fun J G1 H1 x1 it=>?_;refine ⟨fun i n' ys H'=>n'=ds.length-i/\i<=ds.length/\ys.length<=i/\∃G' gs hs bs,Ext G1 H1 G' H'/\ys=bs.map V.ref/\bs.Nodup/\(∀b∈bs,H1 b=none/\G' b=none)/\Rows G' H' bs gs/\jbu m ft fe (zE n ix ρ) (ds.drop i)=some hs/\gs++hs=es,
    ⟨_,rfl,yA _,Yn _,G1,[],es,[],.refl x1.gh,rfl,List.nodup_nil,(fun b hb=>absurd hb YE),Rows.nil,q2,rfl⟩,?_⟩
   rintro i n' ys H' ⟨rfl,hl,hy,G',gs,hs,bs,x2,ey,nd,own,rows,hlc,hes⟩;have hz':=Zo hz;obtain ⟨go,stop⟩:=it i G' H' x2.gg x2.hh x2.gh;by_cases hlt:i<ds.length
   . have hd:ds[i]?=some ds[i]:=Yb hlt;obtain ⟨g1,g2⟩:=go _ hd;rw [Kw hlt] at hlc;simp only [jbu] at hlc;obtain ⟨ρ1,hm,hlc⟩:=bind_some hlc;obtain ⟨b,hb,hlc⟩:=bind_some hlc;refine .inr ⟨g1,by omega,fun ys' H'=>ys'.length<=i+1/\∃G' gs hs bs,Ext G1 H1 G' H'/\ys'=bs.map V.ref/\bs.Nodup/\(∀b∈bs,H1 b=none/\G' b=none)/\Rows G' H' bs gs/\jbu m ft fe (zE n ix ρ) (ds.drop (i+1))=some hs/\gs++hs=es,fun ys' H' ⟨a0,a⟩=>⟨_,by omega,rfl,by omega,a0,a⟩,fun x H2 y=>?_⟩;obtain ⟨G2,x3,r3⟩:=g2 x H2 y;have e3:EnvOk G0 H0 G2 H2 (Jn n σ ix) (zE n ix ρ):=(jky n ix e).grow ‹"ak"›;refine hg _ _ _ _ _ _ _ _ _ _ e3 r3 hm fun σ2 e4=>ht _ _ _ _ _ _ _ _ e4 hb fun G4 H4 x4=>?_;have x24:=(x2.trans x3).trans x4;have x34:=x3.trans x4;have keep:∀{G5 H5:Hp},Ext G' H' G5 H5->(∀b∈bs,H1 b=none/\G5 b=none)/\Rows G5 H5 bs gs:=fun {G5 H5} x=>⟨fun b hb=>by
       obtain ⟨us,hu⟩:=rows.there b hb;exact ⟨(own b hb).1,x.gone (own b hb).2 hu⟩,rows.keep x.gg fun b hb=>by
       obtain ⟨us,hu⟩:=rows.there b hb;rw [hu];exact x.hh _ _ hu⟩
     cases b with
     | false=>rw [if_neg Yf] at hlc ⊢;exact ⟨by omega,G4,gs,hs,bs,x24,ey,nd,(keep x34).1,(keep x34).2,hlc,hes⟩
     | true=>
       rw [if_pos rfl] at hlc ⊢;obtain ⟨y',hy',hlc⟩:=bind_some hlc;obtain ⟨hs',hh,hlc⟩:=map_some hlc;subst hlc;refine he _ _ _ _ _ _ _ _ (e4.grow x4) hy' fun a us G5 H5 x5 hn hgn ha r5=>?_;have k5:=keep (x34.trans x5);have na:a∉bs:=fun z=>by obtain ⟨us,hu⟩:=rows.there a z;rw [x34.hh _ _ hu] at hn;cases hn
       refine ⟨by simp;omega,G5,gs++[y'],hs',bs++[a],x24.trans x5,by rw [ey,YT];rfl,?_,fun c hc=>?_,k5.2.snoc ha r5,hh,by simpa using hes⟩
       . rw [List.nodup_append];refine ⟨nd,by simp,fun c hc d hd z=>?_⟩;rw [Yq.mp hd] at z;exact na (z ▸ hc)
       . rcases YL.mp hc with hc | hc
         . exact k5.1 c hc
         . rw [Yq.mp hc];exact ⟨x24.hh.free hn,hgn⟩
   . have hd:ds[i]?=none:=YR.mpr (by omega);rw [KN (by omega)] at hlc;cases hlc;rw [yK] at hes;subst hes;refine .inl ⟨stop hd,by omega,fun p hp=>?_⟩;have np:∀b∈bs,b≠p:=fun b hb z=>by obtain ⟨us,hu⟩:=rows.there b hb;rw [z,hp] at hu;cases hu
     refine k p bs G' _ ((x1.trans x2).trans (.new x2.gh hp)) (fun b hb=>?_) (yh.mpr ⟨fun z=>np p z rfl,nd⟩) (by rw [jC,ey]) (rows.keep (.refl _) fun b hb=>jA (np b hb));rcases Yl.mp hb with rfl | hb
     . exact ⟨(x1.trans x2).hh.free hp,x2.gh.free hp⟩
     . exact ⟨x1.hh.free (own b hb).1,(own b hb).2⟩
 . cases q2
def jb2 (i:Nat) (fo:eg->Option (List (List D))):FS:=fun ρ=>match fo ρ with
 | some dss=>.next (ρ.set i (.oo dss))
 | none=>.fail
theorem jlZ {te:TE} {fo:eg->Option (List (List D))} (i:Nat) (h:jno te fo):ZJ (jdA te (ZK i)) (jb2 i fo):=fun G0 H0 G H σ ρ E e q=>by
 unfold jb2 at q;split at q
 . rename_i dss z;exact h _ _ _ _ _ _ _ _ e z fun a bs G' H' x hn nd ha r=>q G' H' _ x.gg (e.setOO x hn nd ha r)
 . exact q.elim
def jnV:V->V->Hp->VK->Prop:=fun o i H Q=>∃p xs k v,o=.ref p/\i=.int k/\H p=some (.lst xs)/\0<=k/\xs[k.toNat]?=some v/\Q v H
def asI:D->Option Int
 | .int i=>some i
 | _=>none
def jqx:Slot->Option (List (List D))
 | .oo d=>some d
 | _=>none
theorem jd3 {o:Option D} {i:Int} (h:o.bind asI=some i):o=some (.int i):=by obtain ⟨d,h1,h2⟩:=bind_some h;cases d <;> cases h2;exact h1
theorem jpl {o:Option Slot} {d:List (List D)} (h:o.bind jqx=some d):o=some (.oo d):=by obtain ⟨s,h1,h2⟩:=bind_some h;cases s <;> cases h2;exact h1
def jfv (i:Nat) (fk fl fv:eg->Option D) (g:Int->Int->Int) (ρ:eg):Option eg:=
 (ρ[i]?.bind jqx).bind fun dss=>((fk ρ).bind asI).bind fun k=>((fl ρ).bind asI).bind fun l=>((fv ρ).bind asI).bind fun z=>if 0<=k/\0<=l then dss[k.toNat]?.bind fun ds=>(ds[l.toNat]?.bind asI).map fun y=>ρ.set i (.oo (dss.set k.toNat (ds.set l.toNat (.int (g y z))))) else none
def jc2 (i:Nat) (fk fl fv:eg->Option D) (g:Int->Int->Int):FS:=fun ρ=>match jfv i fk fl fv g ρ with
 | some ρ'=>.next ρ'
 | none=>.fail
theorem joy {tk tl tv:TE} {fk fl fv:eg->Option D} {g:Int->Int->Int} (i:Nat) (hk:zR tk fk) (hl:EOk tl fl) (hv:EOk tv fv):ZJ (jnG (tOp (rIx Fr.K) (je1 i) tk) tl tv jnV (ipI g) jj6) (jc2 i fk fl fv g):=fun G0 H0 G H σ ρ E e q=>by
 unfold jc2 at q;cases hq:jfv i fk fl fv g ρ with
 | none=>rw [hq] at q;exact q.elim
 | some ρ'=>
 rw [hq] at q;unfold jfv at hq;obtain ⟨dss,z1,hq⟩:=bind_some hq;obtain ⟨k,z2,hq⟩:=bind_some hq;obtain ⟨l,z3,hq⟩:=bind_some hq;obtain ⟨z,z4,hq⟩:=bind_some hq;by_cases hkl:0<=k/\0<=l
 case neg=>rw [if_neg hkl] at hq;cases hq
 rw [if_pos hkl] at hq;obtain ⟨ds,hds,hq⟩:=bind_some hq;obtain ⟨y,hy,hq⟩:=map_some hq;subst hq;replace z1:=jpl z1;replace z2:=jd3 z2;replace z3:=jd3 z3;replace z4:=jd3 z4;replace hy:=jd3 hy;obtain ⟨a,bs,h1,h2,h3,h4,h5⟩:=e.oo z1;obtain ⟨b,us,b1,b2,b3⟩:=h5.get hds;have hkb:k.toNat<bs.length:=(Yi.mp b1).1;refine ⟨_,h1,hk _ _ _ _ _ _ _ _ e z2 fun kv G1 H1 x1 r1=>?_⟩
 (have hh:=RepT.of_int r1;subst hh)
 refine .inl ⟨a,bs.map V.ref,k,.ref b,rfl,rfl,.inl (.inl (x1.hh _ _ h2)),?_,hl _ _ _ _ _ _ _ _ (e.grow x1) z3 fun lv G2 H2 x2 r2=>?_⟩
 . unfold atI ixN;rw [if_pos hkl.1,Yd,if_pos (by omega)];show (bs.map V.ref)[k.toNat]?=_;rw [List.getElem?_map,b1];rfl
 (have hh:=Rep.of_int r2;subst hh)
 obtain ⟨v,hv1,hv2⟩:=b3.get hy
 (have hh:=Rep.of_int hv2;subst hh)
 have x12:=x1.trans x2;refine ⟨b,us,l,.int y,rfl,rfl,x12.hh _ _ b2,hkl.2,hv1,hv _ _ _ _ _ _ _ _ (e.grow x12) z4 fun zv G3 H3 x3 r3=>?_⟩
 (have hh:=Rep.of_int r3;subst hh)
 have x13:=x12.trans x3;refine ⟨y,z,rfl,rfl,b,us,l,l.toNat,rfl,rfl,x13.hh _ _ b2,?_,?_⟩
 . have:l.toNat<us.length:=(Yi.mp hv1).1;unfold ixN;rw [if_pos hkl.2,if_pos (by omega)]
 . exact q G3 _ σ x13.gg ((e.grow x13).putOO z1 h1 (x13.hh _ _ h2) b1 ((b3.mono x13.gg).set (.int _) _))
def jn3:Slot->Option D
 | .sh d=>some d
 | _=>none
theorem joV {o:Option Slot} {d:D} (h:o.bind jn3=some d):o=some (.sh d):=by obtain ⟨s,h1,h2⟩:=bind_some h;cases s <;> cases h2;exact h1
def jms (i:Nat) (fv:eg->Option D) (g:Int->Int->Int):FS:=fun ρ=>match ((ρ[i]?.bind jn3).bind asI).bind fun y=>((fv ρ).bind asI).map fun z=>(y,z) with
 | some p=>.next (ρ.set i (.sh (.int (g p.1 p.2))))
 | none=>.fail
theorem jqv {tv:TE} {fv:eg->Option D} {g:Int->Int->Int} (i:Nat) (hv:EOk tv fv):ZJ (jrs i tv (ipI g)) (jms i fv g):=fun G0 H0 G H σ ρ E e q=>by
 unfold jms at q;cases hq:((ρ[i]?.bind jn3).bind asI).bind fun y=>((fv ρ).bind asI).map fun z=>(y,z) with
 | none=>rw [hq] at q;exact q.elim
 | some p=>
 rw [hq] at q;obtain ⟨y,z1,hq⟩:=bind_some hq;obtain ⟨z,z2,hq⟩:=map_some hq;subst hq;obtain ⟨v,h1,r⟩:=e.sh (joV (jd3 z1))
 (have hh:=Rep.of_int r;subst hh)
 refine ⟨_,h1,hv _ _ _ _ _ _ _ _ e (jd3 z2) fun zv G1 H1 x1 r1=>?_⟩
 (have hh:=Rep.of_int r1;subst hh)
 exact ⟨y,z,rfl,rfl,q G1 H1 _ x1.gg ((e.grow x1).set (.int _))⟩
theorem joZ {t:TS}:ZJ t fun _=>.fail:=fun G0 H0 G H σ ρ E e q=>q.elim
end
section
variable {X:Cx}
theorem jkV:jqU X jnV:=fun tf s σ H o i ov iv Q I ro ri zz=>by obtain ⟨p,xs,k,v,e1,e2,hp,h0,hx,q⟩:=zz;subst e1;subst e2;cases ro;obtain ⟨t,rfl⟩:=ri;obtain ⟨tF,r,pl,hz⟩:=I.list (.inl (.inl hp));obtain ⟨w,ew,rw'⟩:=r.get hx;have hl:=r.length;have hn:=ZY;have hlt:k.toNat<xs.length:=(Yi.mp hx).1;exact wpAny_getItem_list pl.isList h0 (by omega) (by simpa using ew) ⟨v,H,I,rw',q⟩
end
end L2
namespace L2
open PySem PySem.Spec PyProof.Rows
section
variable {prog:Program} {w:World} {A:Around} {E:Value->Shared->Prop} {s:Shared}
theorem jhc:typeLookup (.type "list_reverseiterator") "__len__"=pure none:=by rw [KD,yN];kernel_rfl
theorem jkM:typeLookup (.type "list_reverseiterator") "__length_hint__"=pure (some (.builtin "list_reverseiterator.__length_hint__")):=by rw [KD,yN];kernel_rfl
theorem jkf {a:Addr} {Q:Bool → Shared → Prop} (hT:s.TypeIs (.ref a) "list_reverseiterator") (h:Q false s):wpAny (model prog w) A (Builtin.List.listLengthHint (.ref a)) Q E s:=by
 unfold Builtin.List.listLengthHint;refine Yc (yH hT jhc ?_);show wpAny _ _ (specialOf (Value.ref a) (Str.ofString "__length_hint__") >>= _) _ _ s;refine Yc (yH hT jkM ?_);generalize hid:("list_reverseiterator.__length_hint__":String)=id0
 wp_delta
 rw [show splitId id0=some ("list_reverseiterator","__length_hint__") from by subst hid;decide +kernel];subst hid;refine Yc (KU (T := "list_reverseiterator") (b:=true) hT (by rw [isSubtype_type];kernel_rfl) ?_);refine yU (fun hab=>absurd hab (by decide)) (fun _=>?_);refine yU (fun _=>?_) (fun hab=>absurd ‹"ah"› hab);refine yU (fun hab=>absurd hab ‹"ah"›) (fun _=>?_);exact Yh h
theorem jlh {it l:Addr} {items:Array Value} {Q:Value->Shared->Prop} (hh:A.handled=none) (hne:l≠it) (hit:s.heap.IsRevIter it l ((items.size:Int)-1)) (hl:s.heap.IsList l items) (hn:items.size<=sizeLine)
 (hQ:∀h' tk tJ c,(∀b o,b≠it → s.heap.get? b=some o → h'.get? b=some o) → h'.get? s.heap.objs.size=some { cls:=.type "list",dict:=none,data:=.seq tJ c,slots:=#[] } → ItemsOf (fun i v=>items[items.size-1-i]?=some v) tJ items.size → Q (.ref s.heap.objs.size) { s with heap:=h',toks:=tk }) :
 wpAny (model prog w) A (call (.type "list") [.ref it]) Q E s:=by
 refine callType_codes (Q₁:=fun obj s₁=>obj=.ref s.heap.objs.size ∧ s₁={ s with heap:=s.heap.push { cls:=.type "list",data:=.seq #[] } }) PySem.F.called_list (PySem.F.typeCall_list_1 _) PySem.F.entry_list_init (code_list_new _ ⟨rfl,rfl⟩) fun obj s₁ e₁=>?_;obtain ⟨rfl,rfl⟩:=e₁;generalize hSd:s.heap.objs.size=S at *
 have hS:(s.heap.push { cls:=.type "list",data:=.seq #[] }).get? S=some { cls:=.type "list",data:=.seq #[] }:=by rw [← hSd];exact Yv _ rfl
 refine ⟨⟨_,hS,rfl⟩,PySem.F.args_list_init_2 _ _,?_⟩;generalize hG:s.heap.push { cls:=.type "list",data:=.seq #[] }=G at *
 have up:∀b o,s.heap.get? b=some o->G.get? b=some o:=fun b o e=>by rw [<-hG];exact Yg _ e
 have nS:∀b o,s.heap.get? b=some o->b≠S:=fun b o e=>by rw [<-hSd];exact Yr (Yu e)
 obtain ⟨oi,ei,_⟩:=id hit;obtain ⟨ol,el,_⟩:=id hl;have itS:=nS _ _ ei;have lS:=nS _ _ el;show wpAny _ _ (do let old <- Builtin.List.listItems (.ref S);Builtin.List.listUpdate (.ref S) (fun _=>#[]);letGo old.toList.reverse;Builtin.List.listExtendWith (.ref S) (.ref it) .none) _ _ _;refine Yc ?_;unfold Builtin.List.listItems;refine Yc (Kt hS rfl (Yh ?_));show wpAny _ _ (updateSeq S (fun _=>#[]) >>= fun _=>letGo (#[]:Array Value).toList.reverse >>= fun _=>Builtin.List.listExtendWith (.ref S) (.ref it) .none) _ _ _;refine Yc (yw hS rfl ?_);have hS2:=YS (Obj.mapSeq (fun _=>(#[]:Array Value))) hS rfl;refine Yc (wpAny_letGo ?_);have sb1:Heap.SameBut S G (G.update S ‹"av"›):=Heap.SameBut.update ..
 generalize G.update S ‹"av"›=G1 at hS2 sb1 ⊢;have up1:∀b o,s.heap.get? b=some o->G1.get? b=some o:=fun b o e=>sb1.extBut b o (nS b o e) (up b o e);have W:=Walks.listRev (prog:=prog) (w:=w) (A:=A.in1.in1) hh it l hne items;have hSf:S∉[it,l]:=by simp only [Yl,YE,Kh,not_or];exact ⟨Ne.symm itS,Ne.symm lS⟩
 have key:∀(R:Result → Shared → Prop),(∀h' tk tJ c,(∀b o,b≠it → s.heap.get? b=some o → h'.get? b=some o) → h'.get? S=some { cls:=.type "list",dict:=none,data:=.seq tJ c,slots:=#[] } → ItemsOf (fun i v=>items[items.size-1-i]?=some v) tJ items.size → R (.ok (.ret .none)) { s with heap:=h',toks:=tk }) →
  ∀(h:Heap) (c₁ tk:Nat),(∀b o,s.heap.get? b=some o → h.get? b=some o) → h.get? S=some { cls:=.type "list",data:=.seq #[] c₁ } →
  codeAny (model prog w) A.in1 (.builtin "list.extend.loop" ⟨[.ref S,.ref it,.none],[]⟩) R { s with heap:=h,toks:=tk }:=fun R hR h c₁ tk hk hS₁=>by
  refine codeAny_extend_loopS W.toS hn S hSf .none items.size 0 { s with heap:=h,toks:=tk } #[] c₁ rfl (yA _) ⟨yA _,?_,hl.at fun o e=>hk _ o e⟩ hS₁ (ItemsOf.nil _) fun s' acc' c' hm hS' hacc=>?_
  . have:=hit.at (h':=h) fun o e=>hk _ o e;simpa using this
  . rw [Moved.eq_with hm];refine hR s'.heap s'.toks acc' c' (fun b o hb e=>hm.heap b o (fun hmem=>?_) (hk b o e)) hS' hacc;rcases Yl.mp hmem with e' | hmem
    . exact nS _ _ e e'
    . exact hb (Yq.mp hmem)
 unfold Builtin.List.listExtendWith;have hit1:G1.IsRevIter it l ((items.size:Int)-1):=hit.at fun o e=>up1 _ o e;refine Yc (wpAny_typeOf (T := "list_reverseiterator") (Heap.IsRevIter.typeIs (s:={ s with heap:=G1 }) hit1) ?_);have hsr:Builtin.List.listSameRef (.ref S) (.ref it)=false:=by simp [Builtin.List.listSameRef,Ne.symm itS]
 have t1:(Value.type "list_reverseiterator" == Value.type "list")=false:=by decide
 have t2:(Value.type "list_reverseiterator" == Value.type "tuple")=false:=by decide
 simp only [hsr,t1,t2,Bool.or_false,Y0,ym];refine Yc (wpAny_pyIter_revIter hit1 ?_);refine Yc (Y7 (jkf (Heap.IsRevIter.typeIs (s:={ s with heap:=G1 }) hit1) ?_));refine yU (fun _=>?_) (fun _=>Yh ⟨yM yQ _,key _ (fun h' tk tJ c h1 h2 h3=>⟨rfl,hQ h' tk tJ c h1 h2 h3⟩) _ _ _ up1 hS2⟩);refine Yc (wpAny_rule ?_);refine Yc ?_;show wpAny _ _ (updateSeq S (·.push .none) >>= fun _=>updateSeq S (·.pop)) _ _ _;refine Yc (yw hS2 rfl ?_);have hS3:=YS (Obj.mapSeq (·.push Value.none)) hS2 rfl;have sb2:Heap.SameBut S G1 (G1.update S (Obj.mapSeq (·.push Value.none))):=Heap.SameBut.update ..
 generalize G1.update S (Obj.mapSeq (·.push Value.none))=G2 at hS3 sb2 ⊢;refine yw (hz:=by seq_fits) hS3 rfl ?_;have hS4:=YS (Obj.mapSeq (·.pop)) hS3 rfl;have sb3:Heap.SameBut S G2 (G2.update S (Obj.mapSeq (·.pop))):=Heap.SameBut.update ..
 generalize G2.update S (Obj.mapSeq (·.pop))=G3 at hS4 sb3 ⊢;refine Yh ⟨yM yQ _,key _ (fun h' tk tJ c h1 h2 h3=>⟨rfl,hQ h' tk tJ c h1 h2 h3⟩) _ _ _ (fun b o e=>sb3.extBut b o (nS b o e) (sb2.extBut b o (nS b o e) (up1 b o e))) hS4⟩
end
def jcK (K:PySem.W.Frag) (ta:TA):TE:=fun σ H Q=>ta σ H fun vs H1=>∃p xs,vs=[.ref p]/\Jc K H1 p xs/\∀l,H1 l=none->Q (.ref l) (upd H1 l (.lst xs.reverse))
section
variable {X:Cx}
theorem jho {a:Expr} {ta:TA} {p1 p2 pos1 pos2:Pos} (hc:X.calm=true) (hg1:Gl X "list") (hm1:X.mg "list"=none) (hg2:Gl X "reversed") (hm2:X.mg "reversed"=none) (ha:PA X [a] ta)
 (hs:starEach [a] X.env=[(false,eval a X.env)]:=by rfl)
 (hs3:starEach [.Call (.Name "reversed" p2) [a] [] pos2] X.env=[(false,eval (.Call (.Name "reversed" p2) [a] [] pos2) X.env)]:=by rfl) :
 PE X (.Call (.Name "list" p1) [.Call (.Name "reversed" p2) [a] [] pos2] [] pos1) (jcK X.K ta):=by
 intro tf s σ H Q I h;refine Call_ (JR I hg1 hm1 kd (YN ?_ hs3 rfl));rw [hs3];show wpAny _ _ (spliced ((false,eval (.Call (.Name "reversed" p2) [a] [] pos2) X.env)::backTo pos1 [])) _ _ s;refine KJ (Call_ (JR I hg2 hm2 boot_reversed (YN (qt (ha pos2 tf s σ H _ I h) fun us s1 zz=>?_) hs rfl)));obtain ⟨vs,H1,I1,r1,q1⟩:=zz;obtain ⟨pa,xs,e,hp,q⟩:=q1;subst e;obtain ⟨u,rfl,ru⟩:=Vals.one r1;cases ru;obtain ⟨tF,rx,pl,hz⟩:=I1.list hp;have lx:=rx.length;have lta:@LT.lt Nat instLTNat pa s1.heap.objs.size:=by obtain ⟨_,e,_⟩:=pl.isList;exact ltN e
 refine call_reversed_list pl.isList ?_;refine KR ?_;have up:∀b o,s1.heap.get? b=some o->(s1.heap.push (revObj pa ((tF.toArray.size:Int)-1))).get? b=some o:=fun b o e=>Yg _ e;have hsz:(s1.heap.push (revObj pa ((tF.toArray.size:Int)-1))).objs.size=s1.heap.objs.size+1:=Y5 ..
 refine jlh (items:=tF.toArray) (I.ok.hd hc) (l:=pa) (Yr lta) ⟨_,Yv _ rfl,rfl,rfl⟩ (pl.isList.at fun o e=>up _ o e) (by simp;omega) fun h' tk tJ c hk hD hacc=>?_;have hv:Vals xs.reverse tJ.toList:=Paired.of (by rw [List.length_reverse,lx];have:=hacc.1;simpa using this.symm) fun i x y e1 e2=>by
  have e3:=hacc.2 i y (by rw [<-yy];exact e2);have hi:i<xs.length:=by simpa using (Yi.mp e1).1
  rw [List.getElem?_reverse hi] at e1;have e4:tF[xs.length-1-i]?=some y:=by rw [lx];simpa using e3
  obtain ⟨y',h1,h2⟩:=Paired.get rx e1;rw [e4] at h1;cases h1;exact h2
 have hD':h'.get? (s1.heap.objs.size+1)=some { cls:=.type "list",dict:=none,data:=.seq tJ c,slots:=#[] }:=by have:=hD;rw [hsz] at this;exact this
 have I2:=I1.laid (a:=s1.heap.objs.size+1) (o:=.lst xs.reverse) (t':=tk) (h':=h') (fun b o e=>hk b o (Yr (Yu e)) (up b o e)) (Nat.le_succ _) ⟨by rw [List.length_reverse];exact hz,tJ.toList,c,hv,by rw [Array.toArray_toList];exact hD'⟩;refine ⟨.ref (s1.heap.objs.size+1),_,I2,?_,q _ (I1.hok.fresh (Nat.le_succ _))⟩;show Value.ref _=Value.ref _;rw [hsz]
end
section
variable [Fr]
def jj7:List D->Option (List D)
 | [.lst l]=>some l.reverse
 | _=>none
theorem jqK {As:TA} {fs:eg->Option (List D)} (h:jaN As fs):EOkO (jcK Fr.K As) (jk jj7 fs):=fun G0 H0 G H σ ρ Q es e q k=>by
 obtain ⟨ds,q1,q2⟩:=bind_some q;refine h _ _ _ _ _ _ _ _ e q1 fun vs G1 H1 x1 r1=>?_;unfold jj7 at q2;split at q2
 . cases q2;cases r1 with
   | cons r t=>cases t;obtain ⟨_,_,rfl,h,r⟩:=r.of_lst;exact ⟨_,_,rfl,.inl h,fun l hl=>k l _ G1 _ (x1.trans (.new x1.gh hl)) (x1.hh.free hl) (x1.gh.free hl) jC r.reverse⟩
 . cases q2
end
def jnF:R2:=fun x y H Q=>∃l xs n,x=.ref l/\y=.int n/\Rd H l (.lst xs)/\0<=n/\xs.length*n.toNat<=sizeLine/\n<2 ^ 63/\∀p,H p=none->Q (.ref p) (upd H p (.lst (List.replicate n.toNat xs).flatten))
section
variable {X:Cx}
theorem jff {xs:List V} {tF:List Value} (r:Vals xs tF):∀n,Vals (List.replicate n xs).flatten (List.replicate n tF).flatten
 | 0=>.nil
 | n+1=>by rw [Y1,Y1,Kr,Kr];exact r.append (jff r n)
theorem jfX {α} (tF:Array α):∀(n:Nat) (tJ:Array α),List.foldl (fun x1 x2=>x1++x2) tJ (List.replicate n tF)=(tJ.toList++(List.replicate n tF.toList).flatten).toArray
 | 0,tJ=>by simp
 | n+1,tJ=>by rw [Y1,List.foldl_cons,jfX tF n];simp [Y1]
theorem jlY:OpR X (binaryOp .Mult) jnF:=by
 intro tf s σ H x y v u Q I rx ry h;obtain ⟨l,xs,n,rfl,rfl,hH,h0,hz,h63,q⟩:=h;cases rx;obtain ⟨t,rfl⟩:=ry;obtain ⟨z,tF,k,r,e⟩:=hH.ok I.hok;have hl:=r.length;have e24:sizeLine=2 ^ 24:=by rw [KO]
 have e9:tF.toArray.size*n.toNat=xs.length*n.toNat:=by rw [YA,hl]
 refine wpAny_binaryOp_repeat_ref (T := "list") (U:="int") (by decide) ⟨_,e,rfl⟩ (fun s'=>typeIs_int s' n t) noFill_list_mul PySem.F.fills_int_mul PySem.F.slot_int_rmul repeat_list PySem.F.slot_int_index.lookup
  (call_meets PySem.F.slot_int_rmul (typeIs_int s n t) PySem.F.entry_int_rmul (PySem.F.args_int_rmul_2 _ _) (int___rmul___int_list n t l tF.toArray k)
   ⟨e,rfl,⟨_,e,rfl⟩,call_meets PySem.F.slot_list_mul ⟨_,e,rfl⟩ PySem.F.entry_list_mul (PySem.F.args_list_mul_2 _ _)
     (AutoListH.list___mul___list_int_3 l tF.toArray k n t (by simp [Builtin.List.listFitsIndex];omega) (by omega) (by simp [Builtin.List.listTooLong];rw [<-hl];omega))
     ⟨e,?_⟩⟩)
 have ea:List.foldl (fun x1 x2=>x1++x2) #[] (List.replicate (if tF.toArray.isEmpty=true then 0 else n.toNat) tF.toArray)=((List.replicate n.toNat tF).flatten).toArray:=by
  rw [jfX];cases tF with
  | nil=>simp
  | cons a as=>simp
 rw [ea];exact ⟨.ref _,_,I.lnew (t':=s.toks) (jff r _) (by rw [List.length_flatten];simp;rw [Nat.mul_comm];exact hz),rfl,q _ I.fresh⟩
end
section
variable [Fr]
def jne:D->D->Option (List D)
 | .lst l,.int n=>if 0<=n/\l.length*n.toNat<=sizeLine/\n<2 ^ 63 then some (List.replicate n.toNat l).flatten else none
 | _,_=>none
theorem jfB {G:Hp} {vs:List V} {ds:List D} (r:Reps G vs ds):∀n,Reps G (List.replicate n vs).flatten (List.replicate n ds).flatten
 | 0=>.nil
 | n+1=>by rw [Y1,Y1,Kr,Kr];exact r.append (jfB r n)
theorem jq0:jpr jnF jne:=fun G H x y dx dy d Q s rx ry q k=>by
 unfold jne at q;split at q
 . split at q
   . rename_i hz;cases q;obtain ⟨_,_,rfl,h,r⟩:=rx.of_lst;cases ry with
     | int n=>exact ⟨_,_,_,rfl,rfl,h,hz.1,by rw [r.length];exact hz.2.1,hz.2.2,fun p hp=>k p _ G _ (.new s hp) hp (s.free hp) jC (jfB r _)⟩
   . cases q
 . cases q
end
section
variable {prog:Program} {w:World} {A:Around} {E:Value->Shared->Prop} {s:Shared}
end
section
variable {X:Cx}
end
section
variable [Fr]
end
end L2
namespace L2
open PySem PySem.Spec PyProof.Rows
structure WD (M:Fm) (e:Expr) (f:eg->Option (List Int×List D)):Prop where
 h:∃t,(∀i,PE (M.X i) e t)/\@EOkD M.fr t f
section
variable {M:Fm} {a b c e o:Expr} {es:List Expr} {fa fb fc fe:eg->Option D} {fo:eg->Option (List D)} {fs:eg->Option (List D)} {fd:eg->Option (List Int×List D)} {ga gb:eg->Option Bool} {pos p apos cpos:Pos} {x:Str}
theorem jqT (ha:WT M a fa) (hb:WT M b fb):WO M (.BinOp a .Mult b pos) (js jne fa fb):=let ⟨_,h1,h2⟩:=ha.h;let ⟨_,k1,k2⟩:=hb.h;⟨_,fun j=>jkr jlY (h1 j) (k1 j),@jnC M.fr _ _ _ _ _ _ (@jq0 M.fr) h2 k2⟩
theorem jq8 {p1 p2 pos1 pos2:Pos} (hg1:∀j,Gl (M.X j) "list") (hm1:∀j,(M.X j).mg "list"=none) (hg2:∀j,Gl (M.X j) "reversed") (hm2:∀j,(M.X j).mg "reversed"=none) (ha:WAT M [a] fs) (h:qg a=false:=by rfl) :
 WO M (.Call (.Name "list" p1) [.Call (.Name "reversed" p2) [a] [] pos2] [] pos1) (jk jj7 fs):=
 let ⟨_,h1,h2⟩:=ha.h
 ⟨jcK M.K _,fun j=>by have:=jho (p1:=p1) (p2:=p2) (pos1:=pos1) (pos2:=pos2) (M.calm j) (hg1 j) (hm1 j) (hg2 j) (hm2 j) (h1 j) (by rw [qi h];rfl) (by rw [qi rfl];rfl);rw [M.hK j] at this;exact this,@jqK M.fr _ _ h2⟩
theorem jde {n:Nat} (h:n+64<cLine):n+1<cLine:=by omega
theorem jnq (hu:∀j,(M.X j).A.units+64<cLine):WCmp M .In (jah false):=⟨_,fun j=>jpV (jde (hu j)),@jnk M.fr false⟩
theorem jkd (hu:∀j,(M.X j).A.units+64<cLine):WCmp M .NotIn (jah true):=⟨_,fun j=>jjb (jde (hu j)),@jnk M.fr true⟩
theorem jpM (hu:∀j,(M.X j).A.units+64<cLine) (ha:WT M a fa) (hb:WT M b fb) (hs:autoParam (jpa b) QA.a12._auto_1):WE M (.Subscript a b pos) (js jiw fa fb):=let ⟨_,h1,h2⟩:=ha.h;let ⟨_,k1,k2⟩:=hb.h;⟨_,fun j=>jmL (jde (hu j)) (h1 j) (k1 j) hs,@joY M.fr _ _ _ _ h2 k2⟩
theorem jmM (hu:∀j,(M.X j).A.units+64<cLine) (ha:WT M o fa) (hb:WT M e fb) (h':qg e=false:=by rfl)
 (hbase:∀j,attributeBase o "get" (M.X j).env (eval o (M.X j).env)=eval o (M.X j).env:=by intro _;rfl) (hline:(apos.endLine == cpos.line)=true:=by rfl):WE M (.Call (.Attribute o "get" apos) [e] [] cpos) (js jbq fa fb):=
 let ⟨_,h1,h2⟩:=ha.h;let ⟨_,k1,k2⟩:=hb.h;⟨_,fun j=>jkg (jde (hu j)) (h1 j) (k1 j) ⟨hbase j,by rw [qi h'];rfl,hline,by rw [qi h'];rfl⟩,@jmr M.fr _ _ _ _ h2 k2⟩
theorem jma:WBO M (.type "list") jcQ:=⟨_,fun j=>jg3 (M.calm j),@jmd M.fr⟩
theorem joE:WD M (.Dict [] [] pos) jli:=⟨_,fun _=>jlm,@jpd M.fr⟩
theorem jr4 (ha:WE M a fa) (hb:WE M b fb):WD M (.Dict [some a] [b] pos) (jkN fa fb):=let ⟨_,h1,h2⟩:=ha.h;let ⟨_,k1,k2⟩:=hb.h;⟨_,fun j=>jmW (jls (h1 j) (k1 j) jmi) rfl rfl (by simp) (by show 1<=15;decide),@jo3 M.fr _ _ _ _ h2 k2⟩
theorem jmD (hg:∀j,Gl (M.X j) "dict") (hm:∀j,(M.X j).mg "dict"=none) (ha:WAT M [e] fs) (h:qg e=false:=by rfl):WD M (.Call (.Name "dict" p) [e] [] pos) (jk jev fs):=let ⟨_,h1,h2⟩:=ha.h;⟨_,fun j=>ja6 jhq (hg j) (hm j) boot_dict (h1 j) (by decide) (by decide) (qi h) (JM rfl),@jmX M.fr _ _ h2⟩
theorem joD {tg:Expr} (h:WE M e fe):WI M tg e (jd4 fe):=let ⟨_,h1,h2⟩:=h.h;⟨_,fun j=>jmf (h1 j),@jqH M.fr _ _ h2⟩
variable {m:D->eg->Option eg} {tg iter:Expr} {st:Stmt} {sts body:List Stmt} {F F' B:FS}
theorem jhH {i:Nat} {pos':Pos} (h:WD M e fd) (hN:∀j,(M.X j).N.Nodup) (hi:M.N[i]?=some x) (hx:∀j,Loc (M.X j).env.scope x) (hf:∀j,(M.X j).fn x=true\/(M.X j).env.scope.names.lookup x=some .local) (hs:∀j,swapsWith e (some (.Name x pos')) pos.line (M.X j).env=pure false:=by intro _;rfl) :
 WS M (.Assign [.Name x pos'] e pos) (jfo i fd):=let ⟨_,h1,h2⟩:=h.h;⟨_,fun j=>jgO (hN j) (by rw [M.hN j];exact hi) (hx j) (h1 j) (hs j) (hf j),@jos M.fr _ _ i h2⟩
theorem jiv {i:Nat} {pos':Pos} {y:Str} {py:Pos} (hu:∀j,(M.X j).A.units+64<cLine) (hN:M.N[i]?=some y) (hv:∀j,Vis (M.X j).env.scope y) (hk:WE M b fb) (h:WE M e fe) (hd:(y == ("__debug__":Str))=false:=by decide) (hcd:(y == ("__classdict__":Str))=false:=by decide)
 (hs:∀j,swapsWith e (some (.Subscript (.Name y py) b pos')) pos.line (M.X j).env=pure false:=by intro _;rfl):WS M (.Assign [.Subscript (.Name y py) b pos'] e pos) (jbv i fb fe):=
 let ⟨_,a1,a2⟩:=h.h;let ⟨_,b1,b2⟩:=hk.h;⟨_,fun j=>jl4 (jde (hu j)) ‹"R"› (b1 j) (a1 j) (hs j),@jo1 M.fr _ _ _ _ i b2 a2⟩
theorem jid (i:Nat) (hN:M.N[i]?=some x:=by rfl) (hv:autoParam (∀j,Vis (M.X j).env.scope x) QA.a7._auto_1) (hd:‹"p"›=false:=by decide)
 (hcd:(x == ("__classdict__":Str))=false:=by decide):WS M (.Return (some (.Name x p)) pos) (jgl i):=⟨_,fun j=>jk3 ‹"R"›,@jpp M.fr i⟩
theorem jkw:WS M st (fun _=>.fail):=⟨fun _ _ _=>False,fun _ _ _ _ _ _ _ h=>h.elim,@joZ M.fr _⟩
variable {ifs:List Expr} {scope sc:Scope} {Lc Fn:List Str} {ix:List Nat}
theorem jna {i:Nat} {y:Str} {py spos:Pos} (hNd:∀j,(M.X j).N.Nodup) (hy:M.N[i]?=some y) (hyl:∀j,(M.X j).env.scope.names.lookup y=some .local) (hsc:∀j,(M.X j).env.scope=sc) (ok:LcOk sc M.N scope Fn ix) (hi:WIT M tg iter fo) (hg:WL ‹"P"› Lc.length tg m) (ht:WTs ‹"P"› ifs ga) (he:WO ‹"P"› e fs)
 (hsw:∀j,swapsWith ‹"r"› (some (.Name y py)) spos.line (M.X j).env=pure true:=by intro _;rfl) (hs:∀j x,foldedSetIterable iter (M.X j).env x=pure x:=by intro _ _;rfl):WS M (.Assign [.Name y py] ‹"r"› spos) (jb2 i (jkI fo m ga fs Lc.length ix)):=
 let ⟨_,i1,i2⟩:=hi.h;let ⟨_,g1,g2,g3⟩:=hg.h;let ⟨_,t1,t2⟩:=ht.h;let ⟨_,e1,e2⟩:=he.h
 ⟨_,fun j=>Z2 (hNd j) (by rw [M.hN j];exact hy) (hyl j) (hsc j) (M.hN j) (M.calm j) ok (i1 j) (fun C s H fp=>g1 (j,C,s,H,fp)) g3 (fun C s H fp=>t1 (j,C,s,H,fp)) (fun C s H fp=>e1 (j,C,s,H,fp)) (hsw j) (hs j),@jlZ M.fr _ _ i (@jrl M.fr _ _ _ _ _ _ _ _ _ _ i2 g2 t2 e2)⟩
structure WIp (M:Fm) (op:Operator) (g:Int->Int->Int):Prop where
 h:∀j,PIp (M.X j) op (ipI g)
theorem jnE:WIp M .Add (fun i j=>i+j):=⟨fun _=>jpA⟩
theorem jqb:WIp M .Sub (fun i j=>i-j):=⟨fun _=>jpm⟩
theorem joa {i:Nat} {op:Operator} {g:Int->Int->Int} {pos':Pos} (ho:WIp M op g) (h:WE M e fe) (hN:∀j,(M.X j).N.Nodup) (hi:M.N[i]?=some x) (hx:∀j,Loc (M.X j).env.scope x) (hf:∀j,(M.X j).fn x=true\/(M.X j).env.scope.names.lookup x=some .local) :
 WS M (.AugAssign (.Name x pos') op e pos) (jms i fe g):=let ⟨_,h1,h2⟩:=h.h;⟨_,fun j=>jov (hN j) (by rw [M.hN j];exact hi) (hx j) (h1 j) (ho.h j) (hf j),@jqv M.fr _ _ g i h2⟩
theorem jis {i:Nat} {y:Str} {py p1 tpos:Pos} {op:Operator} {g:Int → Int → Int} (ho:WIp M op g) (hN:M.N[i]?=some y) (hv:∀j,Vis (M.X j).env.scope y) (hk:WT M a fa) (hl:WE M b fb) (h:WE M e fe) (hd:(y == ("__debug__":Str))=false:=by decide) (hcd:(y == ("__classdict__":Str))=false:=by decide) (hs:jeu a:=by exact fun _ _=>rfl)
 (ha:∀ov iv new,augStore b ov iv new=(do holding [new,ov,iv] (setItem ov iv new);release [new,ov,iv] [];pure .next):=by intros;rfl):WS M (.AugAssign (.Subscript (.Subscript (.Name y py) a p1) b tpos) op e pos) (jc2 i fa fb fe g):=
 let ⟨_,a1,a2⟩:=hk.h;let ⟨_,b1,b2⟩:=hl.h;let ⟨_,e1,e2⟩:=h.h
 ⟨_,fun j=>jmq (jny (r:=rIx M.K) (by rw [<-M.hK j];exact jjZ) ‹"R"› (a1 j) hs) (b1 j) jkV (e1 j) (ho.h j) jfk ha,@joy M.fr _ _ _ _ _ _ g i a2 b2 e2⟩
end
end L2
namespace L2
open PySem PySem.Spec PyProof.Rows
abbrev TLk:=V->TT
section
variable {X:Cx} {op op':CmpOp} {ops:List CmpOp} {b b' a:Expr} {bs:List Expr} {r:R2} {tb ta:TE} {l:TLk} {pos:Pos}
end
section
variable [Fr]
variable {r:R2} {f:D->D->Option D} {ta tb:TE} {fa fb:eg->Option D} {l:TLk} {m:D->eg->Option Bool}
end
section
variable {M:Fm} {a b b':Expr} {bs:List Expr} {op op':CmpOp} {ops:List CmpOp} {f:D->D->Option D} {fa fb:eg->Option D} {m:D->eg->Option Bool} {pos:Pos}
end
end L2
namespace L2
open PySem PySem.Spec PyProof.Rows
def jgK:V->List V->Hp->VK->Prop:=fun x vs H Q=>∃(l:Addr) (bs:List Bool) (b:Bool),x=.ref l/\vs=[.bl b]/\Rd H l (.lst (bs.map V.bl))/\Q (.int ((bs.countP (· == b):Nat):Int)) H
theorem jgh:∀{bs:List Bool} {tF:List Value},Vals (bs.map V.bl) tF->tF=bs.map Value.bool
 | [],_,h=>by cases h;rfl
 | b::bs,_,h=>by
   cases h with
   | cons r t=>cases r;rw [jgh t];rfl
section
variable {X:Cx}
theorem jlL:MtR X "list.count" jgK:=by
 intro tf s σ H x vs v us Q I rx rv h;obtain ⟨l,bs,b,rfl,rfl,hH,q⟩:=h;cases rx;obtain ⟨u,rfl,ru⟩:=rv.one;cases ru;obtain ⟨z,tF,n,r,e⟩:=hH.ok I.hok;have hits:=jgh r;subst hits;refine call_meets PySem.F.slot_list_count ⟨_,e,rfl⟩ PySem.F.entry_list_count (PySem.F.args_list_count_2 _ _) (PySem.SeqAt.list_countAt l (bs.map Value.bool).toArray n none #[] (.bool b) (isBoolOf b)) ⟨e,fun y hy=>?_,?_⟩
 . have hy':y∈bs.map Value.bool:=by simpa using hy
   obtain ⟨c,_,rfl⟩:=YO.mp hy';exact PySem.SeqAt.EqAt.bool_bool c b
 . have ec:List.countP (isBoolOf b) (bs.map Value.bool).toArray.toList=bs.countP (· == b):=by show List.countP (isBoolOf b) (bs.map Value.bool)=_;rw [List.countP_map];rfl
   rw [ec];exact ⟨.int _,H,I.tok _,⟨_,rfl⟩,q⟩
end
section
variable [Fr]
def jc3:D->List D->Option D
 | .lst l,[.bl b]=>(jdx l).map fun bs=>.int ((bs.countP (· == b):Nat):Int)
 | _,_=>none
theorem jjY {G:Hp} {bs:List Bool} {vs:List V} (h:Reps G vs (bs.map D.bl)):vs=bs.map V.bl:=h.bls
def eBM (f:D->List D->Option D) (fa:eg->Option D) (fs:eg->Option (List D)):eg->Option D:=fun ρ=>(fa ρ).bind fun x=>(fs ρ).bind fun xs=>f x xs
theorem jlQ {to:TE} {t:TA} {fa:eg → Option D} {fs:eg → Option (List D)} (ha:zR to fa) (hs:AOk t fs):EOk (tBM Fr.K "list" jgK to t) (eBM jc3 fa fs):=fun G0 H0 G H σ ρ Q d e q k=>by
 obtain ⟨x,qa,q⟩:=bind_some q;obtain ⟨xs,qs,q⟩:=bind_some q;refine ha G0 H0 G H σ ρ _ x e qa fun u G1 H1 x1 r1=>?_;unfold jc3 at q;split at q
 . obtain ⟨bs,hb,q⟩:=map_some q;subst q;obtain ⟨_,_,rfl,h,r⟩:=r1.of_lst;rw [jbn hb] at r;have hv:=jjY r;subst hv;refine ⟨.inl ⟨rfl,_,.inl h⟩,hs G0 H0 G1 H1 σ ρ _ _ (e.grow x1) qs fun vs G2 H2 x2 r2=>?_⟩;cases r2 with
   | cons r2 t2=>
     cases t2
     (have hh:=Rep.of_bl r2;subst hh)
     exact ⟨_,bs,_,rfl,rfl,h.same x2.hh,k _ G2 H2 (x1.trans x2) (.int _)⟩
 . cases q
end
section
variable {M:Fm} {o e:Expr} {fa fe:eg->Option D} {apos cpos:Pos}
theorem jmw (ha:WT M o fa) (hb:WE M e fe) (h':qg e=false:=by rfl)
 (hbase:∀j,attributeBase o "count" (M.X j).env (eval o (M.X j).env)=eval o (M.X j).env:=by intro _;rfl) (hline:(apos.endLine == cpos.line)=true:=by rfl):WE M (.Call (.Attribute o "count" apos) [e] [] cpos) (eBM jc3 fa (jc fe jl)):=
 let ⟨_,h1,h2⟩:=ha.h;let ⟨_,k1,k2⟩:=hb.h
 ⟨tBM M.K "list" jgK _ _,fun j=>by have:=jnX (X:=M.X j) (apos:=apos) (cpos:=cpos) PySem.F.plainAttrs_list PySem.F.slot_list_count PySem.F.type_list_count jlL (h1 j) (QI (k1 j) jba (qi h')) (hbase j) (by rw [qi h'];rfl) hline (qi h') (JM rfl);rw [M.hK j] at this;exact this,@jlQ M.fr _ _ _ _ h2 (@jlJ M.fr _ _ _ _ k2 (@a_nil M.fr))⟩
end
section
variable {P:Program} {w:World} {K:PySem.W.Frag} {mg:Str->Option Value} {base:Heap} {f:Addr} {fd:FuncData} {ps:List Str} {k:Nat}
theorem jpt:FnOk P w K mg base JC k f fd ps (@spS ⟨K⟩ fun _=>none):=⟨fun vs H Q E z=>(by obtain ⟨_,_,_,_,_,h,_⟩:=z;cases h),fun A outer s H args us vs Q E _ _ _ _ z=>by obtain ⟨_,_,_,_,_,h,_⟩:=z;cases h⟩
end
end L2
namespace QS
open PySem.W PyProof.Rows
structure PA (n:Nat) (p:Array Nat):Prop where
 size:p.size=n
 perm:p.toList.Perm (List.range n)
def key (K:Nat->Int) (p:Array Nat) (i:Nat):Int:=K (p.getD i 0)
section
variable {n:Nat} {K:Nat->Int} {p:Array Nat}
theorem Z5 {q:Array Nat} {i j:Nat} (h:p[i]?=q[j]?):key K p i=key K q j:=by unfold key;rw [Ko,Ko,h]
def Ris (K:Nat->Int) (p:Array Nat) (m:Nat):Prop:=∀i,i+1<m->key K p i<key K p (i+1)
theorem Ris.all {m:Nat} (h:Ris K p m):∀{d i:Nat},i+d+1<m->key K p i<key K p (i+d+1)
 | 0,i,hi=>h i hi
 | d+1,i,hi=>Int.lt_trans (h.all (d:=d) (by omega)) (h (i+d+1) (by omega))
variable (hK:∀i j,i<n->j<n->i≠j->K i≠K j)
include hK
end
end QS
namespace QS
open PySem PySem.W PySem.Calls PyProof.Rows
abbrev Tr:=Value×Int×Int
def t0:Tr:=(.none,0,0)
section
variable {prog:Program} {w:World} {A:Around} {E:Value->Shared->Prop} {s:Shared}
def trs (as:List Addr) (ps:List (Int×Int)):List Tr:=(as.zip ps).map fun q=>(.ref q.1,q.2)
end
end QS
namespace QS
open PySem PySem.W PySem.Calls PyProof.Rows PyProof.V PySem.Spec
section
variable {prog:Program} {w:World} {A:Around} {R:Result->Shared->Prop} {I S:Addr} {fp wr:List Addr} {n:Nat} {P:Nat->Value->Prop} {St:Nat->Heap->Prop} {val:Nat->Int} {d:Value}
theorem gt_int {a b:Int} {t u:Tok} {s:Shared} {Q:Value->Shared->Prop} {E:Value->Shared->Prop} (h:Q (.bool (decide (a>b))) s):wpAny (model prog w) A (richCompare .Gt (.int a t) (.int b u)) Q E s:=CmpOf.ints_gt (P:=fun i v=>v=.int (if i=0 then a else b) (if i=0 then t else u)) (fun i=>if i=0 then a else b) (fun i v hv=>⟨_,hv⟩) 0 1 _ _ s Q E rfl rfl h
end
section
variable {prog:Program} {w:World} {A:Around} {E:Value->Shared->Prop} {s:Shared}
end
end QS
namespace L2
open PySem PySem.Spec PyProof.Rows
section
variable {X:Cx}
end
section
variable [Fr]
end
section
variable {X:Cx}
end
section
variable [Fr]
end
end L2
namespace L2
open PySem PySem.Spec PyProof.Rows
section
variable {M:Fm} {o e f:Expr} {fa fb fx:eg->Option D}
end
end L2
namespace Q
open PySem PySem.Spec PyProof.Rows L2
def JI:FS:=(jz (Qa (qR (js dLt (ja 1) (jk JP (jc (ja 0) jl))))
 (qE (js jZ (ja 0) (ja 1))) qj)
 (qE (eC (.int 0))))
def qm:List D->Option D:=qQ 2 2 JI
def jcE:FS:=(qE (jdc (jgo "int" (ja 0)) (jjp (jgo "bool" (ja 0)))))
def jae:List D->Option D:=qQ 1 1 jcE
def jbp:FS:=(jz (Qa (bOr (jbQ (qR (jgo "tuple" (ja 0)))) (qR (js dNe (jk JP (jc (ja 0) jl)) (eC (.int 4)))))
 (qE (eC (.bl false))) qj)
 (jz (Qa (jbQ (qR (jk jiJ (jc (jN (JT (jbM (jr 0)) (jx 0) ‹"k"› (jk jae (jc (jr 0) jl)) 1 [])) jl))))
 (qE (eC (.bl false))) qj)
 (jz (jM 1 (js qX (js jZ (ja 0) (eC (.int 1))) ‹"ad"›))
 (qE (jdc (js dGt (ja 1) (eC (.int 0))) (jdc (js dGe (js jZ (ja 0) (eC (.int 3))) (eC (.int 0))) (JK dLe dLe (eC (.int 0)) (js jZ (ja 0) (eC (.int 2))) (js zr (js jZ (ja 0) (eC (.int 3))) (ja 1)))))))))
def Qc:List D->Option D:=qQ 1 2 jbp
def ZZ:FS:=(qE (jdc (jgo "list" (ja 0)) (jk jiJ (jc (jN (JT (j7 (ja 0)) (jx 0) ‹"k"› (jk Qc (jc (jr 0) jl)) 1 [])) jl))))
def Qo:List D->Option D:=qQ 1 1 ZZ
def Ji:FS:=(Qa (jbQ (qR (jk Qo (jc (jr 0) jl))))
 (fun _=>.fail) qj)
def zD:List D->Option D:=qQ 1 1 Ji
def Qz:FS:=(jz (jM 3 (jk Js (jc (jN (JT (Q4 (jc (ja 1) (jc (ja 2) jl))) (JS 2 (jV (jx 0) (jV (jx 1) JU))) (jbQ (qR (ja 1))) (jr 0) 2 [])) jl)))
 (qE (jk ZU (jc (js qX (ja 0) (ja 3)) (jc (eC (.int 0)) jl)))))
def jai:List D->Option D:=qQ 3 4 Qz
def jhn:FS:=(zy (JT (Q4 (jc (ja 0) (jc (ja 1) jl))) (JS 2 (jV (jx 0) (jV (jx 1) JU))) (qR (js dEq (ja 1) (ja 2))) (jr 0) 2 [2]))
def Qq:List D->Option (List D):=Je 3 3 jhn
def jcS:FS:=(jz (Jo 3 (JQ jl))
 (jz (zT (J7 (jc (jr 2) jl)) (JS 2 (jV (jx 4) (jV (jx 5) JU)))
 (jz (jM 6 (eBM jc3 (jN (eSl (ja 2) pNo (pSo (ja 4)))) (jc (jr 5) jl)))
 (QE 3 (eIf (qR (ja 5)) (js jZ (ja 0) (ja 6)) (js jZ (ja 1) (ja 6))))))
 (jcD 3)))
def jaF:List D->Option (List D):=Je 3 7 jcS
def jen:FS:=(jz (zT (J7 (jc (jr 1) jl)) (JS 2 (jV (jx 4) (jV (jx 5) JU)))
 (Qa (ZI (qR (js dGt (js jZ (ja 5) (ja 2)) (eC (.int 0)))) (qR (js dLt (js jZ (ja 5) (ja 3)) (js jZ (js jZ (ja 0) (ja 4)) (ja 3)))))
 (qE (jr 4)) qj))
 (qE (eC .non)))
def QD:List D->Option D:=qQ 4 6 jen
def jek:FS:=(jz (jfo 3 (jk jev (jc (ja 2) jl)))
 (jz (Jo 4 (jk jcQ (jc (ja 2) jl)))
 (jz (jM 5 (eC (.int 0)))
 (jz (JN (qR (js dLt (ja 5) (jk JP (jc (ja 4) jl))))
 (jz (jM 6 (js jZ (ja 4) (ja 5)))
 (jz (zT (QW (jc (jk JP (jc ‹"ad"› jl)) jl)) (jx 7)
 (jz (jM 8 (eIf (qR ‹"at"›) (eC .non) ‹"K"›))
 (Qa (qR (ZL (ja 8)))
 (jz (jbv 3 (jr 7) (jaD (jc (jr 8) (jc (jr 6) (jc (jr 7) jl)))))
 (QE 4 (jr 7))) qj)))
 (jms 5 (eC (.int 1)) (fun i j=>i+j)))))
 (jgl 3)))))
def jb1:List D->Option D:=qQ 3 9 jek
def jc1:FS:=(jz (Jo 2 (JQ jl))
 (jz (jM 3 (js jiw (ja 0) (ja 1)))
 (jz (JN (qR (ZL (ja 3)))
 (jz (QE 2 (jr 3))
 (jM 3 (js jbq (ja 0) (js jZ (ja 3) (eC (.int 1)))))))
 (zy (jk jj7 (jc (ja 2) jl))))))
def jay:List D->Option (List D):=Je 2 4 jc1
def jcp:FS:=(jz (jb2 3 (jkI (j7 (ja 0)) (jx 0) ‹"k"› (jk Zr (jc (ja 0) jl)) 1 []))
 (jz (zT (j7 (jr 1)) (JS 3 (jV (jx 4) (jV (jx 5) (jV (jx 6) JU))))
 (jz (Qa (qR (ZL (ja 5)))
 (jc2 3 (ja 4) (jr 5) (jr 2) (fun i j=>i-j)) qj)
 (jc2 3 (ja 4) (jr 6) (jr 2) (fun i j=>i+j))))
 (jeB 3 (qE (jr 3)))))
def jap:List D->Option D:=qQ 3 7 jcp
def jci:FS:=(jz (jfo 3 jli)
 (jz (zT (J7 (jc (jr 2) jl)) (JS 2 (jV (jx 4) (jV (jx 5) JU)))
 (jz (jM 6 (js dLt (jk Js (jc (ja 5) jl)) (js jZ (ja 0) (ja 4))))
 (zT (J7 (jc (jr 5) jl)) (JS 2 (jV (jx 7) (jV (jx 8) JU)))
 (Qa ‹"w"›
 (jbv 3 (jr 7) (jaD (jc (jr 4) (jc (eC .non) (jc (jr 7) jl))))) qj))))
 (jgl 3)))
def jaU:List D->Option D:=qQ 3 9 jci
def jd5:FS:=(qE (jk Js (jc (jN (JT (j7 (ja 0)) (jx 0) ‹"k"› (js jZ (ja 0) (ja 1)) 1 [1])) jl)))
def Qt:List D->Option D:=qQ 2 2 jd5
def QH:FS:=(jz (jM 4 (js jZ (js jZ (ja 3) (eC (.int 0))) (eC (.int 0))))
 (jz (Jo 5 (JQ (jc (js qX (js jZ (ja 0) (ja 4)) (jk Js (jc (js jZ (ja 2) (ja 4)) jl))) jl)))
 (jz (zT (j7 (jr 3)) (JS 3 (jV (jx 6) (jV (jx 7) (jV (jx 8) JU))))
 (jz (QE 5 (js qX (js jZ (js jZ (ja 1) (ja 6)) (ja 8)) (js jZ (js jZ (ja 2) (ja 6)) (ja 8))))
 (Qa (qR (ZL (ja 7)))
 (QE 5 (js jZ (js jZ (ja 2) (ja 6)) (ja 7))) qj)))
 (qE (jk jdJ (jc (ja 5) jl))))))
def Jy:List D->Option D:=qQ 4 9 QH
def jcM:FS:=(JN (qR (eC (.bl true)))
 (jz (jM 4 (jk jb1 (jc (jr 1) (jc (jr 3) (jc (jk jaU (jc (jr 0) (jc (jr 1) (jc (jr 3) jl)))) jl)))))
 (jz (jM 5 (jN (JT (jd4 (jr 4)) (jx 0) (qR (js dLt (jk Qt (jc (jr 1) (jc (jr 0) jl))) (js jZ (ja 2) (ja 0)))) (jr 0) 1 [3,2])))
 (jz (Qa (qR (js dEq (ja 5) (jN (JQ jl))))
 (jz (jM 6 (jk Js (jc (jN (JT (j7 (ja 3)) (jx 0) ‹"k"› (jk Js (jc (ja 0) jl)) 1 [])) jl)))
 (qE (jaD (jc (jr 6) (jc (jr 3) (jc (jN (JT (QW (jc (jk JP (jc (ja 2) jl)) jl)) (jx 0) (fun _=>some true) (js (jah false) (ja 0) (ja 1)) 1 [4])) jl)))))) qj)
 (jz (jM 7 (jN (jk jay (jc (jr 4) (jc (js jZ (ja 5) (eC (.int 0))) jl)))))
 (jz (jM 8 (js qX (js jZ (ja 2) (js jZ (ja 5) (eC (.int 0)))) (jk Qt (jc (jr 3) (jc (js jZ (ja 5) (eC (.int 0))) jl)))))
 (jM 3 (jk jap (jc (jr 3) (jc (jr 7) (jc (jk ZW (jc (ja 8) (jc (jk Jy (jc (jr 0) (jc (jr 1) (jc (jr 3) (jc (jr 7) jl))))) jl))) jl)))))))))))
def Zk:List D->Option D:=qQ 4 9 jcM
def Q3:FS:=(zy (JT (j7 (ja 0)) (jx 0) ‹"k"› (jN (js jne (jN (JQ (jc (eC (.int 0)) jl))) (jk JP (jc (ja 0) jl)))) 1 []))
def J2:List D->Option (List D):=Je 1 1 Q3
def qy (f_evened:List D->Option D):FS:=(jz (jM 4 (jN (JT (Q4 (jc (ja 0) (jc (ja 1) jl))) (JS 2 (jV (jx 0) (jV (jx 1) JU))) ‹"k"› (jk jai (jc (jr 0) (jc (jr 1) (jc (jr 2) jl)))) 2 [3])))
 (jz (jM 5 (jN (JT (Q4 (jc (ja 0) (jc (ja 4) jl))) (JS 2 (jV (jx 0) (jV (jx 1) JU))) ‹"k"› (js qX (ja 0) (ja 1)) 2 [])))
 (jz (jM 6 (jk f_evened (jc (jr 4) (jc (jN (JT (j7 (ja 1)) (jx 0) ‹"k"› (jN (jk Qq (jc (jr 0) (jc (jr 1) (jc (eC (.bl true)) jl))))) 1 [3])) (jc (jN (jk Qq (jc (jr 2) (jc (jr 3) (jc (eC (.bl true)) jl))))) jl)))))
 (jz (jM 7 (jk f_evened (jc (jr 5) (jc (jN (JT (j7 (ja 1)) (jx 0) ‹"k"› (jN (jk Qq (jc (jr 0) (jc (jr 1) (jc (eC (.bl false)) jl))))) 1 [3])) (jc (jN (jk Qq (jc (jr 2) (jc (jr 3) (jc (eC (.bl false)) jl))))) jl)))))
 (zy (JT (Q4 (jc (ja 6) (jc (ja 7) jl))) (JS 2 (jV (jx 0) (jV (jx 1) JU))) (fun _=>some true) (jN (jk jaF (jc (jr 0) (jc (jr 1) (jc (jr 2) jl))))) 2 [3]))))))
def ja4 (f_evened_apart:List D->Option (List D)):FS:=(jz (jM 3 (js Zj (jk Js (jc (ja 0) jl)) (jk Js (jc (ja 2) jl))))
 (jz (jM 4 (jk Zk (jc (jr 0) (jc (jr 1) (jc (jN (JT (j7 (ja 2)) (jx 0) ‹"k"› (js zr (ja 1) (ja 0)) 1 [3])) (jc (jN (jk J2 (jc (jr 1) jl))) jl))))))
 (jz (Qa (qR (js dLt (js jZ (ja 4) (eC (.int 0))) (js zr (ja 3) (jk Js (jc (ja 2) jl)))))
 (qE (jN (jk f_evened_apart (jc (jr 0) (jc (jr 1) (jc (jr 2) (jc (js jZ (ja 4) (eC (.int 2))) jl))))))) qj)
 (jz (jM 5 (jk Zk (jc (jr 0) (jc (jr 1) (jc (jN (JT (j7 (ja 2)) (jx 0) ‹"k"› (js zr (js qL (ja 1) (eC (.int 1))) (ja 0)) 1 [3])) (jc (js jZ (ja 4) (eC (.int 1))) jl))))))
 (jz (Qa (qR (js dLt (js jZ (ja 5) (eC (.int 0))) (jk Js (jc (ja 0) jl))))
 (qE (jN (jk f_evened_apart (jc (jr 0) (jc (jr 1) (jc (jr 2) (jc (js jZ (ja 5) (eC (.int 2))) jl))))))) qj)
 (qE (js jZ (ja 5) (eC (.int 1)))))))))
def zc:Nat->List D->Option D
 | 0=>fun _=>none
 | k+1=>qQ 3 6 (ja4 (Je 4 8 (qy (zc k))))
def f_evened:List D->Option D:=zc 17
def Qr:FS:=(zy (JT (j7 (ja 0)) (jx 0) ‹"k"› (js jZ (ja 0) (eC (.int 2))) 1 []))
def Qw:List D->Option (List D):=Je 1 1 Qr
def jaR:FS:=(jz (jM 1 (jN (JT (j7 (ja 0)) (jx 0) ‹"k"› ‹"ad"› 1 [])))
 (jz (jM 2 (jN (JT (j7 (ja 0)) (jx 0) ‹"k"› (js jZ (ja 0) (eC (.int 1))) 1 [])))
 (zy (jgb (jc (jN (js jdt (ja 1) (ja 2))) jl)))))
def jcz:List D->Option (List D):=Je 1 3 jaR
def J0:FS:=(jz (jM 1 (jN (jk jcz (jc (jr 0) jl))))
 (zy (eLZ (jc (ja 1) (jc (jN (eSl (ja 1) (pSo (eC (.int 1))) pNo)) jl)))))
def Jh:List D->Option (List D):=Je 1 2 J0
def jc5:FS:=(qE (js qX (js jZ (ja 0) (eC (.int 1))) ‹"ad"›))
def Qj:List D->Option D:=qQ 1 1 jc5
def jgR:FS:=(jz (Qa (ZI (qR (js dLe ‹"ad"› (js jZ (ja 1) (eC (.int 0))))) (qR (js dLe (js jZ (ja 1) (eC (.int 1))) (js jZ (ja 0) (eC (.int 1))))))
 (qE (js zr (js jZ (ja 0) (eC (.int 3))) (jk Qj (jc (jr 1) jl)))) qj)
 (qE (eC (.int 0))))
def jeM:List D->Option D:=qQ 2 2 jgR
def QC:FS:=(jz (jM 1 (jN (jk Jh (jc (jr 0) jl))))
 (zy (JT (j7 (ja 0)) (jx 0) (fun _=>some true) (jN (JT (j7 (ja 1)) (jx 0) (fun _=>some true) (jk jeM (jc (jr 1) (jc (jr 0) jl))) 1 [0])) 1 [1])))
def jag:List D->Option (List D):=Je 1 2 QC
def Jr:FS:=(zy (JT (j7 (jN (jk Jh (jc (jr 0) jl)))) (jx 0) ‹"k"› (jk Qj (jc (jr 0) jl)) 1 []))
def Ju:List D->Option (List D):=Je 1 1 Jr
def jgZ:FS:=(jz (jcb (jk zD (jc (jr 0) jl)))
 (jz (Qa (qR (js dEq (ja 0) (jN (JQ jl))))
 (qE (jN (JQ jl))) qj)
 (qE (jk f_evened (jc (jN (jk Qw (jc (jr 0) jl))) (jc (jN (jk jag (jc (jr 0) jl))) (jc (jN (jk Ju (jc (jr 0) jl))) jl)))))))
def jd8:List D->Option D:=qQ 1 1 jgZ
def Qx:FS:=(jz (ji6 (JS 4 (jV (jx 3) (jV (jx 4) (jV (jx 5) (jV (jx 6) JU))))) (jr 0))
 (jz (jM 7 (jr 5))
 (jz (Jo 8 (JQ jl))
 (jz (zT (QW (jc (js qX (ja 4) (ja 3)) jl)) (jx 9)
 (jz (jM 10 (js jZ (ja 1) (js qV (js qL (ja 2) (ja 9)) (jk JP (jc (ja 1) jl)))))
 (jz (jM 11 (js jZ (jN (JQ (jc (eC (.int 0)) (jc (jr 6) (jc (js qV (js Zj (ja 10) (eC (.int 4))) (js qL (ja 6) (eC (.int 1)))) (jc (js Zj (ja 6) (eC (.int 2))) jl)))))) (js qV (ja 10) (eC (.int 4)))))
 (jz (QE 8 (jk ZW (jc (ja 7) (jc (ja 11) jl))))
 (jM 7 (js qX (ja 7) (js jZ (ja 8) (ja 9))))))))
 (jz (zT (QW (jc (js qX (ja 4) (ja 3)) jl)) (jx 9)
 (jz (jM 12 (js qV (js qL (ja 9) (js jZ (ja 1) (js qV (ja 2) (jk JP (jc (ja 1) jl))))) (js qX (ja 4) (ja 3))))
 (jz (jM 13 (jk ZW (jc (ja 7) (jc (js qX (ja 6) (js jZ (ja 8) (ja 12))) jl))))
 (jz (jdv 8 (jr 12) (js qL (js jZ (ja 8) (ja 12)) (ja 13)))
 (jM 7 (js qX (ja 7) (ja 13)))))))
 (jcD 8))))))
def Jv:List D->Option (List D):=Je 3 14 Qx
def QJ:FS:=(jz (zT (J7 (jc (jr 0) jl)) (JS 2 (jV (jx 2) (jV (jx 3) JU)))
 (Qa ‹"M"›
 (qE (jr 2)) qj))
 (qE (eC .non)))
def Z6:List D->Option D:=qQ 2 4 QJ
def ZA:FS:=(jz (jM 3 (jk Qj (jc (jr 1) jl)))
 (jz (jM 4 (eIf (qR (js dLt (js qX (ja 2) (js jZ (ja 1) (eC (.int 0)))) (js qV (ja 0) (ja 3)))) (eC (.int 1)) (eC (.int 0))))
 (qE (js qL (js Zj (ja 0) (ja 3)) (ja 4)))))
def jbm:List D->Option D:=qQ 3 5 ZA
def jd7:FS:=(jz (jM 3 (jN (jk Jh (jc (jr 0) jl))))
 (jz (jM 4 (jk Z6 (jc (jr 3) (jc (jr 2) jl))))
 (jz (Qa (qR (jjC (ja 4)))
 (qE (eC (.int 0))) qj)
 (qE (jk jbm (jc (jk Qt (jc (jr 1) (jc (jr 4) jl))) (jc (js jZ (ja 3) (ja 4)) (jc (jr 2) jl))))))))
def jg8:List D->Option D:=qQ 3 5 jd7
def JZ:FS:=(jz ‹"8"›
 (jz ‹"D"›
 (jz (Qa (qR (js dEq (ja 2) (eC (.int 1))))
 (jz ‹"4"›
 (jM 4 (js qL (js qL (ja 3) (eC (.int 1))) (js qV (js Zj (ja 0) (eC (.int 50))) (eC (.int 40)))))) qj)
 (jz (Qa (qR (js dEq (ja 2) (eC (.int 2))))
 (jz ‹"l"›
 (jM 4 (js qL (js qL (ja 3) (eC (.int 1))) (js zr (js qV (js zr (ja 0) (eC (.int 1664525013))) (eC (.int 2147483629))) (js Qu (eC (.int 10)) (eC (.int 5))))))) qj)
 (jz (jM 5 (js jZ (jN (JQ (jc (eC (.int 2)) (jc (eC (.int 1)) (jc (eC (.int 3)) (jc (eC (.int 5)) (jc (js Qu (eC (.int 10)) (eC (.int 15))) (jc (js qL (eC (.int 1)) (js qV (js Zj (ja 1) (eC (.int 8))) (eC (.int 50)))) (jc (eC (.int 0)) (jc (eC (.int 4)) jl)))))))))) (js qV (ja 1) (eC (.int 8)))))
 (jz (jM 6 (js qV (js zr (ja 1) (eC (.int 1103515245))) (eC (.int 2147483647))))
 (jz (jM 7 (js zr (ja 5) (js qX (ja 4) (ja 3))))
 (jz (jM 8 (js jZ (jN (JQ (jc (js Zj (js zr (ja 7) (js qV (ja 6) (eC (.int 17)))) (eC (.int 16))) (jc (js qV (ja 6) (js qL (ja 7) (eC (.int 1)))) (jc (jk ZW (jc (ja 7) (jc (js qV (ja 6) (eC (.int 9))) jl))) (jc (jr 7) jl)))))) (js qV (js Zj (ja 6) (eC (.int 17))) (eC (.int 4)))))
 (qE (jaD (jc (jr 3) (jc (jr 4) (jc (jr 8) (jc (jr 5) jl))))))))))))))
def zd:List D->Option D:=qQ 3 9 JZ
def jhO:FS:=(jz (jM 1 (jk qm (jc (jr 0) (jc (eC (.int 0)) jl))))
 (jz (Jo 2 (JQ jl))
 (jz (zT (QW (jc (js qL (eC (.int 1)) (js qV (ja 1) (eC (.int 4)))) jl)) (jx 3)
 (QE 2 (jk zd (jc (jk qm (jc (jr 0) (jc (js qL (eC (.int 1)) (js zr (eC (.int 2)) (ja 3))) jl))) (jc (jk qm (jc (jr 0) (jc (js qL (eC (.int 2)) (js zr (eC (.int 2)) (ja 3))) jl))) (jc (eC (.int 0)) jl))))))
 (jz (jM 4 (jN (js jdt (jN (eSl (ja 0) (pSo (eC (.int 10))) (pSo (eC (.int 63))))) (jN (JQ (jc (eC (.int 0)) jl))))))
 (jz (jM 5 (jk jdJ (jc (jN (JT (j7 (ja 2)) (jx 0) ‹"k"› ‹"ad"› 1 [])) jl)))
 (jz (jM 6 (jk jge (jc (jN (JT (j7 (ja 2)) (jx 0) ‹"k"› (js jZ (ja 0) (eC (.int 1))) 1 [])) jl)))
 (jz (Jo 7 (JT (QW (jc (js qX (ja 6) (ja 5)) jl)) (jx 0) ‹"k"› (eC (.int 0)) 1 []))
 (jz (zT (QW (jc (jk JP (jc (ja 2) jl)) jl)) (jx 8)
 (jz (jM 9 (jN (jk Jv (jc (js jZ (ja 2) (ja 8)) (jc (jr 4) (jc (js zr (eC (.int 11)) (ja 8)) jl))))))
 (zT (QW (jc (jk JP (jc (ja 9) jl)) jl)) (jx 10)
 (jz (jM 11 (js qL (js qX (js jZ (js jZ (ja 2) (ja 8)) (eC (.int 0))) (ja 5)) (ja 10)))
 (jdv 7 (jr 11) (js qL (js jZ (ja 7) (ja 11)) (js jZ (ja 9) (ja 10))))))))
 (jz (jM 12 (jk jd8 (jc (jN (jk Zr (jc (ja 2) jl))) jl)))
 (jz (jeB 2 (jM 13 (jN (JT (jkj (jc (ja 5) (jc (ja 6) jl))) (jx 0) ‹"k"› (jk jg8 (jc (jN (jk Zr (jc (ja 2) jl))) (jc (jr 1) (jc (jr 0) jl)))) 1 [12,2]))))
 (jz (zT (j7 (jN (js jdt (jN (js jdt (jN (JQ (jc (eC (.int 0)) jl))) (ja 7))) (jN (JT (j7 (ja 7)) (jx 0) ‹"k"› (js qL (ja 0) (eC (.int 1))) 1 []))))) (jx 3)
 (Qa (qR (js dGt (jk Js (jc (jN (JT (j7 (ja 13)) (jx 0) ‹"k"› ‹"ae"› 1 [3])) jl)) (jk Js (jc (jN (JT (j7 (ja 7)) (jx 0) ‹"k"› ‹"ae"› 1 [3])) jl))))
 (qE (eC (.bl false))) qj))
 (qE (eC (.bl true))))))))))))))
def jni:List D->Option D:=qQ 1 14 jhO
local macro_rules | `(tactic| walk_at "ev") => `(tactic| simp (disch := omega) only [qQ, Je, jaW, jdp, qB, jz, Qa, jM, Jo, qE, zy, jcD, qj, ji6, jeB, frz, QE, jqR, jdv, jkJ, jcb, jr, ja, eC, js, jk, jl, jc, JQ, jaD, jN, qR, ZI, bOr, jbQ, jrC, jjp, jdc, eOr, eIf, jx, JU, jV, JS, jjC, ZL, jrB, jqI, zp, eSl, pSo, pNo,
 jP,ql,QK,Jl,qM,jL,jhT,jkz,jkB,jed,jk2,J6,jeH,jb9,jhl,jmU,jpw,joo,jqS,JP,qx,ZW,ZU,Zr,jns,dIs,jnl,JK,JE,JF,jbo,jck,jeW,jk1,jlb,jjP,jgo,jbs,jcW,jbz,jbt,jbB,jbr,jat,jby,jas,ja0,jaI,jan,jbL,jb8,jbF,jbx,jbw,jbC,ja1,jbD,jaY,jaE,jaH,jaZ,ZP,jaB,ZR,ZV,ZQ,ZO,
 List.map_cons,yP,YG,yi,Y1,yJ,Kf,Km,List.getElem?_cons_zero,List.getElem?_cons_succ,Ki,yO,Yt,Yx,Nat.reduceAdd,Nat.reduceSub,Nat.reduceLT,Nat.reduceLeDiff,yC,ym,reduceIte,Y0,Bool.true_eq_false,Kk,Nat.add_zero,Ka,Nat.reduceEqDiff,Kz,y9,Bool.not_true,Bool.not_false,Int.reduceEq,Int.reduceLT,Int.reduceLE,Int.reduceNeg,Int.reduceSub,Int.reduceAdd,Int.reduceMul,Int.cast_ofNat_Int,Int.natCast_zero,Int.natCast_one])
local macro_rules | `(tactic| walk_at "evh") => `(tactic| simp (disch := omega) only [*, qQ, Je, jaW, jdp, qB, jz, Qa, jM, Jo, qE, zy, jcD, qj, ji6, jeB, frz, QE, jqR, jdv, jkJ, jcb, jr, ja, eC, js, jk, jl, jc, JQ, jaD, jN, qR, ZI, bOr, jbQ, jrC, jjp, jdc, eOr, eIf, jx, JU, jV, JS, jjC, ZL, jrB, jqI, zp, eSl, pSo, pNo,
 jP,ql,QK,Jl,qM,jL,jhT,jkz,jkB,jed,jk2,J6,jeH,jb9,jhl,jmU,jpw,joo,jqS,JP,qx,ZW,ZU,Zr,jns,dIs,jnl,JK,JE,JF,jbo,jck,jeW,jk1,jlb,jjP,jgo,jbs,jcW,jbz,jbt,jbB,jbr,jat,jby,jas,ja0,jaI,jan,jbL,jb8,jbF,jbx,jbw,jbC,ja1,jbD,jaY,jaE,jaH,jaZ,ZP,jaB,ZR,ZV,ZQ,ZO,
 List.map_cons,yP,YG,yi,Y1,yJ,Kf,Km,List.getElem?_cons_zero,List.getElem?_cons_succ,Ki,yO,Yt,Yx,Nat.reduceAdd,Nat.reduceSub,Nat.reduceLT,Nat.reduceLeDiff,yC,ym,reduceIte,Y0,Bool.true_eq_false,Kk,Nat.add_zero,Ka,Nat.reduceEqDiff,Kz,y9,Bool.not_true,Bool.not_false,Int.reduceEq,Int.reduceLT,Int.reduceLE,Int.reduceNeg,Int.reduceSub,Int.reduceAdd,Int.reduceMul,Int.cast_ofNat_Int,Int.natCast_zero,Int.natCast_one])
def cell (ns:List Int) (k:Int):Int:=ns.getD k.toNat 0
theorem jot {l:List Int}:JP [.scr l]=some (.int (l.length:Int)):=rfl
theorem jgL (ns:List Int) (k:Int) (h:0<=k):qm [.scr ns,.int k]=some (.int (cell ns k)):=by
 unfold qm JI;simp (disch:=omega) only [qQ,YG,yi,Kk,Nat.reduceAdd,jaW,jz,Qa,qR,js,ja,qB,List.map_cons,yP,Ka,yJ,Kf,Km,List.getElem?_cons_succ,List.getElem?_cons_zero,jk,jc,jl,Yx,Yt,jot,J6,qE,qj,eC,yC];by_cases hk:k<ns.length
 . have e:jZ (.scr ns) (.int k)=some (.int (cell ns k)):=by
    show (atI ns k).map D.int=_;unfold atI ixN;rw [if_pos h,if_pos hk];have hi:k.toNat<ns.length:=by omega
    simp [cell,hi,Ya]
   simp only [hk,Kz,e]
 . have e:cell ns k=0:=by unfold cell;rw [Ya,YC (by omega)];rfl
   simp only [hk,y9,e]
def jt (s:Ship):D:=.tup [.int s.b,.int s.e,.int s.n,.int s.m]
theorem jcv {ns:List Int} {i:Int} (h0:0<=i) (h1:i<ns.length):∃m,m∈ns/\jZ (.lst (ns.map D.int)) (.int i)=some (.int m):=by obtain ⟨d,hd,e⟩:=jrk (ds:=ns.map D.int) h0 (by rw [Yd];exact h1);obtain ⟨m,hm,rfl⟩:=YO.mp hd;exact ⟨m,hm,e⟩
theorem jlg {f x:Int} (h0:0<=f) (h1:0<=x) (h2:x<=16):0<=f*x/16/\f*x/16<=f:=by have a:0<=f*x:=Kx h0 h1;have b:f*x<=f*16:=Int.mul_le_mul_of_nonneg_left h2 h0;omega
section
variable {β:Type} {ρ:eg}
theorem jw {f:List D->Option β} {fa:eg->Option (List D)} {ds:List D} {x:β} (ha:fa ρ=some ds) (h:f ds=some x):jk f fa ρ=some x:=by unfold jk;rw [ha];exact h
theorem jj {g:D->D->Option β} {fa fb:eg->Option D} {x y:D} {z:β} (h1:fa ρ=some x) (h2:fb ρ=some y) (h3:g x y=some z):js g fa fb ρ=some z:=by unfold js;rw [h1,h2];exact h3
theorem jO {fe:eg->Option D} {i:Nat} {d:D} (h:fe ρ=some d):jM i fe ρ=.next (ρ.set i (.sh d)):=by unfold jM;rw [h]
theorem qp {fo:eg->Option (List D)} {l:List D} (h:fo ρ=some l):jN fo ρ=some (.lst l):=by unfold jN;rw [h];rfl
theorem jh {fa:eg->Option D} {fs:eg->Option (List D)} {d:D} {ds:List D} (h1:fa ρ=some d) (h2:fs ρ=some ds):jc fa fs ρ=some (d::ds):=by unfold jc;rw [h1,h2];rfl
theorem j6 {fa:eg->Option D} {b:Bool} (h:fa ρ=some (.bl b)):qR fa ρ=some b:=by unfold qR;rw [h]
theorem zW {fc:eg->Option Bool} {F:FS} (h:fc ρ=some false):Qa fc F qj ρ=.next ρ:=by unfold Qa;rw [h];rfl
theorem jaL {fc:eg->Option Bool} {F F':FS} (h:fc ρ=some true):Qa fc F F' ρ=F ρ:=by unfold Qa;rw [h]
theorem jro {ga gb:eg->Option Bool} {b:Bool} (h:ga ρ=some false) (h2:gb ρ=some b):bOr ga gb ρ=some b:=by unfold bOr;rw [h];exact h2
theorem jfS {ga:eg->Option Bool} {b:Bool} (h:ga ρ=some b):jbQ ga ρ=some (!b):=by unfold jbQ;rw [h];rfl
theorem QR {fe:eg->Option D} {d:D} (h:fe ρ=some d):qE fe ρ=.ret d:=by unfold qE;rw [h]
theorem jg5 {fa fb:eg->Option D} {d:D} (h:fa ρ=some (.bl true)) (h2:fb ρ=some d):jdc fa fb ρ=some d:=by unfold jdc;rw [j6 h];exact h2
theorem jq1 {i j:Int} (h:i=j):dEq (.int i) (.int j)=some (.bl true):=by rw [jmU,YX h]
theorem jsd {i j:Int} (h:i=j):dNe (.int i) (.int j)=some (.bl false):=by rw [jpw,YX h];rfl
theorem jrr {i j:Int} (h:i<=j):dGt (.int i) (.int j)=some (.bl false):=by rw [jb9,YY (by omega)]
theorem QT {C:Res->Prop} {F:FS} {r:Res} (h:F ρ=r) (k:C r):C (F ρ):=by rw [h];exact k
theorem j8 {F F':FS} {ρ':eg} (h:F ρ=.next ρ'):jz F F' ρ=F' ρ':=by unfold jz;rw [h]
theorem jgn {ga gb:eg->Option Bool} {b c:Bool} (h:ga ρ=some b) (h2:gb ρ=some c):ZI ga gb ρ=some (b && c):=by unfold ZI;rw [h];cases b <;> simp [h2]
theorem jnY {fc:eg->Option Bool} {F F':FS} {b:Bool} (h:fc ρ=some b):Qa fc F F' ρ=if b=true then F ρ else F' ρ:=by unfold Qa;rw [h];cases b <;> rfl
theorem jd0 {i j:Int} (h:¬i=j):dEq (.int i) (.int j)=some (.bl false):=by rw [jmU,YY h]
theorem jgr {fs:eg->Option (List D)} {l:List D} (h:fs ρ=some l) (h2:l.length<16777216):JQ fs ρ=some l:=by unfold JQ;rw [h];show (if zx l.length=true then _ else _)=_;rw [if_pos (qx h2)]
theorem jnB {fs:eg->Option (List D)} {l:List D} (h:fs ρ=some l) (h2:l.length<16777216):jaD fs ρ=some (.tup l):=by unfold jaD;rw [h];show (if zx l.length=true then _ else _)=_;rw [if_pos (qx h2)]
end
theorem jkF {ρ:eg} {i:Nat} {fa:eg->Option D} {ds:List D} {d:D} (h:ρ[i]?=some (.ow ds)) (hf:fa ρ=some d) (hs:ds.length<16777216):QE i fa ρ=.next (ρ.set i (.ow (ds++[d]))):=by unfold QE;rw [h,hf];show (if zx ds.length=true then _ else _)=_;rw [if_pos (qx hs)]
theorem jaz {a n:Nat} {m:FS} {ds:List D} {ρ:eg} {d:D} (h1:ds.length=a) (h2:qB n ds=ρ) (h:∀C:Res->Prop,C (.ret d)->C (m ρ)):qQ a n m ds=some d:=by unfold qQ;rw [if_pos h1,h2];exact h (fun r=>jaW r=some d) rfl
theorem jJ {C:Res->Prop} {F F':FS} {ρ:eg} (ρ':eg) (h:F ρ=.next ρ') (k:C (F' ρ')):C (jz F F' ρ):=by unfold jz;rw [h];exact k
structure Ok0 (s:Ship):Prop where
 ok:s.Ok
 long:s.e-s.b<=214748362800001
 lo:-100000000000000<=s.b
 hi:s.b<=114748364600000
theorem qd (x:Int) {k:Int} (h:0<k):0<=x%k/\x%k<k:=⟨yo _ (Int.ne_of_gt h),Y3 _ h⟩
theorem jrO (one two kind:Int):∃s:Ship,Ok0 s/\zd [.int one,.int two,.int kind]=some (jt s):=by
 have key:∃b e:Int,b<e/\e-b<=214748362800001 /\ -100000000000000<=b/\b<=114748364600000/\∀R:FS,
  (jz ‹"8"› (jz ‹"D"› (jz (Qa (qR (js dEq (ja 2) (eC (.int 1))))
  (jz ‹"4"›
  (jM 4 (js qL (js qL (ja 3) (eC (.int 1))) (js qV (js Zj (ja 0) (eC (.int 50))) (eC (.int 40)))))) qj)
  (jz (Qa (qR (js dEq (ja 2) (eC (.int 2))))
  (jz ‹"l"›
  (jM 4 (js qL (js qL (ja 3) (eC (.int 1))) (js zr (js qV (js zr (ja 0) (eC (.int 1664525013))) (eC (.int 2147483629))) (js Qu (eC (.int 10)) (eC (.int 5))))))) qj) R))))
    [.sh (.int one),.sh (.int two),.sh (.int kind),.un,.un,.un,.un,.un,.un]=R [.sh (.int one),.sh (.int two),.sh (.int kind),.sh (.int b),.sh (.int e),.un,.un,.un,.un]:=by
  have b50:=qd one (show (0:Int)<50 by decide);have b40:=qd (one/50) (show (0:Int)<40 by decide);have b6:=qd one (show (0:Int)<6 by decide);have b5:=qd (one/6) (show (0:Int)<5 by decide);have bx:=qd (one*1103515245) (show (0:Int)<2147483647 by decide);have by':=qd (one*1664525013) (show (0:Int)<2147483629 by decide)
  by_cases h1:kind=1
  . clear b6 b5 bx by'
    refine ⟨one%50-25,one%50-25+1+one/50%40,?_,?_,?_,?_,fun R=>
      ‹"E"›.trans ((j8 ‹"aL"›).trans
      ((j8 ((jaL (j6 (jj rfl rfl (jq1 h1)))).trans (‹"E"›.trans ‹"aL"›))).trans
      (j8 (zW (j6 (jj rfl rfl (jd0 (by omega))))))))⟩
    all_goals (generalize one%50=u at *;generalize one/50%40=v at *;omega)
  . by_cases h2:kind=2
    . clear b6 b5 b50 b40;refine ⟨(one*1103515245%2147483647-1000000000)*100000,(one*1103515245%2147483647-1000000000)*100000+1+one*1664525013%2147483629*100000,?_,?_,?_,?_,fun R=>
       ‹"E"›.trans ((j8 ‹"aL"›).trans
       ((j8 (zW (j6 (jj rfl rfl (jd0 h1))))).trans
       (j8 ((jaL (j6 (jj rfl rfl (jq1 h2)))).trans ((j8 (jO (jj (jj (jj (jj rfl rfl (Jl (by decide) (by decide))) rfl (jL (by decide))) (jj rfl rfl jkz) ql) (jj rfl rfl jhT) (Jl (by decide) (by decide))))).trans (jO (jj (jj rfl rfl jP) (jj (jj (jj rfl rfl (Jl (by decide) (by decide))) rfl (jL (by decide))) (jj rfl rfl jhT) (Jl (by decide) (by decide))) jP)))))))⟩
      all_goals (generalize one*1103515245%2147483647=u at *;generalize one*1664525013%2147483629=v at *;omega)
    . clear bx by' b50 b40
      refine ⟨one%6-2,one%6-2+1+one/6%5,?_,?_,?_,?_,fun R=>
       ‹"E"›.trans ((j8 ‹"aL"›).trans
       ((j8 (zW (j6 (jj rfl rfl (jd0 h1))))).trans (j8 (zW (j6 (jj rfl rfl (jd0 h2)))))))⟩
      all_goals (generalize one%6=u at *;generalize one/6%5=v at *;omega)
 obtain ⟨b,e,h1,h2,h3,h4,hk⟩:=key;obtain ⟨m,hm,em⟩:=jcv (ns:=[2,1,3,5,1000000000000000,1+two/8%50,0,4]) (i:=two%8) (qd two (show (0:Int)<8 by decide)).1 (qd two (show (0:Int)<8 by decide)).2;have m01:0<=m/\m<=1000000000000000:=by
  have:=qd (two/8) (show (0:Int)<50 by decide);simp only [Yl,YE,Kh] at hm;generalize two/8%50=u at *
  clear hk h1 h2 h3 h4 em;rcases hm with rfl | rfl | rfl | rfl | rfl | rfl | rfl | rfl
  . exact ⟨by decide,by decide⟩
  . exact ⟨by decide,by decide⟩
  . exact ⟨by decide,by decide⟩
  . exact ⟨by decide,by decide⟩
  . exact ⟨by decide,by decide⟩
  . omega
  . exact ⟨by decide,by decide⟩
  . exact ⟨by decide,by decide⟩
 clear hm;obtain ⟨m0,m1⟩:=m01;have full0:0<=m*(e-b):=Kx m0 (by omega);obtain ⟨x,hx,hx0⟩:∃x,two*1103515245%2147483647=x/\0<=x:=⟨_,rfl,(qd _ (by decide)).1⟩;obtain ⟨f,hf⟩:∃f,m*(e-b)=f:=⟨_,rfl⟩;rw [hf] at full0;obtain ⟨n,hn,en⟩:=jcv (ns:=[f*(x%17)/16,x%(f+1),if x%9<f then x%9 else f,f]) (i:=x/17%4) ‹"ao"›.1 ‹"ao"›.2;have n01:0<=n/\n<=f:=by
  have a1:=jlg full0 (x:=x%17) (qd x (by decide)).1 (Int.le_of_lt_add_one (qd x (show (0:Int)<17 by decide)).2);have a2:0<=x%(f+1):=yo _ (by omega);have a3:x%(f+1)<f+1:=Y3 _ (by omega);simp only [Yl,YE,Kh] at hn;rcases hn with rfl | rfl | rfl | rfl
  . exact a1
  . omega
  . split <;> omega
  . omega
 clear hn;refine ⟨⟨b,e,n,m⟩,⟨⟨h1,by show e-b<=_;omega,by show _<=b;omega,by show b<=_;omega,m0,m1,n01.1,by show n<=m*(e-b);rw [hf];exact n01.2⟩,h2,h3,h4⟩,?_⟩;unfold zd;refine jaz (ρ:=[.sh (.int one),.sh (.int two),.sh (.int kind),.un,.un,.un,.un,.un,.un]) rfl rfl fun C fin=>?_;unfold JZ;rw [hk];refine jJ [.sh (.int one),.sh (.int two),.sh (.int kind),.sh (.int b),.sh (.int e),.sh (.int m),.un,.un,.un] ‹"aF"› ?_;refine jJ [.sh (.int one),.sh (.int two),.sh (.int kind),.sh (.int b),.sh (.int e),.sh (.int m),.sh (.int x),.un,.un] (hx ▸ jO (jj (jj rfl rfl (Jl (by decide) (by decide))) rfl (jL (by decide)))) ?_;refine jJ [.sh (.int one),.sh (.int two),.sh (.int kind),.sh (.int b),.sh (.int e),.sh (.int m),.sh (.int x),.sh (.int f),.un] (hf ▸ jO (jj rfl (jj rfl rfl ql) (QK (by omega) (by omega)))) ?_;refine jJ [.sh (.int one),.sh (.int two),.sh (.int kind),.sh (.int b),.sh (.int e),.sh (.int m),.sh (.int x),.sh (.int f),.sh (.int n)] (jO (jj ‹"h"› ‹"e"› en)) ?_;exact QT ‹"0"› fin
theorem jiz {m:D->eg->Option eg} {B:FS} (P:List D->eg->Prop) (hs:∀d ds ρ,P (d::ds) ρ->∃ρ1 ρ2,m d ρ=some ρ1/\B ρ1=.next ρ2/\P ds ρ2):∀(ds:List D) (ρ:eg),P ds ρ->∃ρ',JO m B ds ρ=.next ρ'/\P [] ρ'
 | [],ρ,h=>⟨ρ,rfl,h⟩
 | d::ds,ρ,h=>by obtain ⟨ρ1,ρ2,h1,h2,h3⟩:=hs d ds ρ h;obtain ⟨ρ',h4,h5⟩:=jiz P hs ds ρ2 h3;exact ⟨ρ',by simp only [JO,h1,h2];exact h4,h5⟩
theorem jdO {C:Res->Prop} {F F':FS} {ρ:eg} {d:D} (h:F ρ=.ret d) (k:C (.ret d)):C (jz F F' ρ):=by unfold jz;rw [h];exact k
theorem jnO {C:Res->Prop} {fi:eg->Option (List D)} {m:D->eg->Option eg} {B F':FS} {ρ:eg} (ds:List D) (P:List D->eg->Prop) (hi:fi ρ=some ds) (h0:P ds ρ)
 (hs:∀d ds ρ,P (d::ds) ρ->∃ρ1 ρ2,m d ρ=some ρ1/\B ρ1=.next ρ2/\P ds ρ2) (k:∀ρ',P [] ρ'->C (F' ρ')):C (jz (zT fi m B) F' ρ):=by
 obtain ⟨ρ',h1,h2⟩:=jiz P hs ds ρ h0;exact jJ ρ' (by unfold zT;rw [hi];exact h1) (k ρ' h2)
theorem jgs (lo:Int) (n:Nat):rng lo (n+1)=.int lo::rng (lo+1) n:=by unfold rng;rw [List.range_succ_eq_map,List.map_cons,YF];simp only [Int.natCast_zero,KC,List.cons.injEq,true_and];refine Kd fun i _=>?_;simp only [Function.comp,Nat.succ_eq_add_one,Int.natCast_add,Int.natCast_one,D.int.injEq];omega
theorem Qm {fa:eg->Option (List D)} {ρ:eg} {j:Int} (h:fa ρ=some [.int j]) (h0:0<=j) (h1:j<4611686018427387904):QW fa ρ=some (rng 0 j.toNat):=by unfold QW;rw [h];simp only;rw [if_pos ⟨by omega,by omega⟩]
theorem jm3 (one two:Int):∃s:Ship,s.Ok/\(s.e-s.b<=5 /\ -2<=s.b/\s.b<=3)/\zd [.int one,.int two,.int 0]=some (jt s):=by
 have key:∃b e:Int,b<e/\e-b<=5 /\ -2<=b/\b<=3/\∀R:FS,
  (jz ‹"8"› (jz ‹"D"› (jz (Qa (qR (js dEq (ja 2) (eC (.int 1))))
  (jz ‹"4"›
  (jM 4 (js qL (js qL (ja 3) (eC (.int 1))) (js qV (js Zj (ja 0) (eC (.int 50))) (eC (.int 40)))))) qj)
  (jz (Qa (qR (js dEq (ja 2) (eC (.int 2))))
  (jz ‹"l"›
  (jM 4 (js qL (js qL (ja 3) (eC (.int 1))) (js zr (js qV (js zr (ja 0) (eC (.int 1664525013))) (eC (.int 2147483629))) (js Qu (eC (.int 10)) (eC (.int 5))))))) qj) R))))
    [.sh (.int one),.sh (.int two),.sh (.int 0),.un,.un,.un,.un,.un,.un]=R [.sh (.int one),.sh (.int two),.sh (.int 0),.sh (.int b),.sh (.int e),.un,.un,.un,.un]:=by
  have b6:=qd one (show (0:Int)<6 by decide);have b5:=qd (one/6) (show (0:Int)<5 by decide);refine ⟨one%6-2,one%6-2+1+one/6%5,?_,?_,?_,?_,fun R=>
   ‹"E"›.trans ((j8 ‹"aL"›).trans
   ((j8 (zW (j6 (jj rfl rfl (jd0 (by decide)))))).trans (j8 (zW (j6 (jj rfl rfl (jd0 (by decide))))))))⟩
  all_goals (generalize one%6=u at *;generalize one/6%5=v at *;omega)
 obtain ⟨b,e,h1,h2,h3,h4,hk⟩:=key;obtain ⟨m,hm,em⟩:=jcv (ns:=[2,1,3,5,1000000000000000,1+two/8%50,0,4]) (i:=two%8) (qd two (show (0:Int)<8 by decide)).1 (qd two (show (0:Int)<8 by decide)).2;have m01:0<=m/\m<=1000000000000000:=by
  have:=qd (two/8) (show (0:Int)<50 by decide);simp only [Yl,YE,Kh] at hm;generalize two/8%50=u at *
  clear hk h1 h2 h3 h4 em;rcases hm with rfl | rfl | rfl | rfl | rfl | rfl | rfl | rfl
  . exact ⟨by decide,by decide⟩
  . exact ⟨by decide,by decide⟩
  . exact ⟨by decide,by decide⟩
  . exact ⟨by decide,by decide⟩
  . exact ⟨by decide,by decide⟩
  . omega
  . exact ⟨by decide,by decide⟩
  . exact ⟨by decide,by decide⟩
 clear hm;obtain ⟨m0,m1⟩:=m01;have full0:0<=m*(e-b):=Kx m0 (by omega);obtain ⟨x,hx,hx0⟩:∃x,two*1103515245%2147483647=x/\0<=x:=⟨_,rfl,(qd _ (by decide)).1⟩;obtain ⟨f,hf⟩:∃f,m*(e-b)=f:=⟨_,rfl⟩;rw [hf] at full0;obtain ⟨n,hn,en⟩:=jcv (ns:=[f*(x%17)/16,x%(f+1),if x%9<f then x%9 else f,f]) (i:=x/17%4) ‹"ao"›.1 ‹"ao"›.2;have n01:0<=n/\n<=f:=by
  have a1:=jlg full0 (x:=x%17) (qd x (by decide)).1 (Int.le_of_lt_add_one (qd x (show (0:Int)<17 by decide)).2);have a2:0<=x%(f+1):=yo _ (by omega);have a3:x%(f+1)<f+1:=Y3 _ (by omega);simp only [Yl,YE,Kh] at hn;rcases hn with rfl | rfl | rfl | rfl
  . exact a1
  . omega
  . split <;> omega
  . omega
 clear hn;refine ⟨⟨b,e,n,m⟩,⟨h1,by show e-b<=_;omega,by show _<=b;omega,by show b<=_;omega,m0,m1,n01.1,by show n<=m*(e-b);rw [hf];exact n01.2⟩,⟨h2,h3,h4⟩,?_⟩;unfold zd;refine jaz (ρ:=[.sh (.int one),.sh (.int two),.sh (.int 0),.un,.un,.un,.un,.un,.un]) rfl rfl fun C fin=>?_;unfold JZ;rw [hk];refine jJ [.sh (.int one),.sh (.int two),.sh (.int 0),.sh (.int b),.sh (.int e),.sh (.int m),.un,.un,.un] ‹"aF"› ?_;refine jJ [.sh (.int one),.sh (.int two),.sh (.int 0),.sh (.int b),.sh (.int e),.sh (.int m),.sh (.int x),.un,.un] (hx ▸ jO (jj (jj rfl rfl (Jl (by decide) (by decide))) rfl (jL (by decide)))) ?_;refine jJ [.sh (.int one),.sh (.int two),.sh (.int 0),.sh (.int b),.sh (.int e),.sh (.int m),.sh (.int x),.sh (.int f),.un] (hf ▸ jO (jj rfl (jj rfl rfl ql) (QK (by omega) (by omega)))) ?_;refine jJ [.sh (.int one),.sh (.int two),.sh (.int 0),.sh (.int b),.sh (.int e),.sh (.int m),.sh (.int x),.sh (.int f),.sh (.int n)] (jO (jj ‹"h"› ‹"e"› en)) ?_;exact QT ‹"0"› fin
theorem jgU {m:D->eg->Option eg} {ft:eg->Option Bool} {fe:eg->Option D} {ρ:eg} (g:D->D):∀(ds:List D),(∀d∈ds,∃ρ1,m d ρ=some ρ1/\ft ρ1=some true/\fe ρ1=some (g d))->Z3 m ft fe ρ ds=some (ds.map g)
 | [],_=>rfl
 | d::ds,h=>by obtain ⟨ρ1,h1,h2,h3⟩:=h d Ye;simp only [Z3,h1,h2,h3,Yt,yC,jgU g ds fun x hx=>h x (Yk _ hx),Yx,List.map_cons]
theorem qv {fi:eg->Option (List D)} {m:D->eg->Option eg} {ft:eg->Option Bool} {fe:eg->Option D} {n:Nat} {ix:List Nat} {ρ:eg} {ds es:List D} (h1:fi ρ=some ds) (h2:ds.length<16777216) (h3:Z3 m ft fe (zE n ix ρ) ds=some es):JT fi m ft fe n ix ρ=some es:=by unfold JT;rw [h1,Yt,if_pos (qx h2),h3]
theorem jh7 (bs:List Bool):jiJ [.lst (bs.map D.bl)]=some (.bl (bs.all id)):=by show ((jdx (bs.map D.bl)).map fun ns=>D.bl (ns.all id))=_;rw [Zg];rfl
theorem je3 (bs:List Int):Js [.lst (bs.map D.int)]=some (.int bs.sum):=by show ((QP (bs.map D.int)).map fun ns=>D.int ns.sum)=_;rw [Qb];rfl
theorem jkh {fe:eg->Option D} {ρ:eg} {l:List D} (h:fe ρ=some (.tup l)):jbM fe ρ=some l:=by unfold jbM;rw [h]
theorem qf {fe:eg->Option D} {ρ:eg} {l:List D} (h:fe ρ=some (.lst l)):j7 fe ρ=some l:=by unfold j7;rw [h]
def plain:Nat->D->Prop
 | n+1,.lst l=>∀d∈l,plain n d
 | n+1,.tup l=>∀d∈l,plain n d
 | _,.lst _=>False
 | _,.tup _=>False
 | _,.scr _=>False
 | _,.dic _ _=>False
 | _,_=>True
theorem jh4 {l:List D}:dEq (.lst l) (.lst [])=some (.bl l.isEmpty):=by show (eqF 40 (.lst l) (.lst [])).map D.bl=_;cases l <;> rfl
theorem jhF {α:Type} {f:α->D} {l:List α} {k:Int} {a:α} (h0:0<=k) (h:l[k.toNat]?=some a):jZ (.lst (l.map f)) (.int k)=some (f a):=jee h0 (by rw [List.getElem?_map,h];rfl)
def j9 (p:Int×Int):D:=.tup [.int p.1,.int p.2]
theorem jh3 (k:Int):∀l:List Int,(ins k l).length<=l.length+1
 | []=>by simp [ins]
 | x::l=>by
   have:=jh3 k l;unfold ins;split
   . simp
   . split
     . simp
     . simp;omega
theorem jhI:∀l:List Int,(srt l).length<=l.length
 | []=>by simp [srt]
 | x::l=>by have h1:=jhI l;have h2:=jh3 x (srt l);show (ins x (srt l)).length<=l.length+1;omega
theorem jcC (fl:List Ship):(qH fl).length<=2*fl.length:=by have:=jhI (hrs fl);unfold qH;simp [hrs] at this ⊢;omega
theorem jbe {fl:List Ship} (k:Int) (g:Ship->Int) (hg:∀s,jZ (jt s) (.int k)=some (.int (g s))) (ρ:eg) (i:Nat) (hi:ja i ρ=some ‹"s"›) (hl:fl.length<1000) :
 JT (j7 (ja i)) (jx 0) ‹"k"› (js jZ (ja 0) (eC (.int k))) 1 [] ρ=some ((fl.map g).map D.int):=by
 refine qv (qf hi) (by rw [Yd];omega) ?_;rw [jgU (fun d=>match jZ d (.int k) with | some x=>x | none=>.non) _ fun d hd=>?_]
 . rw [YF,YF];congr 1;refine Kd fun s _=>?_;show (match jZ (jt s) (.int k) with | some x=>x | none=>D.non)=_;rw [hg s];rfl
 . obtain ⟨s,_,rfl⟩:=YO.mp hd;refine ⟨[.sh (jt s)],rfl,rfl,?_⟩;show jZ (jt s) (.int k)=_;rw [hg s]
theorem jfQ (fl:List Ship) (hl:fl.length<20):jcz [.lst (fl.map jt)]=some ((qH fl).map D.int):=by
 suffices main:∀C:Res->Prop,C (.retO ((qH fl).map D.int))->C (jaR [.sh ‹"s"›,.un,.un]) by exact main (fun r=>jdp r=some ((qH fl).map D.int)) rfl
 intro C fin;unfold jaR;refine jJ [.sh ‹"s"›,.sh (.lst ((fl.map (·.b)).map D.int)),.un] (by unfold jM jN;rw [jbe 0 (·.b) (fun s=>JE) _ 0 rfl (by omega)];rfl) ?_
 refine jJ [.sh ‹"s"›,.sh (.lst ((fl.map (·.b)).map D.int)),.sh (.lst ((fl.map (·.e)).map D.int))] (by unfold jM jN;rw [jbe 1 (·.e) (fun s=>JF) _ 0 rfl (by omega)];rfl) ?_
 have last:∀r,r=Res.retO ((qH fl).map D.int)->C r:=fun r h=>by rw [h];exact fin
 refine last _ ?_;have hcat:jdt (.lst ((fl.map (·.b)).map D.int)) (.lst ((fl.map (·.e)).map D.int))=some ((hrs fl).map D.int):=by show (if _ then some _ else none)=_;rw [if_pos (by simp only [Yd];show fl.length+fl.length<=2 ^ 24;omega),<- YT];rfl
 unfold zy jgb;simp (disch:=omega) only [jc,jN,js,ja,List.getElem?_cons_succ,List.getElem?_cons_zero,Yt,jl,Yx];rw [hcat];simp (disch:=omega) only [Yx,Yt];rw [Qb,Yt,if_pos (by simp [hrs];omega)];rfl
theorem jku {l:List D}:L2.jbT l (some 1) none=l.tail:=by
 unfold L2.jbT;rw [HT.sIx_none,show (1:Int)=((1:Nat):Int) from rfl,HT.sIx_nat];cases l with
 | nil=>rfl
 | cons d l=>simp
theorem JJ (fl:List Ship) (hl:fl.length<20):Jh [.lst (fl.map jt)]=some ((jB fl).map j9):=by
 suffices main:∀C:Res->Prop,C (.retO ((jB fl).map j9))->C (J0 [.sh ‹"s"›,.un]) by exact main (fun r=>jdp r=some ((jB fl).map j9)) rfl
 intro C fin;unfold J0;refine jJ [.sh ‹"s"›,.sh (.lst ((qH fl).map D.int))] (by simp (disch:=omega) only [jM,jN,jk,jc,jr,List.getElem?_cons_zero,jl,Yx,Yt,yO,Ki];simp only [jfQ fl hl];simp (disch:=omega) only [Yx]) ?_;have last:∀r,r=Res.retO ((jB fl).map j9)->C r:=fun r h=>by rw [h];exact fin
 refine last _ ?_;have hb:=jcC fl;unfold zy eLZ;simp (disch:=omega) only [jc,ja,List.getElem?_cons_succ,List.getElem?_cons_zero,jN,eSl,pSo,eC,pNo,Yx,jl,Yt];rw [jku];simp only [Yd];rw [qx (by omega)];unfold jac jB;rw [<-List.map_tail,List.zip_map,YF];rfl
theorem JB (fl:List Ship):(qH fl).Pairwise (· < ·):=jaa
theorem mem_bnds {fl:List Ship} {k:Int}:k∈qH fl ↔ k∈hrs fl:=jeN
theorem Q8:∀{l:List Int},l.Pairwise (· < ·)->∀p∈l.zip l.tail,p.1<p.2/\p.1∈l/\p.2∈l
 | [],_,p,hp=>by simp at hp
 | [x],_,p,hp=>by simp at hp
 | x::y::l,h,p,hp=>by
   have h':=YJ.mp h;simp only [Kv,Y9,Yl] at hp;rcases hp with rfl | hp
   . exact ⟨h'.1 y Ye,Ye,Yk _ Ye⟩
   . obtain ⟨a,b,c⟩:=Q8 h'.2 p hp;exact ⟨a,Yk _ b,Yk _ c⟩
theorem Zq {fl:List Ship} {p:Int×Int} (h:p∈jB fl):p.1<p.2/\p.1∈qH fl/\p.2∈qH fl:=Q8 (JB fl) p h
theorem Zz {x:Int} {l:List Int} (h:(x::l).Pairwise (· < ·)):∀y∈x::l,x<=y:=fun y hy=>by
 rcases Yl.mp hy with rfl | hy
 . exact yS _
 . exact Y4 ((YJ.mp h).1 y hy)
def jdV:Int->List Int->Int
 | x,[]=>x
 | _,y::l=>jdV y l
theorem jfG:∀(x:Int) (l:List Int),(x::l).Pairwise (· < ·)->∀y∈x::l,y<=jdV x l
 | x,[],_,y,hy=>by simp at hy;subst hy;exact yS _
 | x,z::l,h,y,hy=>by
   have h':=YJ.mp h;have ih:=jfG z l h'.2;show y<=jdV z l;rcases Yl.mp hy with rfl | hy
   . have:=h'.1 z Ye;have:=ih z Ye;omega
   . exact ih y hy
def inS (h:Int) (p:Int×Int):Bool:=decide (p.1<=h) && decide (h<p.2)
theorem jpQ (h:Int):∀(x:Int) (l:List Int),(x::l).Pairwise (· < ·)->(((x::l).zip l).filter (inS h)).length=if x<=h/\h<jdV x l then 1 else 0
 | x,[],_=>by
   show 0=if x<=h/\h<x then 1 else 0
   rw [if_neg (by omega)]
 | x,y::l,hr=>by
   have h':=YJ.mp hr;have ih:=jpQ h y l h'.2;have xy:=h'.1 y Ye;have yl:=jfG y l h'.2 y Ye;show _=if x<=h/\h<jdV y l then 1 else 0
   generalize jdV y l=z at *
   rw [Y9,yr];by_cases c:x<=h/\h<y
   . have e1:inS h (x,y)=true:=by simp [inS,c.1,c.2]
     have e2:¬(y<=h/\h<z):=by omega
     rw [if_neg e2] at ih;rw [if_pos e1,if_pos ⟨c.1,by omega⟩,YG,ih]
   . have e1:¬inS h (x,y)=true:=by simp [inS];omega
     rw [if_neg e1,ih];by_cases d:y<=h/\h<z
     . rw [if_pos d,if_pos ⟨by omega,d.2⟩]
     . rw [if_neg d,if_neg (by omega)]
theorem jeL (l:List Int):(l.zip l.tail).length=l.length-1:=by simp <;> omega
def nb:List Int->List (Int×Int)
 | x::y::l=>if x<y then (x,y)::nb (y::l) else nb (y::l)
 | _=>[]
theorem Jb {l:List Int} {i:Nat} (h:i<l.length):jZ (.lst (l.map D.int)) (.int i)=some (.int (l.getD i 0)):=by refine jee (by omega) ?_;rw [Ym,List.getElem?_map,Yb h,Ya,Yb h];rfl
def Jg (s:Ship) (p:Int×Int):Int:=if s.b<=p.1/\p.2<=s.e then s.m*(p.2-p.1) else 0
def ji (r:List Int):D:=.lst (r.map D.int)
theorem jdQ (s:Ship):∀(x:Int) (l:List Int),(x::l).Pairwise (· < ·)->(((x::l).zip l).map (Jg s)).sum=s.m*(((((x::l).zip l).filter fun p=>decide (s.b<=p.1/\p.2<=s.e)).map fun p=>p.2-p.1).sum)
 | x,[],_=>by simp
 | x,y::l,h=>by
   have h':=YJ.mp h;have ih:=jdQ s y l h'.2;rw [Y9,List.map_cons,List.sum_cons,ih,yr];by_cases c:s.b<=x/\y<=s.e
   . rw [if_pos (by simpa using c),List.map_cons,List.sum_cons,Int.mul_add];simp [Jg,c]
   . rw [if_neg (by simpa using c)];simp [Jg,c]
theorem jfO (b e:Int):∀(x:Int) (l:List Int),(x::l).Pairwise (· < ·)->b<=x->x<=e->e∈x::l->((((x::l).zip l).filter fun p=>decide (b<=p.1/\p.2<=e)).map fun p=>p.2-p.1).sum=e-x
 | x,[],_,_,_,he=>by simp at he;subst he;simp
 | x,y::l,h,hb,hxe,he=>by
   have h':=YJ.mp h;have hxy:=h'.1 y Ye;rw [Y9,yr];by_cases c:y<=e
   . have he':e∈y::l:=by
       rcases Yl.mp he with z | z
       . omega
       . exact z
     have ih:=jfO b e y l h'.2 (by omega) c he';rw [if_pos (by simp;exact ⟨hb,c⟩),List.map_cons,List.sum_cons,ih];show y-x+(e-y)=e-x;omega
   . have hx:e=x:=by
       rcases Yl.mp he with z | z
       . exact z
       . have:=Zz h'.2 e z;omega
     rw [if_neg (by simp;intro _;omega)];have:(((y::l).zip l).filter fun p=>decide (b<=p.1/\p.2<=e))=[]:=List.filter_eq_nil_iff.mpr fun p hp=>by have q:=Q8 h'.2 p (by simpa using hp);have:=Zz h'.2 p.1 q.2.1;simp;intro _;omega
     rw [this,hx];simp
theorem jig (b e:Int) (hbe:b<=e):∀(l:List Int),l.Pairwise (· < ·)->b∈l->e∈l->(((l.zip l.tail).filter fun p=>decide (b<=p.1/\p.2<=e)).map fun p=>p.2-p.1).sum=e-b
 | [],_,hb,_=>by cases hb
 | x::l,h,hb,he=>by
   by_cases c:b=x
   . subst c;exact jfO b e b l h (yS _) hbe he
   . have hb':b∈l:=by rcases Yl.mp hb with z | z;exact absurd z c;exact z
     have h':=YJ.mp h;have hxb:=h'.1 b hb';have he':e∈l:=by rcases Yl.mp he with z | z;omega;exact z
     have ih:=jig b e hbe l h'.2 hb' he';cases l with
     | nil=>cases hb'
     | cons y l=>rw [Kv,Y9,yr,if_neg (by simp;intro z;omega)];exact ih
theorem jiX {fl:List Ship} {s:Ship} (hs:s∈fl) (hk:s.Ok):((jB fl).map (Jg s)).sum=s.m*(s.e-s.b):=by
 have hb:s.b∈qH fl:=mem_bnds.mpr (Ys _ (yt hs));have he:s.e∈qH fl:=mem_bnds.mpr (YB _ (yt hs));have hr:=JB fl;unfold jB;have e1:=jig s.b s.e (by have:=hk.lt;omega) (qH fl) hr hb he;cases hl:qH fl with
 | nil=>rw [hl] at hb;cases hb
 | cons x l=>rw [hl] at e1 hr;rw [Kv] at e1 ⊢;rw [jdQ s x l hr,e1]
theorem jhG:∀(l:List Int) (i:Nat) (a v:Int),l[i]?=some a->(l.set i v).sum=l.sum-a+v
 | [],_,_,_,h=>by simp at h
 | x::l,0,a,v,h=>by simp at h;subst h;simp;omega
 | x::l,i+1,a,v,h=>by have:=jhG l i a v (by simpa using h);simp only [yO,List.sum_cons,this];omega
structure RowOk (S:List (Int×Int)) (s:Ship) (r:List Int):Prop where
 len:r.length=S.length
 bd:∀(j:Nat) x p,r[j]?=some x->S[j]?=some p->0<=x/\x<=Jg s p
 sum:r.sum=s.n
structure PlanOk (fl:List Ship) (P:List (List Int)):Prop where
 len:P.length=fl.length
 row:∀(i:Nat) r s,P[i]?=some r->fl[i]?=some s->RowOk (jB fl) s r
theorem jk4 {s:Ship} (hs:s.Ok) {p:Int×Int} (h:p.1<p.2):0<=Jg s p:=by
 unfold Jg;split
 . exact Kx hs.m0 (by omega)
 . omega
theorem Zh (p:Int×Int):Qj [j9 p]=some (.int (p.2-p.1)):=by unfold Qj jc5 j9;simp (disch:=omega) only [qQ,YG,yi,Kk,jaW,qE,js,ja,qB,List.map_cons,yP,Ka,yJ,Kf,Km,List.getElem?_cons_zero,eC,Yt,JF,JE,ql,yC]
def qw (P:List (List Int)) (j:Nat):Int:=(P.map fun r=>r.getD j 0).sum
theorem ZX {P:List (List Int)} {j:Nat} (hj:∀r∈P,j<r.length) (hl:P.length<1000):Qt [.lst (P.map ji),.int j]=some (.int (qw P j)):=by
 have lc:JT (j7 (ja 0)) (jx 0) ‹"k"› (js jZ (ja 0) (ja 1)) 1 [1] [.sh ‹"O"›,.sh (.int j)]=some ((P.map fun r=>r.getD j 0).map D.int):=by
  refine qv (qf rfl) (by rw [Yd];omega) ?_;rw [jgU (fun d=>match jZ d (.int j) with | some x=>x | none=>.non) _ fun d hd=>?_]
  . rw [YF,YF];congr 1;refine Kd fun r hr=>?_;show (match jZ (ji r) (.int j) with | some x=>x | none=>D.non)=_;unfold ji;rw [Jb (hj r hr)];rfl
  . obtain ⟨r,hr,rfl⟩:=YO.mp hd;refine ⟨[.sh (ji r),.sh (.int j)],rfl,rfl,?_⟩;show jZ (ji r) (.int j)=_;unfold ji;rw [Jb (hj r hr)]
 unfold Qt jd5;simp (disch:=omega) only [qQ,YG,yi,Kk,Nat.reduceAdd,jaW,qE,jk,jc,jN,qB,List.map_cons,yP,Ka,yJ,Kf,Km,jl,Yx,yC];simp only [lc];simp (disch:=omega) only [Yx,Yt];rw [je3];rfl
/-- the stretch in which an hour lies -/
theorem jgX {fl:List Ship} (hfl:∀s∈fl,s.Ok) {p:Int×Int} (h:p∈jB fl):p.1<p.2/\p.2-p.1<1606938044258990275541962092341162602522202993782792835301376:=by
 obtain ⟨h1,h2,h3⟩:=Zq h;have bd:∀k∈qH fl,-500000000000000<=k/\k<=1000000000000000:=fun k hk=>by
  rcases YL.mp (mem_bnds.mp hk) with z | z
  . obtain ⟨s,hs,rfl⟩:=YO.mp z;have:=(hfl s hs).lo;have:=(hfl s hs).hi;omega
  . obtain ⟨s,hs,rfl⟩:=YO.mp z;have:=(hfl s hs).lo;have:=(hfl s hs).hi;have:=(hfl s hs).lt;have:=(hfl s hs).long;omega
 have:=bd _ h2;have:=bd _ h3;exact ⟨h1,by omega⟩
theorem PlanOk.rows {fl:List Ship} {P:List (List Int)} (hP:PlanOk fl P):∀r∈P,r.length=(jB fl).length:=fun r hr=>by
 obtain ⟨i,hi,e⟩:=yu hr;have g1:P[i]?=some r:=by rw [Yb hi,e]
 have hi':i<fl.length:=by rw [<-hP.len];exact hi
 exact (hP.row i r fl[i] g1 (Yb hi')).len
theorem jjO {l:List D} (i:Nat) (h:i<=l.length):L2.jbT l none (some (i:Int))=l.take i:=by unfold L2.jbT;rw [HT.sIx_none,HT.sIx_nat];simp <;> omega
theorem jlB (ns:List Int) (lo hi:Option Int):∃cs:List Int,L2.jbT (ns.map D.int) lo hi=cs.map D.int/\cs.length<=ns.length:=by unfold L2.jbT;rw [<-List.map_drop,<- List.map_take];exact ⟨_,rfl,by rw [KZ,List.length_drop];omega⟩
theorem jr7 {cs:List Int} (h:cs.length<1000):jdt (.lst (cs.map D.int)) (.lst [.int 0])=some ((cs++[0]).map D.int):=by unfold jdt;rw [YT];exact if_pos (yF (yV (qx (by rw [Yd];simp;omega))))
theorem Qy {i:Nat} {fo:eg->Option (List D)} {ρ:eg} {l:List D} (h:fo ρ=some l):jM i (jN fo) ρ=.next (ρ.set i (.sh (.lst l))):=by unfold jM jN;rw [h];rfl
def jq (f:Nat->Int):Nat->Int
 | 0=>0
 | n+1=>jq f n+f n
theorem jf {f g:Nat->Int}:∀{n:Nat},(∀j,j<n->f j=g j)->jq f n=jq g n
 | 0,_=>rfl
 | n+1,h=>by unfold jq;rw [jf fun j hj=>h j (by omega),h n (by omega)]
theorem qA {f g:Nat->Int}:∀{n:Nat},(∀j,j<n->f j<=g j)->jq f n<=jq g n
 | 0,_=>yS _
 | n+1,h=>by unfold jq;have:=qA (n:=n) fun j hj=>h j (by omega);have:=h n (by omega);omega
theorem qG {f g:Nat->Int}:∀{n:Nat},jq (fun j=>f j+g j) n=jq f n+jq g n
 | 0=>rfl
 | n+1=>by unfold jq;rw [qG];omega
theorem zQ {f g:Nat->Int}:∀{n:Nat},jq (fun j=>f j-g j) n=jq f n-jq g n
 | 0=>rfl
 | n+1=>by unfold jq;rw [zQ];omega
theorem zB {f:Nat->Int} {c:Int}:∀{n:Nat},jq (fun j=>c*f j) n=c*jq f n
 | 0=>by simp [jq]
 | n+1=>by unfold jq;rw [zB,Int.mul_add]
theorem jQ {f:Nat->Int} {n:Nat} (h:∀j,j<n->f j=0):jq f n=0:=by
 rw [jf (g:=fun _=>0) h];induction n with
 | zero=>rfl
 | succ n ih=>unfold jq;rw [ih fun j hj=>h j (by omega)];rfl
theorem Jt {f:Nat->Int} {n:Nat} (h:∀j,j<n->0<=f j):0<=jq f n:=by rw [<-jQ (f:=fun _=>0) (n:=n) fun _ _=>rfl];exact qA h
theorem ZF {f:Nat->Int}:∀{n:Nat},jq f (n+1)=f 0+jq (fun j=>f (j+1)) n
 | 0=>by simp [jq]
 | n+1=>by have:=ZF (f:=f) (n:=n);show jq f (n+1)+f (n+1)=f 0+(jq (fun j=>f (j+1)) n+f (n+1));omega
theorem Qk:∀(l:List Int),l.sum=jq (fun j=>l.getD j 0) l.length
 | []=>rfl
 | x::l=>by rw [List.sum_cons,YG,ZF,Qk l];rfl
theorem Zs {α:Type} (f:α->Int) (d:α):∀(l:List α),(l.map f).sum=jq (fun j=>f (l.getD j d)) l.length
 | []=>rfl
 | x::l=>by rw [List.map_cons,List.sum_cons,YG,ZF,Zs f d l];rfl
theorem jij (pr:Bool->Bool):∀(xs:List Int) (ms:List Bool),xs.length=ms.length->(((xs.zip ms).filter fun q=>pr q.2).map (·.1)).sum=jq (fun j=>if pr (ms.getD j false)=true then xs.getD j 0 else 0) xs.length
 | [],ms,_=>by simp [jq]
 | x::xs,[],h=>by simp at h
 | x::xs,m::ms,h=>by
   have ih:=jij pr xs ms (by simpa using h);rw [Y9,yr,YG,ZF];have e0:(if pr ((m::ms).getD 0 false)=true then (x::xs).getD 0 0 else 0)=if pr m=true then x else 0:=rfl
   have e1:(fun j=>if pr ((m::ms).getD (j+1) false)=true then (x::xs).getD (j+1) 0 else 0)=fun j=>if pr (ms.getD j false)=true then xs.getD j 0 else 0:=rfl
   rw [e0,e1,<- ih];dsimp only;by_cases hm:pr m=true
   . rw [if_pos hm,if_pos hm,List.map_cons,List.sum_cons]
   . rw [if_neg hm,if_neg hm,KS]
theorem jsE {C:Res->Prop} {fi:eg->Option (List D)} {m:D->eg->Option eg} {B F':FS} {ρ:eg} (n:Nat) (P:Nat->eg->Prop) (hi:fi ρ=some (rng 0 n)) (h0:P 0 ρ)
 (hs:∀(j:Nat) ρ,j<n->P j ρ->∃ρ1 ρ2,m (.int (j:Int)) ρ=some ρ1/\B ρ1=.next ρ2/\P (j+1) ρ2) (k:∀ρ',P n ρ'->C (F' ρ')):C (jz (zT fi m B) F' ρ):=by
 refine jnO (rng 0 n) (fun ds ρ=>∃j k:Nat,ds=rng (j:Int) k/\j+k=n/\P j ρ) hi ⟨0,n,rfl,by omega,h0⟩ ?_ ?_
 . rintro d ds ρ ⟨j,k,hd,hjk,hP⟩;cases k with
   | zero=>cases hd
   | succ k=>rw [jgs] at hd;cases hd;obtain ⟨ρ1,ρ2,h1,h2,h3⟩:=hs j ρ (by omega) hP;exact ⟨ρ1,ρ2,h1,h2,j+1,k,rfl,by omega,h3⟩
 . rintro ρ ⟨j,k',hd,hjk,hP⟩;cases k' with
   | zero=>
     have e:j=n:=by omega
     subst e;exact k ρ hP
   | succ k=>rw [jgs] at hd;cases hd
theorem jj5 {α:Type} {C:Res->Prop} {fi:eg->Option (List D)} {m:D->eg->Option eg} {B F':FS} {ρ:eg} (src:α->D) (l:List α) (P:List α->eg->Prop) (hi:fi ρ=some (l.map src)) (h0:P [] ρ)
 (hs:∀(pre:List α) (a:α) (q:List α) ρ,l=pre++a::q->P pre ρ->∃ρ1 ρ2,m (src a) ρ=some ρ1/\B ρ1=.next ρ2/\P (pre++[a]) ρ2) (k:∀ρ',P l ρ'->C (F' ρ')):C (jz (zT fi m B) F' ρ):=by
 refine jnO (l.map src) (fun ds ρ=>∃pre q:List α,ds=q.map src/\l=pre++q/\P pre ρ) hi ⟨[],l,rfl,rfl,h0⟩ ?_ ?_
 . rintro d ds ρ ⟨pre,q,hd,hl,hP⟩;cases q with
   | nil=>cases hd
   | cons a q=>cases hd;obtain ⟨ρ1,ρ2,h1,h2,h3⟩:=hs pre a q ρ hl hP;exact ⟨ρ1,ρ2,h1,h2,pre++[a],q,rfl,by rw [hl];simp,h3⟩
 . rintro ρ ⟨pre,q,hd,hl,hP⟩;cases q with
   | nil=>rw [yK] at hl;subst hl;exact k ρ hP
   | cons a q=>cases hd
theorem zH {α:Type} {m:D->eg->Option eg} {ft:eg->Option Bool} {fe:eg->Option D} {ρ:eg} (src g:α->D):∀(l:List α),(∀a∈l,∃ρ1,m (src a) ρ=some ρ1/\ft ρ1=some true/\fe ρ1=some (g a))->Z3 m ft fe ρ (l.map src)=some (l.map g)
 | [],_=>rfl
 | d::ds,h=>by obtain ⟨ρ1,h1,h2,h3⟩:=h d Ye;simp only [List.map_cons,Z3,h1,h2,h3,Yt,yC,zH src g ds fun x hx=>h x (Yk _ hx),Yx]
theorem jeY {α:Type} {m:D->eg->Option eg} {ft:eg->Option Bool} {fe:eg->Option D} {ρ:eg} (src g:α->D) (p:α->Bool):∀(l:List α),(∀a∈l,∃ρ1,m (src a) ρ=some ρ1/\ft ρ1=some (p a)/\fe ρ1=some (g a))->Z3 m ft fe ρ (l.map src)=some ((l.filter p).map g)
 | [],_=>rfl
 | d::ds,h=>by
   obtain ⟨ρ1,h1,h2,h3⟩:=h d Ye;have ih:=jeY src g p ds fun x hx=>h x (Yk _ hx);cases hp:p d with
   | true=>simp only [List.map_cons,Z3,h1,h2,hp,h3,Yt,yC,ih,Yx,yr]
   | false=>simp only [List.map_cons,Z3,h1,h2,hp,Yt,Y0,ym,ih,yr]
theorem jaq {α β:Type} (f:α->D) (g:β->D) (xs:List α) (ys:List β):jac (xs.map f) (ys.map g)=(xs.zip ys).map fun q=>.tup [f q.1,g q.2]:=by unfold jac;rw [List.zip_map,YF];rfl
theorem sum_ints {l:List Int}:Js [.lst (l.map D.int)]=some (.int l.sum):=je3 l
theorem J3 {a n:Nat} {m:FS} {ds:List D} {ρ:eg} (Pr:D->Prop) (h1:ds.length=a) (h2:qB n ds=ρ) (h:∀C:Res->Prop,(∀d,Pr d->C (.ret d))->C (m ρ)):∃d,Pr d/\qQ a n m ds=some d:=by unfold qQ;rw [if_pos h1,h2];exact h (fun r=>∃d,Pr d/\jaW r=some d) fun d hd=>⟨d,hd,rfl⟩
theorem jeF {a n:Nat} {m:FS} {ds l:List D} {ρ:eg} (h1:ds.length=a) (h2:qB n ds=ρ) (h:∀C:Res->Prop,C (.retO l)->C (m ρ)):Je a n m ds=some l:=by unfold Je;rw [if_pos h1,h2];exact h (fun r=>jdp r=some l) rfl
theorem jaV {fe:eg->Option (List D)} {ρ:eg} {l:List D} (h:fe ρ=some l):zy fe ρ=.retO l:=by unfold zy;rw [h]
theorem jmJ {α:Type} {m:D->eg->Option eg} {ft:eg->Option Bool} {fe:eg->Option D} {ρ:eg} (src g:α->D) (p:α->Bool) (l:List α) (h:∀a∈l,∃ρ1,m (src a) ρ=some ρ1/\ft ρ1=some (p a)/\fe ρ1=some (g a)):Z3 m ft fe ρ (l.map src)=some ((l.filter p).map g):=jeY src g p l h
def spn (fl:List Ship) (j:Nat):Int×Int:=(jB fl).getD j (0,0)
def jeU (fl:List Ship) (j:Nat):Int:=(spn fl j).2-(spn fl j).1
def jI (x:Int):Int:=if x>0 then x else 0
theorem joK (x:Int):(if 0>x then 0 else x)=jI x:=by unfold jI;split <;> split <;> omega
def Sm (s:Ship):Prop:=0<=s.m/\s.m<=1000000000000000
theorem jrz {s:Ship} (h:s.Ok):Sm s:=⟨h.m0,h.m1⟩
theorem J8 {fl:List Ship} {j:Nat} (h:j<(jB fl).length):(jB fl)[j]?=some (spn fl j):=by unfold spn;rw [Ya,Yb h];rfl
theorem jej {fl:List Ship} {j:Nat} (h:j<(jB fl).length):spn fl j∈jB fl:=Yz (J8 h)
theorem jbc {fl:List Ship} (h:fl.length<20):(jB fl).length<40:=by have:=jcC fl;have:=jeL (qH fl);unfold jB;omega
theorem jaf (n:Nat):rng 0 n=(List.range n).map fun j:Nat=>D.int (j:Int):=by unfold rng;refine Kd fun i _=>?_;rw [KS]
def jW (P:List (List Int)) (i s:Nat):Int:=(P.getD i []).getD s 0
def Shape (n m:Nat) (P:List (List Int)):Prop:=P.length=n/\∀r∈P,r.length=m
theorem Shape.row {n m:Nat} {P:List (List Int)} (h:Shape n m P) {i:Nat} (hi:i<n):P[i]?=some (P.getD i [])/\(P.getD i []).length=m:=by
 have hi':i<P.length:=by rw [h.1];exact hi
 have e:P[i]?=some (P.getD i []):=by rw [Ya,Yb hi'];rfl
 exact ⟨e,h.2 _ (Yz e)⟩
theorem Qn {n m:Nat} {P:List (List Int)} (h:Shape n m P) {i:Nat} (hi:i<n):jZ ‹"O"› (.int i)=some (ji (P.getD i [])):=by refine jee (by omega) ?_;rw [Ym,List.getElem?_map,(h.row hi).1];rfl
theorem QL {n m:Nat} {P:List (List Int)} (h:Shape n m P) {i s:Nat} (hi:i<n) (hs:s<m):jZ (ji (P.getD i [])) (.int s)=some (.int (jW P i s)):=by unfold ji;exact Jb (by rw [(h.row hi).2];exact hs)
theorem jaM {α:Type} (src:α->D) (d:α) (l:List α):QN (l.map src)=(List.range l.length).map fun j:Nat=>.tup [.int (j:Int),src (l.getD j d)]:=by
 unfold QN;apply Ks;intro i;rw [List.getElem?_map,List.getElem?_zipIdx,List.getElem?_map,List.getElem?_map];by_cases hi:i<l.length
 . rw [Yb hi,yj hi];simp [Yb hi,Ya]
 . rw [YC (by omega),YC (by simp;omega)];rfl
theorem jip {m:D->eg->Option eg} {B:FS} (g:Nat->D) (n:Nat) (P:Nat->eg->Prop) (R:D->Prop)
 (hs:∀(j:Nat) ρ,j<n->P j ρ->∃ρ1,m (g j) ρ=some ρ1/\((∃ρ2,B ρ1=.next ρ2/\P (j+1) ρ2)\/∃d,B ρ1=.ret d/\R d)):∀(k j:Nat) (ρ:eg),j+k=n->P j ρ->
 (∃ρ',JO m B ((List.range' j k).map g) ρ=.next ρ'/\P n ρ')\/∃d,JO m B ((List.range' j k).map g) ρ=.ret d/\R d
 | 0,j,ρ,hj,hP=>.inl ⟨ρ,rfl,(show j=n by omega) ▸ hP⟩
 | k+1,j,ρ,hj,hP=>by
   obtain ⟨ρ1,h1,h2⟩:=hs j ρ (by omega) hP;rw [List.range'_succ,List.map_cons];rcases h2 with ⟨ρ2,h2,h3⟩ | ⟨d,h2,h3⟩
   . rcases jip g n P R hs k (j+1) ρ2 (by omega) h3 with h | h
     . obtain ⟨ρ',e,p⟩:=h;exact .inl ⟨ρ',by simp only [JO,h1,h2];exact e,p⟩
     . obtain ⟨d,e,p⟩:=h;exact .inr ⟨d,by simp only [JO,h1,h2];exact e,p⟩
   . exact .inr ⟨d,by simp only [JO,h1,h2],h3⟩
theorem jki {fi:eg->Option (List D)} {m:D->eg->Option eg} {B:FS} {ρ:eg} (g:Nat->D) (n:Nat) (P:Nat->eg->Prop) (R:D->Prop) (hi:fi ρ=some ((List.range n).map g)) (h0:P 0 ρ)
 (hs:∀(j:Nat) ρ,j<n->P j ρ->∃ρ1,m (g j) ρ=some ρ1/\((∃ρ2,B ρ1=.next ρ2/\P (j+1) ρ2)\/∃d,B ρ1=.ret d/\R d)) :
 (∃ρ',zT fi m B ρ=.next ρ'/\P n ρ')\/∃d,zT fi m B ρ=.ret d/\R d:=by
 unfold zT;rw [hi,List.range_eq_range'];exact jip g n P R hs n 0 ρ (by omega) h0
theorem jgV {fi:eg->Option (List D)} {m:D->eg->Option eg} {B:FS} {ρ:eg} (g:Nat->D) (n:Nat) (P:Nat->eg->Prop) (hi:fi ρ=some ((List.range n).map g)) (h0:P 0 ρ)
 (hs:∀(j:Nat) ρ,j<n->P j ρ->∃ρ1 ρ2,m (g j) ρ=some ρ1/\B ρ1=.next ρ2/\P (j+1) ρ2):∃ρ',zT fi m B ρ=.next ρ'/\P n ρ':=by
 rcases jki g n P (fun _=>False) hi h0 (fun j ρ hj hP=>let ⟨ρ1,ρ2,h1,h2,h3⟩:=hs j ρ hj hP;⟨ρ1,h1,.inl ⟨ρ2,h2,h3⟩⟩) with h | ⟨d,_,h⟩
 . exact h
 . exact h.elim
theorem jqX {c:eg->Option Bool} {B:FS} (P:Nat->eg->Prop) (R:Res->Prop)
 (hs:∀(k:Nat) ρ,P k ρ->(c ρ=some false/\R (.next ρ))\/‹"aw"›):∀(k:Nat) (ρ:eg),P k ρ->∃n r,wh c B n ρ=some r/\R r:=by
 intro k;induction k using Nat.strongRecOn with
 | _ k ih=>
   intro ρ hP;rcases hs k ρ hP with ⟨h1,h2⟩ | ⟨h1,h2⟩
   . exact ⟨1,_,by unfold wh;rw [h1],h2⟩
   . rcases h2 with ⟨ρ2,k2,e,l,p⟩ | ⟨d,e,r⟩
     . obtain ⟨n,r,e2,hr⟩:=ih k2 l ρ2 p;refine ⟨n+1,r,?_,hr⟩;unfold wh;rw [h1];dsimp only;rw [e];exact e2
     . refine ⟨1,.ret d,?_,r⟩;unfold wh;rw [h1];dsimp only;rw [e]
theorem jcP {c:eg->Option Bool} {B:FS} {ρ:eg} (P:Nat->eg->Prop) (R:Res->Prop) {k:Nat} (h0:P k ρ)
 (hs:∀(k:Nat) ρ,P k ρ->(c ρ=some false/\R (.next ρ))\/‹"aw"›):∃r,JN c B ρ=r/\R r:=by
 obtain ⟨n,r,e,hr⟩:=jqX P R hs k ρ h0;exact ⟨r,jdT e,hr⟩
theorem jn7 {C:Res->Prop} {fi:eg->Option (List D)} {m:D->eg->Option eg} {B F':FS} {ρ:eg} (g:Nat->D) (n:Nat) (P:Nat->eg->Prop) (R:D->Prop) (hi:fi ρ=some ((List.range n).map g)) (h0:P 0 ρ)
 (hs:∀(j:Nat) ρ,j<n->P j ρ->∃ρ1,m (g j) ρ=some ρ1/\((∃ρ2,B ρ1=.next ρ2/\P (j+1) ρ2)\/∃d,B ρ1=.ret d/\R d)) (k1:∀ρ',P n ρ'->C (F' ρ')) (k2:∀d,R d->C (.ret d)):C (jz (zT fi m B) F' ρ):=by
 rcases jki g n P R hi h0 hs with ⟨ρ',e,h⟩ | ⟨d,e,h⟩
 . exact jJ ρ' e (k1 ρ' h)
 . exact jdO e (k2 d h)
theorem Z4 {C:Res->Prop} {fi:eg->Option (List D)} {m:D->eg->Option eg} {B F':FS} {ρ:eg} (g:Nat->D) (n:Nat) (P:Nat->eg->Prop) (hi:fi ρ=some ((List.range n).map g)) (h0:P 0 ρ)
 (hs:∀(j:Nat) ρ,j<n->P j ρ->∃ρ1 ρ2,m (g j) ρ=some ρ1/\B ρ1=.next ρ2/\P (j+1) ρ2) (k:∀ρ',P n ρ'->C (F' ρ')):C (jz (zT fi m B) F' ρ):=
 let ⟨ρ',e,h⟩:=jgV g n P hi h0 hs;jJ ρ' e (k ρ' h)
theorem jhM {C:Res->Prop} {c:eg->Option Bool} {B F':FS} {ρ:eg} (P:Nat->eg->Prop) (N:eg->Prop) {k:Nat} (h0:P k ρ)
 (hs:∀(k:Nat) ρ,P k ρ->(c ρ=some false/\N ρ)\/(c ρ=some true/\∃ρ2 k2,B ρ=.next ρ2/\k2<k/\P k2 ρ2)) (kf:∀ρ',N ρ'->C (F' ρ')):C (jz (JN c B) F' ρ):=by
 obtain ⟨r,e,hr⟩:=jcP (c:=c) (B:=B) P (fun r=>∃ρ',r=.next ρ'/\N ρ') h0 fun k ρ hP=>by
  rcases hs k ρ hP with ⟨a,b⟩ | ⟨a,ρ2,k2,h1,h2,h3⟩
  . exact .inl ⟨a,ρ,rfl,b⟩
  . exact .inr ⟨a,.inl ⟨ρ2,k2,h1,h2,h3⟩⟩
 obtain ⟨ρ',e',hN⟩:=hr;subst e';exact jJ ρ' e (kf ρ' hN)
theorem jj1 {B:FS} {ρ:eg} {k:Nat} {P:Nat->eg->Prop} (h:∀C:Res->Prop,(∀ρ2 k2,k2<k->P k2 ρ2->C (.next ρ2))->C (B ρ)):∃ρ2 k2,B ρ=.next ρ2/\k2<k/\P k2 ρ2:=h (fun r=>∃ρ2 k2,r=.next ρ2/\k2<k/\P k2 ρ2) fun ρ2 k2 hk hP=>⟨ρ2,k2,rfl,hk,hP⟩
section
variable {ρ:eg}
end
def Mv (tm tw:List (List Int)) (off on i:Nat):Prop:=0<jW tw i off/\jW tw i on<jW tm i on
theorem jhp {n m:Nat} {tm tw:List (List Int)} (hr:Shape n m tm) (hp:Shape n m tw) {off on:Nat} (ho:off<m) (hn:on<m) :
 ∃d,((d=.non/\∀i,i<n->¬Mv tm tw off on i)\/∃i:Nat,i<n/\d=.int i/\Mv tm tw off on i)/\QD [.lst (tm.map ji),.lst (tw.map ji),.int off,.int on]=some d:=by
 unfold QD;refine J3 (ρ:=[.sh ‹"d"›,.sh ‹"j"›,.sh (.int off),.sh (.int on),.un,.un]) _ rfl rfl fun C fin=>?_;unfold jen;refine jn7 (fun j:Nat=>.tup [.int (j:Int),ji (tw.getD j [])]) n
  (fun j ρ=>(∃x y,ρ=[.sh ‹"d"›,.sh ‹"j"›,.sh (.int off),.sh (.int on),x,y])/\∀i,i<j->¬Mv tm tw off on i)
  (fun d=>∃i:Nat,i<n/\d=.int i/\Mv tm tw off on i) ?_ ⟨⟨_,_,rfl⟩,fun i hi=>absurd hi (by omega)⟩ ?_ ?_ ?_
 . show some (QN (tw.map ji))=_;rw [jaM ji [],hp.1]
 . rintro j ρ hj ⟨⟨x,y,rfl⟩,hP⟩;refine ⟨[.sh ‹"d"›,.sh ‹"j"›,.sh (.int off),.sh (.int on),.sh (.int j),.sh (ji (tw.getD j []))],rfl,?_⟩;rw [jnY (jgn (j6 (jj (jj rfl rfl (QL hp hj ho)) rfl jb9)) (j6 (jj (jj rfl rfl (QL hp hj hn)) (jj (jj rfl rfl (Qn hr hj)) rfl (QL hr hj hn)) J6)))];by_cases c:0<jW tw j off/\jW tw j on<jW tm j on
   . rw [if_pos (by simp [c.1,c.2])];exact .inr ⟨_,rfl,j,hj,rfl,c⟩
   . rw [if_neg (by simpa using c)];refine .inl ⟨_,rfl,⟨_,_,rfl⟩,fun i hi=>?_⟩;by_cases z:i=j
     . subst z;exact c
     . exact hP i (by omega)
 . rintro ρ' ⟨⟨x,y,rfl⟩,hP⟩;exact fin _ (.inl ⟨rfl,hP⟩)
 . exact fun d h=>fin _ (.inr h)
def kI (ks:List Nat):List Int:=ks.map fun k:Nat=>(k:Int)
theorem jgW (ks:List Nat):(kI ks).length=ks.length:=Yd _
theorem jez:∀{ks:List Nat} {ds:List D} {j s:Nat} {d:D},ks.Nodup->ks[j]?=some s->ds[j]?=some d->qW (kI ks) ds (s:Int)=some d
 | [],_,_,_,_,_,h,_=>by simp at h
 | _::_,[],_,_,_,_,_,h=>by simp at h
 | k::ks,e::ds,0,s,d,_,h1,h2=>by simp at h1 h2;subst h1 h2;show (if (k:Int)=(k:Int) then some e else _)=_;rw [if_pos rfl]
 | k::ks,e::ds,j+1,s,d,nd,h1,h2=>by
   simp at h1 h2;have hn:¬(k:Int)=(s:Int):=fun z=>(yh.mp nd).1 (by
     have:k=s:=by omega
     rw [this];exact Yz h1)
   show (if (k:Int)=(s:Int) then some e else qW (kI ks) ds (s:Int))=_;rw [if_neg hn];exact jez (yh.mp nd).2 h1 h2
theorem jhS:∀{ks:List Nat} {ds:List D} {s:Nat},s∉ks->qW (kI ks) ds (s:Int)=none
 | [],_,_,_=>rfl
 | _::_,[],_,_=>rfl
 | k::ks,e::ds,s,h=>by
   have hn:¬(k:Int)=(s:Int):=fun z=>h (by
     have:k=s:=by omega
     rw [this];exact Ye)
   show (if (k:Int)=(s:Int) then some e else qW (kI ks) ds (s:Int))=_;rw [if_neg hn];exact jhS fun z=>h (Yk _ z)
theorem jhr {ks:List Nat} {ds:List D} (nd:ks.Nodup) (hl:ks.length=ds.length) (s:Nat) (neg:Bool):jah neg (.int s) ‹"G"›=some (.bl (neg != decide (s∈ks))):=by
 show some (D.bl (neg != (qW (kI ks) ds (s:Int)).isSome))=_;by_cases h:s∈ks
 . obtain ⟨j,hj,e⟩:=yu h;rw [jez nd (j:=j) (by rw [Yb hj,e]) (Yb (by omega))];simp [h]
 . rw [jhS h];simp [h]
theorem mem_kI {ks:List Nat} {s:Nat}:(s:Int)∈kI ks ↔ s∈ks:=by unfold kI;rw [YO];exact ⟨fun ⟨k,hk,e⟩=>(show k=s by omega) ▸ hk,fun h=>⟨s,h,rfl⟩⟩
theorem jiy {ks:List Nat} {s:Nat} (h:s∉ks):jd1 (kI ks) (s:Int)=kI (ks++[s]):=by unfold jd1;rw [if_neg fun z=>h (mem_kI.mp z)];unfold kI;rw [YT];rfl
theorem jfd {ks:List Nat} {ds:List D} {s:Nat} {d:D} (h:s∉ks):jif (kI ks) ds (s:Int) d=ds++[d]:=by unfold jif;rw [if_neg fun z=>h (mem_kI.mp z)]
theorem zG:∀(m:Nat) (ks:List Nat),ks.Nodup->(∀s∈ks,s<m)->ks.length<=m
 | 0,ks,_,h=>by
   cases ks with
   | nil=>exact Yn _
   | cons k ks=>exact absurd (h k Ye) (by omega)
 | m+1,ks,nd,h=>by
   by_cases hm:m∈ks
   . have h1:=zG m (ks.erase m) (nd.erase m) fun s hs=>by have h2:=(List.Nodup.mem_erase_iff nd).mp hs;have h3:=h s h2.2;have:=h2.1;omega
     rw [List.length_erase_of_mem hm] at h1;omega
   . have:=zG m ks nd fun s hs=>by have h3:=h s hs;have:s≠m:=fun z=>hm (z ▸ hs);omega
     omega
structure Rch (tm tw:List (List Int)) (n m:Nat) (B:Nat->D->Prop) (ks:List Nat) (ds:List D):Prop where
 len:ks.length=ds.length
 nd:ks.Nodup
 lt:∀s∈ks,s<m
 val:∀(j s:Nat) (d:D),ks[j]?=some s->ds[j]?=some d->B s d\/∃i o j':Nat,j'<j/\ks[j']?=some o/\i<n/\d=.tup [.int i,.int o,.int s]/\Mv tm tw o s i
theorem Rch.snoc {tm tw:List (List Int)} {n m:Nat} {B:Nat->D->Prop} {ks:List Nat} {ds:List D} (h:Rch tm tw n m B ks ds) {s:Nat} {d:D} (hs:s∉ks) (hm:s<m) (hd:B s d\/∃i o:Nat,o∈ks/\i<n/\d=.tup [.int i,.int o,.int s]/\Mv tm tw o s i) :
 Rch tm tw n m B (ks++[s]) (ds++[d]):=by
 refine ⟨by simp [h.len],?_,fun t ht=>?_,fun j t e h1 h2=>?_⟩
 . rw [List.nodup_append];refine ⟨h.nd,by simp,fun a ha b hb z=>?_⟩;rw [Yq.mp hb] at z;exact hs (z ▸ ha)
 . rcases YL.mp ht with q | q
   . exact h.lt t q
   . rw [Yq.mp q];exact hm
 . rcases KP j ks.length with q | q | q
   . rw [Yw q] at h1;rw [Yw (by rw [<-h.len];exact q)] at h2;rcases h.val j t e h1 h2 with r | ⟨i,o,j',r1,r2,r3⟩
     . exact .inl r
     . exact .inr ⟨i,o,j',r1,by rw [Yw (by omega)];exact r2,r3⟩
   . subst q;rw [Yy (Yn _)] at h1;rw [Yy (by rw [h.len];exact Yn _)] at h2;simp at h1;simp [h.len] at h2;subst h1 h2;rcases hd with r | ⟨i,o,r1,r2⟩
     . exact .inl r
     . obtain ⟨j',hj',ej⟩:=yu r1;exact .inr ⟨i,o,j',hj',by rw [Yw hj',Yb hj',ej],r2⟩
   . rw [YC (by simp;omega)] at h1;cases h1
def Clo (tm tw:List (List Int)) (n m:Nat) (ks:List Nat) (o:Nat):Prop:=∀on,on<m->on∈ks\/∀i,i<n->¬Mv tm tw o on i
def nI (ks:List Nat):List D:=ks.map fun k:Nat=>D.int (k:Int)
theorem jqa (ks:List Nat):(kI ks).map D.int=nI ks:=by unfold kI nI;rw [YF];rfl
theorem jrw {ks:List Nat} {j s:Nat} (h:ks[j]?=some s):jZ (.lst (nI ks)) (.int j)=some (.int s):=by refine jee (by omega) ?_;rw [Ym];unfold nI;rw [List.getElem?_map,h];rfl
theorem jg9 {n m:Nat} {tm tw:List (List Int)} (hr:Shape n m tm) (hp:Shape n m tw) {B:Nat->D->Prop} {ks:List Nat} {ds:List D} (R:Rch tm tw n m B ks ds) (hm:m<1000) {off on:Nat} (ho:off∈ks) (hn:on<m) (a:Slot) (t:Slot) (x8:Slot) :
 ∃ρ2,(jz (jM 8 (eIf (qR ‹"at"›) (eC .non) ‹"K"›))
   (Qa (qR (ZL (ja 8)))
   (jz (jbv 3 (jr 7) (jaD (jc (jr 8) (jc (jr 6) (jc (jr 7) jl)))))
   (QE 4 (jr 7))) qj)) [.sh (.lst (tm.map ji)),.sh (.lst (tw.map ji)),a,.od (kI ks) ds,.ow (nI ks),t,.sh (.int off),.sh (.int on),x8]=.next ρ2 /\
   ∃ks' ds' y,ρ2=[.sh ‹"d"›,.sh ‹"j"›,a,.od (kI ks') ds',.ow (nI ks'),t,.sh (.int off),.sh (.int on),y]/\Rch tm tw n m B ks' ds'/\(∃e,ks'=ks++e)/\(on∈ks'\/∀i,i<n->¬Mv tm tw off on i):=by
 have tL:ks.length<1000:=yz (zG m ks R.nd R.lt) hm;have hc:qR ‹"at"› ‹"aG"›=some (false != decide (on∈ks)):=j6 (jj rfl rfl (jhr R.nd R.len on false));by_cases hin:on∈ks
 . have e1:eIf (qR ‹"at"›) (eC .non) ‹"K"› ‹"aG"›=some .non:=by unfold eIf;rw [hc];simp [hin,eC]
   refine ⟨_,(j8 (jO e1)).trans (zW (j6 rfl)),ks,ds,_,rfl,R,⟨[],by simp⟩,.inl hin⟩
 . obtain ⟨d,hd,ed⟩:=jhp hr hp (R.lt off ho) hn;have e1:eIf (qR ‹"at"›) (eC .non) ‹"K"› ‹"aG"›=some d:=by unfold eIf;rw [hc];simp only [hin,y9];exact jw rfl ed
   rcases hd with ⟨rfl,hno⟩ | ⟨i,hi,rfl,hmv⟩
   . exact ⟨_,(j8 (jO e1)).trans (zW (j6 rfl)),ks,ds,_,rfl,R,⟨[],by simp⟩,.inr hno⟩
   . refine ⟨_,(j8 (jO e1)).trans ((jaL (j6 rfl)).trans ((j8 (ρ':=[.sh ‹"d"›,.sh ‹"j"›,a,.od (kI (ks++[on])) (ds++[.tup [.int i,.int off,.int on]]),.ow (nI ks),t,.sh (.int off),.sh (.int on),.sh (.int i)]) ?_).trans ?_)),
       ks++[on],ds++[.tup [.int i,.int off,.int on]],.sh (.int i),rfl,R.snoc hin hn (.inr ⟨i,off,ho,hi,rfl,hmv⟩),⟨[on],rfl⟩,.inl (by simp)⟩
     . show (if zx (kI ks).length=true then Res.next _ else Res.fail)=_;rw [if_pos (qx (by rw [jgW];omega)),jiy hin,jfd hin];rfl
     . show (if zx (nI ks).length=true then Res.next _ else Res.fail)=_;rw [if_pos (qx (by unfold nI;rw [Yd];omega))];have:nI ks++[D.int (on:Int)]=nI (ks++[on]):=by unfold nI;rw [YT];rfl
       rw [this];rfl
theorem jgH {n m:Nat} {tm tw:List (List Int)} (hr:Shape n m tm) (hp:Shape n m tw) (hm:m<1000) {B:Nat->D->Prop} {ks0:List Nat} {ds0:List D} (R0:Rch tm tw n m B ks0 ds0) (hn:ks0≠[]->0<n) :
 ∃d,(∃ks ds,d=.dic (kI ks) ds/\Rch tm tw n m B ks ds/\(∃e,ks=ks0++e)/\∀o∈ks,Clo tm tw n m ks o)/\jb1 [.lst (tm.map ji),.lst (tw.map ji),.dic (kI ks0) ds0]=some d:=by
 have hl0:ks0.length<1000:=yz (zG m ks0 R0.nd R0.lt) hm;unfold jb1;refine J3 (ρ:=[.sh ‹"d"›,.sh ‹"j"›,.sh ‹"aj"›,.un,.un,.un,.un,.un,.un]) _ rfl rfl fun C fin=>?_;unfold jek;refine jJ [.sh ‹"d"›,.sh ‹"j"›,.sh ‹"aj"›,.od (kI ks0) ds0,.un,.un,.un,.un,.un] rfl ?_;refine jJ [.sh ‹"d"›,.sh ‹"j"›,.sh ‹"aj"›,.od (kI ks0) ds0,.ow (nI ks0),.un,.un,.un,.un] ?_ ?_
 . have e:jk jcQ (jc (ja 2) jl) [.sh ‹"d"›,.sh ‹"j"›,.sh ‹"aj"›,.od (kI ks0) ds0,.un,.un,.un,.un,.un]=some (nI ks0):=jw rfl (by show (if zx (kI ks0).length=true then some ((kI ks0).map D.int) else none)=_;rw [if_pos (qx (by rw [jgW];omega)),jqa])
   unfold Jo;rw [e];rfl
 refine jJ [.sh ‹"d"›,.sh ‹"j"›,.sh ‹"aj"›,.od (kI ks0) ds0,.ow (nI ks0),.sh (.int ((0:Nat):Int)),.un,.un,.un] rfl ?_;refine jhM (fun k ρ=>∃(ks:List Nat) (ds:List D) (t:Nat) (x6 x7 x8:Slot),ρ=‹"aS"›/\k=m-t/\t<=ks.length/\Rch tm tw n m B ks ds/\(∃e,ks=ks0++e)/\(ks≠[]->0<n) /\
  ∀(j o:Nat),j<t->ks[j]?=some o->Clo tm tw n m ks o) (fun ρ=>∃(ks:List Nat) (ds:List D) (x4 x5 x6 x7 x8:Slot),ρ=[.sh (.lst (tm.map ji)),.sh (.lst (tw.map ji)),.sh (.dic (kI ks0) ds0),.od (kI ks) ds,x4,x5,x6,x7,x8]/\Rch tm tw n m B ks ds/\(∃e,ks=ks0++e)/\∀o∈ks,Clo tm tw n m ks o)
  (k:=m) ⟨ks0,ds0,0,_,_,_,rfl,rfl,yA _,R0,⟨[],by simp⟩,hn,fun j o h=>absurd h (by omega)⟩ ?_ ?_
 . rintro k ρ ⟨ks,ds,t,x6,x7,x8,rfl,rfl,ht,R,⟨e,he⟩,hn',hcl⟩;have tL:ks.length<=m:=zG m ks R.nd R.lt;have hc:qR (js dLt (ja 5) (jk JP (jc (ja 4) jl))) ‹"aS"›=some (decide ((t:Int)<((nI ks).length:Int))):=j6 (jj rfl (jw rfl rfl) J6);have hnl:(nI ks).length=ks.length:=Yd _;by_cases htl:t<ks.length
   . refine .inr ⟨by rw [hc,hnl];simp [htl],?_⟩;have n0:0<n:=hn' fun z=>by subst z;simp at htl
     have hoff:ks[t]?=some ks[t]:=Yb htl;have hmem:ks[t]∈ks:=K0 htl;refine jj1 fun C2 fin2=>?_;refine jJ [.sh ‹"d"›,.sh ‹"j"›,.sh ‹"aj"›,.od (kI ks) ds,.ow (nI ks),.sh (.int (t:Int)),.sh (.int (ks[t]:Nat)),x7,x8] (jO (jj rfl rfl (jrw hoff))) ?_;refine Z4 (fun j:Nat=>D.int (j:Int)) m (fun j ρ=>∃(ks2:List Nat) (ds2:List D) (y7 y8:Slot),ρ=[.sh ‹"d"›,.sh ‹"j"›,.sh ‹"aj"›,.od (kI ks2) ds2,.ow (nI ks2),.sh (.int (t:Int)),.sh (.int (ks[t]:Nat)),y7,y8]/\Rch tm tw n m B ks2 ds2/\(∃e,ks2=ks++e) /\
       ∀on,on<j->on∈ks2\/∀i,i<n->¬Mv tm tw ks[t] on i) ?_ ⟨ks,ds,_,_,rfl,R,⟨[],by simp⟩,fun on h=>absurd h (by omega)⟩ ?_ ?_
     . rw [Qm (j:=(m:Int)) (jh (jw (jh (jj rfl rfl (Qn hr n0)) rfl) ?_) rfl) (by omega) (by omega),Ym,jaf];show some (D.int ((List.map D.int (tm.getD 0 [])).length:Int))=_;rw [Yd,(hr.row n0).2]
     . rintro j ρ hj ⟨ks2,ds2,y7,y8,rfl,R2,⟨e2,he2⟩,hon⟩;obtain ⟨ρ2,h1,ks3,ds3,y,rfl,R3,⟨e3,he3⟩,h4⟩:=jg9 hr hp R2 hm (off:=ks[t]) (on:=j) (by rw [he2];exact Ys _ hmem) hj (.sh ‹"aj"›) (.sh (.int (t:Int))) y8;refine ⟨_,_,rfl,h1,ks3,ds3,_,_,rfl,R3,⟨e2++e3,by rw [he3,he2,y0]⟩,fun on h=>?_⟩;by_cases z:on=j
       . subst z;exact h4
       . rcases hon on (by omega) with q | q
         . exact .inl (by rw [he3];exact Ys _ q)
         . exact .inr q
     . rintro ρ ⟨ks2,ds2,y7,y8,rfl,R2,⟨e2,he2⟩,hon⟩;refine fin2 _ (m-(t+1)) (by omega) ⟨ks2,ds2,t+1,_,_,_,rfl,rfl,by rw [he2,YD];omega,R2,⟨e++e2,by rw [he2,he,y0]⟩,fun _=>n0,fun j o hj ho=>?_⟩;have up:∀x,x∈ks->x∈ks2:=fun x hx=>by rw [he2];exact Ys _ hx
       have ho':ks[j]?=some o:=by rw [he2,Yw (by omega)] at ho;exact ho
       by_cases z:j=t
       . subst z;rw [hoff] at ho';cases ho';exact hon
       . intro on h;rcases hcl j o (by omega) ho' on h with q | q
         . exact .inl (up _ q)
         . exact .inr q
   . refine .inl ⟨by rw [hc,hnl];simp [htl],ks,ds,_,_,_,_,_,rfl,R,⟨e,he⟩,fun o ho=>?_⟩;obtain ⟨j,hj,ej⟩:=yu ho;exact hcl j o (by omega) (by rw [Yb hj,ej])
 . rintro ρ ⟨ks,ds,x4,x5,x6,x7,x8,rfl,R,he,hcl⟩;exact fin _ ⟨ks,ds,rfl,R,he,hcl⟩
def zi (P:List (List Int)) (i:Nat):Int:=(P.getD i []).sum
theorem zU {n m:Nat} {P:List (List Int)} (h:Shape n m P) {i:Nat} (hi:i<n):zi P i=jq (fun s=>jW P i s) m:=by unfold zi;rw [Qk,(h.row hi).2];rfl
theorem J5 {n m:Nat} {P:List (List Int)} (h:Shape n m P) (s:Nat):qw P s=jq (fun i=>jW P i s) n:=by unfold qw;rw [Zs (fun r:List Int=>r.getD s 0) [],h.1];rfl
def qU (P:List (List Int)) (n:Nat):Int:=jq (zi P) n
theorem JA {f:Nat->Nat->Int} {m:Nat}:∀n,jq (fun i=>jq (fun s=>f i s) m) n=jq (fun s=>jq (fun i=>f i s) n) m
 | 0=>by show (0:Int)=_;rw [jQ];intro j _;rfl
 | n+1=>by show jq _ n+jq (fun s=>f n s) m=_;rw [JA n,<- qG];rfl
def Bp (tu:List Int) (tm tw:List (List Int)) (n:Nat) (s:Nat) (d:D):Prop:=∃i:Nat,i<n/\d=.tup [.int i,.non,.int s]/\zi tw i<tu.getD i 0/\jW tw i s<jW tm i s
theorem jla {n m:Nat} {tu:List Int} {tm tw:List (List Int)} (hr:Shape n m tm) {ks:List Nat} {ds:List D} (R:Rch tm tw n m (Bp tu tm tw n) ks ds) (hm:m<1000) {i s:Nat} (hi:i<n) (hs:s<m) {b:Bool} (hb:b=decide (zi tw i<tu.getD i 0)) (a c x5:Slot) :
 ∃ρ2,(Qa ‹"w"›
   (jbv 3 (jr 7) (jaD (jc (jr 4) (jc (eC .non) (jc (jr 7) jl))))) qj) [a,.sh (.lst (tm.map ji)),c,.od (kI ks) ds,.sh (.int i),x5,.sh (.bl b),.sh (.int s),.sh (.int (jW tw i s))]=.next ρ2 /\
   ∃ks' ds',ρ2=[a,.sh ‹"d"›,c,.od (kI ks') ds',.sh (.int i),x5,.sh (.bl b),.sh (.int s),.sh (.int (jW tw i s))]/\Rch tm tw n m (Bp tu tm tw n) ks' ds'/\(∃e,ks'=ks++e)/\(zi tw i<tu.getD i 0->jW tw i s<jW tm i s->s∈ks'):=by
 have tL:ks.length<1000:=yz (zG m ks R.nd R.lt) hm;rw [jnY (jgn (b:=b) (j6 rfl) (jgn (j6 (jj rfl (jj (jj rfl rfl (Qn hr hi)) rfl (QL hr hi hs)) J6)) (j6 (jj rfl rfl (jhr R.nd R.len s true)))))];by_cases cc:zi tw i<tu.getD i 0/\jW tw i s<jW tm i s/\s∉ks
 . rw [if_pos (by rw [hb,YX cc.1,YX cc.2.1,YY cc.2.2];rfl)];refine ⟨_,?_,ks++[s],ds++[.tup [.int i,.non,.int s]],rfl,R.snoc cc.2.2 hs (.inl ⟨i,hi,rfl,cc.1,cc.2.1⟩),⟨[s],rfl⟩,fun _ _=>by simp⟩;show (if zx (kI ks).length=true then Res.next _ else Res.fail)=_;rw [if_pos (qx (by rw [jgW];omega)),jiy cc.2.2,jfd cc.2.2];rfl
 . rw [if_neg (by rw [hb];simpa using cc)];refine ⟨_,rfl,ks,ds,rfl,R,⟨[],by simp⟩,fun h1 h2=>?_⟩;by_cases z:s∈ks
   . exact z
   . exact absurd ⟨h1,h2,z⟩ cc
theorem jfC {n m:Nat} {tu:List Int} {tm tw:List (List Int)} (hd:tu.length=n) (hr:Shape n m tm) (hp:Shape n m tw) (hm:m<1000) :
 ∃d,(∃ks ds,d=.dic (kI ks) ds/\Rch tm tw n m (Bp tu tm tw n) ks ds/\∀i s,i<n->s<m->zi tw i<tu.getD i 0->jW tw i s<jW tm i s->s∈ks)/\jaU [.lst (tu.map D.int),.lst (tm.map ji),.lst (tw.map ji)]=some d:=by
 unfold jaU;refine J3 (ρ:=[.sh ‹"f"›,.sh ‹"d"›,.sh ‹"j"›,.un,.un,.un,.un,.un,.un]) _ rfl rfl fun C fin=>?_;unfold jci;refine jJ [.sh ‹"f"›,.sh ‹"d"›,.sh ‹"j"›,.od (kI []) [],.un,.un,.un,.un,.un] rfl ?_;refine Z4 (fun j:Nat=>.tup [.int (j:Int),ji (tw.getD j [])]) n (fun j ρ=>∃(ks:List Nat) (ds:List D) (x4 x5 x6 x7 x8:Slot),ρ=[.sh ‹"f"›,.sh ‹"d"›,.sh ‹"j"›,.od (kI ks) ds,x4,x5,x6,x7,x8]/\Rch tm tw n m (Bp tu tm tw n) ks ds /\
  ∀i s,i<j->s<m->zi tw i<tu.getD i 0->jW tw i s<jW tm i s->s∈ks) ?_ ⟨[],[],_,_,_,_,_,rfl,⟨rfl,List.nodup_nil,fun s hs=>absurd hs YE,fun j s d h=>by simp at h⟩,fun i s h=>absurd h (by omega)⟩ ?_ ?_
 . show some (QN (tw.map ji))=_;rw [jaM ji [],hp.1]
 . rintro j ρ hj ⟨ks,ds,x4,x5,x6,x7,x8,rfl,R,hall⟩;have e6:js dLt (jk Js (jc (ja 5) jl)) (js jZ (ja 0) (ja 4)) [.sh ‹"f"›,.sh ‹"d"›,.sh ‹"j"›,.od (kI ks) ds,.sh (.int j),.sh (ji (tw.getD j [])),x6,x7,x8]=some (.bl (decide (zi tw j<tu.getD j 0))):=jj (jw rfl sum_ints) (jj rfl rfl (Jb (by omega))) J6
   obtain ⟨ρ2,h1,ks2,ds2,y7,y8,rfl,R2,⟨e2,he2⟩,hon⟩:=jgV (fi:=J7 (jc (jr 5) jl)) (m:=JS 2 (jV (jx 7) (jV (jx 8) JU))) (B:=Qa ‹"w"›
    (jbv 3 (jr 7) (jaD (jc (jr 4) (jc (eC .non) (jc (jr 7) jl))))) qj) (ρ:=[.sh (.lst (tu.map D.int)),.sh (.lst (tm.map ji)),.sh (.lst (tw.map ji)),.od (kI ks) ds,.sh (.int j),.sh (ji (tw.getD j [])),.sh (.bl (decide (zi tw j<tu.getD j 0))),x7,x8])
    (fun s:Nat=>.tup [.int (s:Int),.int (jW tw j s)]) m (fun s ρ=>∃(ks2:List Nat) (ds2:List D) (y7 y8:Slot),ρ=[.sh ‹"f"›,.sh ‹"d"›,.sh ‹"j"›,.od (kI ks2) ds2,.sh (.int j),.sh (ji (tw.getD j [])),.sh (.bl (decide (zi tw j<tu.getD j 0))),y7,y8]/\Rch tm tw n m (Bp tu tm tw n) ks2 ds2/\(∃e,ks2=ks++e) /\
      ∀s',s'<s->zi tw j<tu.getD j 0->jW tw j s'<jW tm j s'->s'∈ks2)
    (by show some (QN ((tw.getD j []).map D.int))=_;rw [jaM D.int 0,(hp.row hj).2];rfl) ⟨ks,ds,_,_,rfl,R,⟨[],by simp⟩,fun s' h=>absurd h (by omega)⟩ (by
      rintro s ρ hs ⟨ks2,ds2,y7,y8,rfl,R2,⟨e2,he2⟩,hon⟩;obtain ⟨ρ2,h1,ks3,ds3,rfl,R3,⟨e3,he3⟩,h4⟩:=jla hr R2 hm hj hs rfl (.sh ‹"f"›) (.sh ‹"j"›) (.sh (ji (tw.getD j [])));refine ⟨_,_,rfl,h1,ks3,ds3,_,_,rfl,R3,⟨e2++e3,by rw [he3,he2,y0]⟩,fun s' h a b=>?_⟩;by_cases z:s'=s
      . subst z;exact h4 a b
      . rw [he3];exact Ys _ (hon s' (by omega) a b))
   refine ⟨_,_,rfl,(j8 (jO e6)).trans h1,ks2,ds2,_,_,_,_,_,rfl,R2,fun i s h1 h2 h3 h4=>?_⟩;by_cases z:i=j
   . subst z;exact hon s h2 h3 h4
   . rw [he2];exact Ys _ (hall i s (by omega) h2 h3 h4)
 . rintro ρ ⟨ks,ds,x4,x5,x6,x7,x8,rfl,R,hall⟩;exact fin _ ⟨ks,ds,rfl,R,hall⟩
def jso:Option Nat->D
 | some o=>.int (o:Int)
 | none=>.non
def qh (q:Nat×Option Nat×Nat):D:=.tup [.int q.1,jso q.2.1,.int q.2.2]
inductive Path (ks:List Nat) (ds:List D):Nat->List (Nat×Option Nat×Nat)->Prop
 | p {j s i:Nat}:ks[j]?=some s->ds[j]?=some (.tup [.int i,.non,.int s])->Path ks ds j [(i,none,s)]
 | c {j:Nat}:ds[j]?=some .non->Path ks ds j []
 | s {j j' s i o:Nat} {p:List (Nat×Option Nat×Nat)}:Path ks ds j' p->j'<j->ks[j']?=some o->ks[j]?=some s->ds[j]?=some (.tup [.int i,.int o,.int s])->Path ks ds j (p++[(i,some o,s)])
theorem jes {a n:Nat} {m:FS} {ds:List D} {ρ:eg} (Pr:List D->Prop) (h1:ds.length=a) (h2:qB n ds=ρ) (h:∀C:Res->Prop,(∀d,Pr d->C (.retO d))->C (m ρ)):∃d,Pr d/\Je a n m ds=some d:=by unfold Je;rw [if_pos h1,h2];exact h (fun r=>∃d,Pr d/\jdp r=some d) fun d hd=>⟨d,hd,rfl⟩
theorem jfZ {n m:Nat} {tm tw:List (List Int)} {B:Nat->D->Prop} {ks:List Nat} {ds:List D} (R:Rch tm tw n m B ks ds) (hm:m<1000) (hB:∀s d,B s d->d=.non\/∃i:Nat,d=.tup [.int i,.non,.int s]) {j0 s0:Nat} (h0:ks[j0]?=some s0) :
 ∃l,(∃p,Path ks ds j0 p/\l=p.map qh)/\jay [.dic (kI ks) ds,.int s0]=some l:=by
 have tL:ks.length<1000:=yz (zG m ks R.nd R.lt) hm;have at_:∀{j s:Nat},ks[j]?=some s->∃d,ds[j]?=some d/\qW (kI ks) ds (s:Int)=some d:=fun {j s} h=>by
  have hj:j<ds.length:=by rw [<-R.len];exact (Yi.mp h).1
  exact ⟨_,Yb hj,jez R.nd h (Yb hj)⟩
 obtain ⟨d0,hd0,hl0⟩:=at_ h0;unfold jay;refine jes (ρ:=[.sh ‹"G"›,.sh (.int s0),.un,.un]) _ rfl rfl fun C fin=>?_;unfold jc1;refine jJ [.sh ‹"G"›,.sh (.int s0),.ow [],.un] rfl ?_;refine jJ [.sh ‹"G"›,.sh (.int s0),.ow [],.sh d0] (jO (jj rfl rfl hl0)) ?_;refine jhM (fun k ρ=>∃(suf:List ‹"B"›) (d:D),ρ=‹"aP"› /\
  ((∃j s,k=j+1/\ks[j]?=some s/\ds[j]?=some d/\suf.length+j<1000/\∀p,Path ks ds j p->Path ks ds j0 (p++suf))\/(k=0/\d=.non/\Path ks ds j0 suf)))
  (fun ρ=>∃(suf:List ‹"B"›) (d:D),ρ=‹"aP"›/\Path ks ds j0 suf) (k:=j0+1)
  ⟨[],d0,rfl,.inl ⟨j0,s0,rfl,h0,hd0,by simp;have:=(Yi.mp h0).1;omega,fun p hp=>by simpa using hp⟩⟩ ?_ ?_
 . rintro k ρ ⟨suf,d,rfl,h⟩;have app:∀(q:Nat×Option Nat×Nat) (x:D),suf.length<1000->∀y,js jbq (ja 0) (js jZ (ja 3) (eC (.int 1))) [.sh ‹"G"›,.sh (.int s0),.ow ((q::suf).reverse.map qh),.sh (qh q)]=some y->
       jz (QE 2 (jr 3)) (jM 3 (js jbq (ja 0) (js jZ (ja 3) (eC (.int 1))))) [.sh ‹"G"›,.sh (.int s0),.ow (suf.reverse.map qh),.sh (qh q)]=.next [.sh ‹"G"›,.sh (.int s0),.ow ((q::suf).reverse.map qh),.sh y]:=fun q x hl y hy=>by
    refine (j8 (ρ':=[.sh ‹"G"›,.sh (.int s0),.ow ((q::suf).reverse.map qh),.sh (qh q)]) ?_).trans (jO hy);show (if zx (suf.reverse.map qh).length=true then Res.next _ else Res.fail)=_;rw [if_pos (qx (by simp;omega)),List.reverse_cons,YT];rfl
   rcases h with ⟨j,s,rfl,hj,hd,hl,hp⟩ | ⟨rfl,rfl,hp⟩
   . have hcases:d=.non\/(∃i:Nat,d=.tup [.int i,.non,.int s])\/∃i o j':Nat,j'<j/\ks[j']?=some o/\d=.tup [.int i,.int o,.int s]:=by
       rcases R.val j s d hj hd with b | ⟨i,o,j',r1,r2,_,r3,_⟩
       . rcases hB s d b with z | z
         . exact .inl z
         . exact .inr (.inl z)
       . exact .inr (.inr ⟨i,o,j',r1,r2,r3⟩)
     rcases hcases with rfl | ⟨i,rfl⟩ | ⟨i,o,j',r1,r2,rfl⟩
     . exact .inl ⟨j6 rfl,suf,_,rfl,by simpa using hp [] (.c hd)⟩
     . refine .inr ⟨j6 rfl,_,0,app (i,none,s) .non (by omega) .non (jj rfl (jj rfl rfl JF) rfl),by omega,_,_,rfl,.inr ⟨rfl,rfl,hp _ (.p hj hd)⟩⟩
     . obtain ⟨d',hd',hl'⟩:=at_ r2;refine .inr ⟨j6 rfl,_,j' + 1,app (i,some o,s) .non (by omega) d' (jj rfl (jj rfl rfl JF) ?_),by omega,_,_,rfl,.inl ⟨j',o,rfl,r2,hd',by simp;omega,fun p h=>?_⟩⟩
       . show some ((qW (kI ks) ds (o:Int)).getD .non)=_;rw [hl'];rfl
       . have:=hp _ (.s h r1 r2 hj hd);simpa using this
   . exact .inl ⟨j6 rfl,suf,_,rfl,hp⟩
 . rintro ρ ⟨suf,d,rfl,hp⟩;have e:jk jj7 (jc (ja 2) jl) ‹"aP"›=some (suf.map qh):=jw rfl (by show some (suf.reverse.map qh).reverse=_;rw [<-List.map_reverse,List.reverse_reverse])
   rw [jaV e];exact fin _ ⟨suf,hp,rfl⟩
def mD (P:List (List Int)):List (List D):=P.map fun r=>r.map D.int
def jgC (P:List (List Int)) (i s:Nat) (v:Int):List (List Int):=P.set i ((P.getD i []).set s v)
theorem Shape.put {n m:Nat} {P:List (List Int)} (h:Shape n m P) {i:Nat} (hi:i<n) (s:Nat) (v:Int):Shape n m (jgC P i s v):=by
 refine ⟨by unfold jgC;rw [KI];exact h.1,fun r hr=>?_⟩;rcases List.mem_or_eq_of_mem_set hr with q | q
 . exact h.2 r q
 . rw [q,KI];exact (h.row hi).2
theorem jew {n m:Nat} {P:List (List Int)} (h:Shape n m P) {i s:Nat} (hi:i<n) (hs:s<m) (v:Int) (i' s':Nat):jW (jgC P i s v) i' s'=if i'=i/\s'=s then v else jW P i' s':=by
 have hi':i<P.length:=by rw [h.1];exact hi
 have hs':s<(P.getD i []).length:=by rw [(h.row hi).2];exact hs
 unfold jW jgC;by_cases z:i'=i
 . subst z;rw [Ya (l:=P.set _ _),Y2 hi',KY];by_cases y:s'=s
   . subst y;rw [Ya,Y2 hs',KY,if_pos ⟨rfl,rfl⟩]
   . rw [Ya,YM (Ne.symm y),<- Ya,if_neg fun q=>y q.2]
 . rw [Ya (l:=P.set _ _),YM (Ne.symm z),<- Ya,if_neg fun q=>z q.1]
def ind (p:Prop) [Decidable p]:Int:=if p then 1 else 0
theorem zX {p:Prop} [Decidable p] (h:p):ind p=1:=if_pos h
theorem zA {p:Prop} [Decidable p] (h:¬p):ind p=0:=if_neg h
def inc (p:List ‹"B"›) (i s:Nat):Int:=(p.map fun q=>ind (q.1=i/\q.2.2=s)).sum
def dec (p:List ‹"B"›) (i s:Nat):Int:=(p.map fun q=>ind (q.1=i/\q.2.1=some s)).sum
theorem Q9 (p:List ‹"B"›) (q:Nat×Option Nat×Nat) (i s:Nat):inc (p++[q]) i s=inc p i s+ind (q.1=i/\q.2.2=s):=by unfold inc;rw [YT,K4];simp
theorem Zf (p:List ‹"B"›) (q:Nat×Option Nat×Nat) (i s:Nat):dec (p++[q]) i s=dec p i s+ind (q.1=i/\q.2.1=some s):=by unfold dec;rw [YT,K4];simp
theorem jeE {n m:Nat} {Q:List (List Int)} (h:Shape n m Q) {i s:Nat} (hi:i<n) (hs:s<m) {v:Int} {g:Int->Int->Int} {fk fl fv:eg->Option D} {a b c x y z:Slot} (hk:fk [a,b,c,.oo (mD Q),x,y,z]=some (.int i)) (hl:fl [a,b,c,.oo (mD Q),x,y,z]=some (.int s)) (hv:fv [a,b,c,.oo (mD Q),x,y,z]=some (.int v)) :
 jc2 3 fk fl fv g [a,b,c,.oo (mD Q),x,y,z]=.next [a,b,c,.oo (mD (jgC Q i s (g (jW Q i s) v))),x,y,z]:=by
 have e1:(mD Q)[i]?=some ((Q.getD i []).map D.int):=by unfold mD;rw [List.getElem?_map,(h.row hi).1];rfl
 have hs':s<(Q.getD i []).length:=by rw [(h.row hi).2];exact hs
 have e2:((Q.getD i []).map D.int)[s]?=some (.int (jW Q i s)):=by rw [List.getElem?_map];unfold jW;rw [Ya (l:=Q.getD i []),Yb hs'];rfl
 have e0:jfv 3 fk fl fv g [a,b,c,.oo (mD Q),x,y,z]=some [a,b,c,.oo ((mD Q).set i ‹"ac"›),x,y,z]:=by unfold jfv;rw [hk,hl,hv];show (if 0<=(i:Int)/\0<=(s:Int) then (mD Q)[(i:Int).toNat]?.bind fun ds=>(ds[(s:Int).toNat]?.bind asI).map fun y1=>[a,b,c,.oo ((mD Q).set (i:Int).toNat (ds.set (s:Int).toNat (.int (g y1 v)))),x,y,z] else none)=_;rw [if_pos ⟨by omega,by omega⟩,Ym,Ym,e1];show ((((Q.getD i []).map D.int)[s]?).bind asI).map _=_;rw [e2];rfl
 unfold jc2;rw [e0];show Res.next [a,b,c,.oo ((mD Q).set i ‹"ac"›),x,y,z]=_;have e3:(mD Q).set i ‹"ac"›=mD (jgC Q i s (g (jW Q i s) v)):=by unfold mD jgC;rw [List.map_set,List.map_set]
 rw [e3]
theorem jfH {ρ:eg} {m:D->eg->Option eg} {fe:eg->Option (List D)}:∀(P:List (List Int)),(∀r,r∈P->∃ρ1,m (ji r) ρ=some ρ1/\fe ρ1=some (r.map D.int))->jbu m ‹"k"› fe ρ (P.map ji)=some (mD P)
 | [],_=>rfl
 | r::P,h=>by obtain ⟨ρ1,h1,h2⟩:=h r Ye;rw [List.map_cons];simp only [jbu,h1,Yt,yC,h2,jfH P fun x hx=>h x (Yk _ hx),Yx];rfl
theorem jfj {n m:Nat} {tw:List (List Int)} (hp:Shape n m tw) (hn:n<1000) {p:List ‹"B"›} (hw:∀q∈p,q.1<n/\q.2.2<m/\∀o,q.2.1=some o->o<m) (v:Int) :
 ∃d,(∃Q,d=.lst (Q.map ji)/\Shape n m Q/\∀i s,jW Q i s=jW tw i s+v*(inc p i s-dec p i s))/\jap [.lst (tw.map ji),.lst (p.map qh),.int v]=some d:=by
 unfold jap;refine J3 (ρ:=[.sh ‹"j"›,.sh ‹"1"›,.sh (.int v),.un,.un,.un,.un]) _ rfl rfl fun C fin=>?_;unfold jcp;refine jJ [.sh ‹"j"›,.sh ‹"1"›,.sh (.int v),.oo (mD tw),.un,.un,.un] ?_ ?_
 . have e:jkI (j7 (ja 0)) (jx 0) ‹"k"› (jk Zr (jc (ja 0) jl)) 1 [] [.sh ‹"j"›,.sh ‹"1"›,.sh (.int v),.un,.un,.un,.un]=some (mD tw):=by unfold jkI;rw [qf rfl,Yt,if_pos (qx (by rw [Yd,hp.1];omega))];exact jfH tw fun r hr=>⟨_,rfl,rfl⟩
   unfold jb2;rw [e];rfl
 refine jj5 qh p (fun pre ρ=>∃(Q:List (List Int)) (x y z:Slot),ρ=[.sh ‹"j"›,.sh ‹"1"›,.sh (.int v),.oo (mD Q),x,y,z]/\Shape n m Q/\∀i s,jW Q i s=jW tw i s+v*(inc pre i s-dec pre i s)) (qf rfl) ⟨tw,_,_,_,rfl,hp,fun i s=>by show _=_+v*(0-0);omega⟩ ?_ ?_
 . rintro pre q rest ρ hl ⟨Q,x,y,z,rfl,hQ,hat⟩;obtain ⟨q1,q2,q3⟩:=hw q (by rw [hl];simp);obtain ⟨i,off,s⟩:=q;dsimp only at q1 q2 q3;cases off with
   | none=>
     refine ⟨[.sh ‹"j"›,.sh ‹"1"›,.sh (.int v),.oo (mD Q),.sh (.int i),.sh .non,.sh (.int s)],_,rfl,(j8 (zW (j6 rfl))).trans (jeE hQ q1 q2 rfl rfl rfl),_,_,_,_,rfl,hQ.put q1 _ _,fun i' s'=>?_⟩;rw [jew hQ q1 q2,Q9,Zf,hat i' s',hat i s];by_cases c:i'=i/\s'=s
     . obtain ⟨rfl,rfl⟩:=c;rw [if_pos ⟨rfl,rfl⟩];simp only [ind,and_self,yC,reduceCtorEq,and_false,ym];rw [show inc pre i' s' + 1-(dec pre i' s' + 0)=inc pre i' s' - dec pre i' s' + 1 by omega,Int.mul_add];omega
     . rw [if_neg c];have c1:¬(i=i'/\s=s'):=fun z=>c ⟨z.1.symm,z.2.symm⟩;simp only [ind,c1,reduceCtorEq,and_false,ym];rw [show inc pre i' s' + 0-(dec pre i' s' + 0)=inc pre i' s' - dec pre i' s' by omega]
   | some o=>
     have ho:=q3 o rfl;refine ⟨[.sh ‹"j"›,.sh ‹"1"›,.sh (.int v),.oo (mD Q),.sh (.int i),.sh (.int o),.sh (.int s)],_,rfl,(j8 ((jaL (j6 rfl)).trans (jeE hQ q1 ho rfl rfl rfl))).trans (jeE (hQ.put q1 _ _) q1 q2 rfl rfl rfl),_,_,_,_,rfl,(hQ.put q1 _ _).put q1 _ _,fun i' s'=>?_⟩;rw [jew (hQ.put q1 _ _) q1 q2,jew hQ q1 ho,jew hQ q1 ho,Q9,Zf,hat i' s',hat i o,hat i s];generalize hA:inc pre i' s'=A;generalize hB:dec pre i' s'=B;by_cases c:i'=i/\s'=s
     . obtain ⟨rfl,rfl⟩:=c;rw [if_pos ⟨rfl,rfl⟩];by_cases c2:s'=o
       . subst c2;rw [if_pos ⟨rfl,rfl⟩,hA,hB];simp only [ind,and_self,yC];rw [show A+1-(B+1)=A-B by omega];omega
       . have c3:¬(i'=i'/\s'=o):=fun z=>c2 z.2;have c4:¬(i'=i'/\some o=some s'):=fun z=>c2 (Option.some.inj z.2).symm;rw [if_neg c3,hA,hB];rw [zX ⟨rfl,rfl⟩,zA c4];rw [show A+1-(B+0)=A-B+1 by omega,Int.mul_add];omega
     . rw [if_neg c];have c1:¬(i=i'/\s=s'):=fun z=>c ⟨z.1.symm,z.2.symm⟩;by_cases c2:i'=i/\s'=o
       . obtain ⟨rfl,rfl⟩:=c2;rw [if_pos ⟨rfl,rfl⟩,hA,hB];rw [zA c1,zX ⟨rfl,rfl⟩];rw [show A+0-(B+1)=A-B-1 by omega,Int.mul_sub v (A-B) 1];omega
       . have c4:¬(i=i'/\some o=some s'):=fun z=>c2 ⟨z.1.symm,(Option.some.inj z.2).symm⟩;rw [if_neg c2];simp only [ind,c1,c4,ym];rw [show A+0-(B+0)=A-B by omega]
 . rintro ρ ⟨Q,x,y,z,rfl,hQ,hat⟩;have e:jeB 3 (qE (jr 3)) [.sh ‹"j"›,.sh ‹"1"›,.sh (.int v),.oo (mD Q),x,y,z]=.ret (.lst (Q.map ji)):=by show Res.ret (.lst ((mD Q).map D.lst))=_;unfold mD;rw [YF];rfl
   rw [e];exact fin _ ⟨Q,rfl,hQ,hat⟩
theorem jh5 {L:List Int} (h:L≠[]):∃v,v∈L/\(∀a∈L,v<=a)/\jdJ [.lst (L.map D.int)]=some (.int v):=by
 cases e:jfe L with
 | none=>exact absurd (jgc e) h
 | some v=>obtain ⟨h1,h2⟩:=jel e;refine ⟨v,h1,h2,?_⟩;show ((QP (L.map D.int)).bind fun ns=>(jfe ns).map D.int)=_;rw [Qb,Yt,e];rfl
theorem jcU {L:List Int} {x:Int} {fe:eg->Option D} {a b c d e g h k:Slot} (hl:L.length<4000) (hf:fe [a,b,c,d,e,.ow (L.map D.int),g,h,k]=some (.int x)):QE 5 fe [a,b,c,d,e,.ow (L.map D.int),g,h,k]=.next [a,b,c,d,e,.ow ((L++[x]).map D.int),g,h,k]:=by unfold QE;rw [hf];show (if zx (L.map D.int).length=true then Res.next _ else Res.fail)=_;rw [if_pos (qx (by rw [Yd];omega)),YT];rfl
theorem jht {n m:Nat} {tu:List Int} {tm tw:List (List Int)} (hd:tu.length=n) (hr:Shape n m tm) (hp:Shape n m tw) {i0:Nat} {o0:Option Nat} {s0:Nat} {rest:List ‹"B"›}
 (hw:∀q∈(i0,o0,s0)::rest,q.1<n/\q.2.2<m/\∀o,q.2.1=some o->o<m) (tL:rest.length<1000) :
 ∃d,(∃v,d=.int v/\v<=tu.getD i0 0-zi tw i0/\(∀q∈(i0,o0,s0)::rest,v<=jW tm q.1 q.2.2-jW tw q.1 q.2.2/\∀o,q.2.1=some o->v<=jW tw q.1 o) /\
   (0<tu.getD i0 0-zi tw i0->(∀q∈(i0,o0,s0)::rest,0<jW tm q.1 q.2.2-jW tw q.1 q.2.2/\∀o,q.2.1=some o->0<jW tw q.1 o)->0<v)) /\
   Jy [.lst (tu.map D.int),.lst (tm.map ji),.lst (tw.map ji),.lst (((i0,o0,s0)::rest).map qh)]=some d:=by
 have hi0:i0<n:=(hw _ Ye).1;unfold Jy;refine J3 (ρ:=[.sh ‹"f"›,.sh ‹"d"›,.sh ‹"j"›,.sh (.lst (((i0,o0,s0)::rest).map qh)),.un,.un,.un,.un,.un]) _ rfl rfl fun C fin=>?_;unfold QH;generalize hp0:(i0,o0,s0)::rest=p at *
 have e0:jZ ‹"1"› (.int 0)=some (qh (i0,o0,s0)):=by rw [<-hp0];exact jeW
 refine jJ [.sh ‹"f"›,.sh ‹"d"›,.sh ‹"j"›,.sh ‹"1"›,.sh (.int i0),.un,.un,.un,.un] (jO (jj (jj rfl rfl e0) rfl JE)) ?_;have e1:js qX (js jZ (ja 0) (ja 4)) (jk Js (jc (js jZ (ja 2) (ja 4)) jl)) [.sh ‹"f"›,.sh ‹"d"›,.sh ‹"j"›,.sh ‹"1"›,.sh (.int i0),.un,.un,.un,.un]=some (.int (tu.getD i0 0-zi tw i0)):=jj (jj rfl rfl (Jb (by omega))) (jw (jh (jj rfl rfl (Qn hp hi0)) rfl) sum_ints) rfl
 refine jJ [.sh ‹"f"›,.sh ‹"d"›,.sh ‹"j"›,.sh ‹"1"›,.sh (.int i0),.ow ([tu.getD i0 0-zi tw i0].map D.int),.un,.un,.un] ?_ ?_
 . unfold Jo JQ;rw [jh e1 rfl];rfl
 refine jj5 qh p (fun pre ρ=>∃(L:List Int) (x y z:Slot),ρ=[.sh ‹"f"›,.sh ‹"d"›,.sh ‹"j"›,.sh ‹"1"›,.sh (.int i0),.ow (L.map D.int),x,y,z]/\L.length<=1+2*pre.length/\tu.getD i0 0-zi tw i0∈L /\
  (∀q∈pre,jW tm q.1 q.2.2-jW tw q.1 q.2.2∈L/\∀o,q.2.1=some o->jW tw q.1 o∈L) /\
  (0<tu.getD i0 0-zi tw i0->(∀q∈p,0<jW tm q.1 q.2.2-jW tw q.1 q.2.2/\∀o,q.2.1=some o->0<jW tw q.1 o)->∀x∈L,0<x)) (qf rfl)
  ⟨[tu.getD i0 0-zi tw i0],_,_,_,rfl,by simp,by simp,fun q hq=>absurd hq YE,fun h _ x hx=>by rw [Yq.mp hx];exact h⟩ ?_ ?_
 . rintro pre q rest2 ρ hl ⟨L,x,y,z,rfl,hLl,hL0,hL1,hL2⟩;have hqm:q∈p:=by rw [hl];simp
   obtain ⟨q1,q2,q3⟩:=hw q hqm;obtain ⟨i,off,s⟩:=q;dsimp only at q1 q2 q3;have hpl:pre.length<1001:=by
    have:p.length=pre.length+(rest2.length+1):=by rw [hl];simp
    have:p.length=rest.length+1:=by rw [<-hp0];simp
    omega
   cases off with
   | none=>
     refine ⟨[.sh ‹"f"›,.sh ‹"d"›,.sh ‹"j"›,.sh ‹"1"›,.sh (.int i0),.ow (L.map D.int),.sh (.int i),.sh .non,.sh (.int s)],_,rfl,
       (j8 (jcU (x:=jW tm i s-jW tw i s) (by omega) (jj (jj (jj rfl rfl (Qn hr q1)) rfl (QL hr q1 q2)) (jj (jj rfl rfl (Qn hp q1)) rfl (QL hp q1 q2)) rfl))).trans (zW (j6 rfl)),_,_,_,_,rfl,?_,Ys _ hL0,fun q hq=>?_,fun h1 h2 x hx=>?_⟩
     . simp;omega
     . rcases YL.mp hq with hq | hq
       . exact ⟨Ys _ (hL1 q hq).1,fun o ho=>Ys _ ((hL1 q hq).2 o ho)⟩
       . rw [Yq.mp hq];exact ⟨by simp,fun o ho=>by cases ho⟩
     . rcases YL.mp hx with hx | hx
       . exact hL2 h1 h2 x hx
       . rw [Yq.mp hx];exact (h2 _ hqm).1
   | some o=>
     have ho:=q3 o rfl;refine ⟨[.sh ‹"f"›,.sh ‹"d"›,.sh ‹"j"›,.sh ‹"1"›,.sh (.int i0),.ow (L.map D.int),.sh (.int i),.sh (.int o),.sh (.int s)],_,rfl,
       (j8 (jcU (x:=jW tm i s-jW tw i s) (by omega) (jj (jj (jj rfl rfl (Qn hr q1)) rfl (QL hr q1 q2)) (jj (jj rfl rfl (Qn hp q1)) rfl (QL hp q1 q2)) rfl))).trans ((jaL (j6 rfl)).trans (jcU (x:=jW tw i o) (by simp;omega) (jj (jj rfl rfl (Qn hp q1)) rfl (QL hp q1 ho)))),_,_,_,_,rfl,?_,Ys _ (Ys _ hL0),fun q hq=>?_,fun h1 h2 x hx=>?_⟩
     . simp;omega
     . rcases YL.mp hq with hq | hq
       . exact ⟨Ys _ (Ys _ (hL1 q hq).1),fun o ho=>Ys _ (Ys _ ((hL1 q hq).2 o ho))⟩
       . rw [Yq.mp hq];exact ⟨by simp,fun o' ho'=>by cases ho';simp⟩
     . rcases YL.mp hx with hx | hx
       . rcases YL.mp hx with hx | hx
         . exact hL2 h1 h2 x hx
         . rw [Yq.mp hx];exact (h2 _ hqm).1
       . rw [Yq.mp hx];exact (h2 _ hqm).2 o rfl
 . rintro ρ ⟨L,x,y,z,rfl,hLl,hL0,hL1,hL2⟩;obtain ⟨v,hv1,hv2,ev⟩:=jh5 (L:=L) fun z=>by rw [z] at hL0;exact absurd hL0 YE
   rw [QR (jw (jh rfl rfl) ev)];exact fin _ ⟨v,rfl,hv2 _ hL0,fun q hq=>⟨hv2 _ (hL1 q hq).1,fun o ho=>hv2 _ ((hL1 q hq).2 o ho)⟩,fun h1 h2=>hL2 h1 h2 v hv1⟩
theorem jc4 {n a:Nat} (c:Int):jq (fun j=>if a=j then c else 0) n=if a<n then c else 0:=by
 induction n with
 | zero=>simp [jq]
 | succ n ih=>
   show jq _ n+(if a=n then c else 0)=_;rw [ih];by_cases h:a<n
   . rw [if_pos h,if_neg (by omega),if_pos (by omega)];omega
   . by_cases h2:a=n
     . rw [if_neg h,if_pos h2,if_pos (by omega)];omega
     . rw [if_neg h,if_neg h2,if_neg (by omega)];omega
theorem jaT {n a:Nat} (h:a<n) (P:Prop) [Decidable P]:jq (fun i=>ind (a=i/\P)) n=ind P:=by
 rw [jf (g:=fun i=>if a=i then ind P else 0),jc4,if_pos h];intro i _;by_cases z:a=i
 . rw [if_pos z];by_cases q:P
   . rw [zX q,zX ⟨z,q⟩]
   . rw [zA q,zA fun w=>q w.2]
 . rw [if_neg z,zA fun w=>z w.1]
theorem jcf {m b:Nat} (h:b<m) (P:Prop) [Decidable P]:jq (fun s=>ind (P/\b=s)) m=ind P:=by
 rw [jf (g:=fun s=>if b=s then ind P else 0),jc4,if_pos h];intro s _;by_cases z:b=s
 . rw [if_pos z];by_cases q:P
   . rw [zX q,zX ⟨q,z⟩]
   . rw [zA q,zA fun w=>q w.1]
 . rw [if_neg z,zA fun w=>z w.2]
theorem jf1 {p:List ‹"B"›} {i s:Nat} (h:∀q∈p,¬(q.1=i/\q.2.2=s)):inc p i s=0:=by
 induction p with
 | nil=>rfl
 | cons q p ih=>
   have e:inc (q::p) i s=ind (q.1=i/\q.2.2=s)+inc p i s:=by unfold inc;rw [List.map_cons,List.sum_cons]
   rw [e,zA (h q Ye),ih fun x hx=>h x (Yk _ hx)];rfl
theorem Q7 {p:List ‹"B"›} {i s:Nat} (h:∀q∈p,¬(q.1=i/\q.2.1=some s)):dec p i s=0:=by
 induction p with
 | nil=>rfl
 | cons q p ih=>
   have e:dec (q::p) i s=ind (q.1=i/\q.2.1=some s)+dec p i s:=by unfold dec;rw [List.map_cons,List.sum_cons]
   rw [e,zA (h q Ye),ih fun x hx=>h x (Yk _ hx)];rfl
theorem joS (P:Prop) [Decidable P]:0<=ind P/\ind P<=1:=by unfold ind;split <;> omega
theorem Qe {ks:List Nat} (nd:ks.Nodup) {a b s:Nat} (h1:ks[a]?=some s) (h2:ks[b]?=some s):a=b:=by
 obtain ⟨ha,ea⟩:=Yi.mp h1;obtain ⟨hb,eb⟩:=Yi.mp h2;have key:=yR.mp nd;rcases KP a b with q | q | q
 . exact absurd (ea.trans eb.symm) (key a b ha hb q)
 . exact q
 . exact absurd (eb.trans ea.symm) (key b a hb ha q)
structure PathOk (tm tw:List (List Int)) (n m:Nat) (ks:List Nat) (j s:Nat) (p:List (Nat×Option Nat×Nat)) (row:Nat->Int) (col:Nat->Int):Prop where
 ok:∀q∈p,q.1<n/\q.2.2<m/\(∀o,q.2.1=some o->o<m)/\jW tw q.1 q.2.2<jW tm q.1 q.2.2/\∀o,q.2.1=some o->0<jW tw q.1 o
 on:∀q∈p,∃a,a<=j/\ks[a]?=some q.2.2
 off:∀q∈p,∀o,q.2.1=some o->∃a,a<j/\ks[a]?=some o
 len:p.length<=j+1
 inc1:∀i t,0<=inc p i t/\inc p i t<=1
 dec1:∀i t,0<=dec p i t/\dec p i t<=1
 cols:∀t,t<m->jq (fun i=>inc p i t-dec p i t) n=ind (s=t)-col t
 rows:∀i,i<n->jq (fun t=>inc p i t-dec p i t) m=row i
theorem PathOk.step {tm tw:List (List Int)} {n m:Nat} {ks:List Nat} (nd:ks.Nodup) {j j' s i o:Nat} {p:List ‹"B"›} {row col:Nat->Int} (h:PathOk tm tw n m ks j' o p row col) (hj:j'<j) (ho:ks[j']?=some o) (hs:ks[j]?=some s) (hom:o<m) (hsm:s<m) (hi:i<n) (hmv:Mv tm tw o s i) :
 PathOk tm tw n m ks j s (p++[(i,some o,s)]) row col:=by
 refine ⟨fun q hq=>?_,fun q hq=>?_,fun q hq x hx=>?_,?_,fun i' t=>?_,fun i' t=>?_,fun t ht=>?_,fun i' hi'=>?_⟩
 . rcases YL.mp hq with hq | hq
   . exact h.ok q hq
   . rw [Yq.mp hq];exact ⟨hi,hsm,fun x hx=>by cases hx;exact hom,hmv.2,fun x hx=>by cases hx;exact hmv.1⟩
 . rcases YL.mp hq with hq | hq
   . obtain ⟨a,h1,h2⟩:=h.on q hq;exact ⟨a,by omega,h2⟩
   . rw [Yq.mp hq];exact ⟨j,Yn _,hs⟩
 . rcases YL.mp hq with hq | hq
   . obtain ⟨a,h1,h2⟩:=h.off q hq x hx;exact ⟨a,by omega,h2⟩
   . rw [Yq.mp hq] at hx;cases hx;exact ⟨j',hj,ho⟩
 . have:=h.len;simp;omega
 . rw [Q9];have h1:=h.inc1 i' t;by_cases c:i=i'/\s=t
   . have z:inc p i' t=0:=jf1 fun q hq w=>by obtain ⟨a,a1,a2⟩:=h.on q hq;rw [w.2,<- c.2] at a2;have:=Qe nd a2 hs;omega
     rw [z,zX (show (i,some o,s).1=i'/\(i,some o,s).2.2=t from c)];omega
   . rw [zA (show ¬((i,some o,s).1=i'/\(i,some o,s).2.2=t) from c)];omega
 . rw [Zf];have h1:=h.dec1 i' t;by_cases c:i=i'/\some o=some t
   . have z:dec p i' t=0:=Q7 fun q hq w=>by obtain ⟨a,a1,a2⟩:=h.off q hq t w.2;rw [<-Option.some.inj c.2] at a2;have:=Qe nd a2 ho;omega
     rw [z,zX (show (i,some o,s).1=i'/\(i,some o,s).2.1=some t from c)];omega
   . rw [zA (show ¬((i,some o,s).1=i'/\(i,some o,s).2.1=some t) from c)];omega
 . rw [jf (g:=fun i'=>(inc p i' t-dec p i' t)+(ind (i=i'/\s=t)-ind (i=i'/\o=t))),qG,zQ (f:=fun i'=>ind (i=i'/\s=t)) (g:=fun i'=>ind (i=i'/\o=t)),jaT hi,jaT hi,h.cols t ht]
   . omega
   . intro i' _;rw [Q9,Zf];have e1:ind ((i,some o,s).1=i'/\(i,some o,s).2.2=t)=ind (i=i'/\s=t):=rfl;have e2:ind ((i,some o,s).1=i'/\(i,some o,s).2.1=some t)=ind (i=i'/\o=t):=by
       by_cases c:i=i'/\o=t
       . rw [zX c,zX (show (i,some o,s).1=i'/\(i,some o,s).2.1=some t from ⟨c.1,congrArg some c.2⟩)]
       . rw [zA c,zA fun w=>c ⟨w.1,Option.some.inj w.2⟩]
     rw [e1,e2];omega
 . rw [jf (g:=fun t=>(inc p i' t-dec p i' t)+(ind (i=i'/\s=t)-ind (i=i'/\o=t))),qG,zQ (f:=fun t=>ind (i=i'/\s=t)) (g:=fun t=>ind (i=i'/\o=t)),jcf hsm,jcf hom,h.rows i' hi']
   . omega
   . intro t _;rw [Q9,Zf];have e1:ind ((i,some o,s).1=i'/\(i,some o,s).2.2=t)=ind (i=i'/\s=t):=rfl;have e2:ind ((i,some o,s).1=i'/\(i,some o,s).2.1=some t)=ind (i=i'/\o=t):=by
       by_cases c:i=i'/\o=t
       . rw [zX c,zX (show (i,some o,s).1=i'/\(i,some o,s).2.1=some t from ⟨c.1,congrArg some c.2⟩)]
       . rw [zA c,zA fun w=>c ⟨w.1,Option.some.inj w.2⟩]
     rw [e1,e2];omega
theorem jm0 {n m:Nat} {tu:List Int} {tm tw:List (List Int)} {ks:List Nat} {ds:List D} (R:Rch tm tw n m (Bp tu tm tw n) ks ds) {j:Nat} {p:List ‹"B"›} (h:Path ks ds j p) :
 ∀s,ks[j]?=some s->∃i0 s0 rest,p=(i0,none,s0)::rest/\i0<n/\zi tw i0<tu.getD i0 0/\PathOk tm tw n m ks j s p (fun i=>ind (i0=i)) (fun _=>0):=by
 induction h with
 | @p j s i h1 h2=>
   intro s' hs';rw [h1] at hs';cases hs';have hsm:=R.lt s (Yz h1);rcases R.val j s _ h1 h2 with ⟨i',hi,e,b1,b2⟩ | ⟨i',o,j',_,_,_,e,_⟩
   . have:i=i':=by injection e with e;injection e with e;injection e with e;omega
     subst this;refine ⟨i,s,[],rfl,hi,b1,fun q hq=>?_,fun q hq=>?_,fun q hq o ho=>?_,by simp,fun i' t=>?_,fun i' t=>?_,fun t ht=>?_,fun i' hi'=>?_⟩
     . rw [Yq.mp hq];exact ⟨hi,hsm,fun o ho=>(by cases ho),b2,fun o ho=>(by cases ho)⟩
     . rw [Yq.mp hq];exact ⟨j,Yn _,h1⟩
     . rw [Yq.mp hq] at ho;cases ho
     . have e:inc [(i,none,s)] i' t=ind (i=i'/\s=t):=by unfold inc;simp
       rw [e];exact joS _
     . have e:dec [(i,none,s)] i' t=0:=Q7 fun q hq w=>by rw [Yq.mp hq] at w;cases w.2
       rw [e];omega
     . rw [jf (g:=fun i'=>ind (i=i'/\s=t)),jaT hi]
       . omega
       . intro i' _;have e:inc [(i,none,s)] i' t=ind (i=i'/\s=t):=by unfold inc;simp
         have e':dec [(i,none,s)] i' t=0:=Q7 fun q hq w=>by rw [Yq.mp hq] at w;cases w.2
         rw [e,e'];omega
     . rw [jf (g:=fun t=>ind (i=i'/\s=t)),jcf hsm];intro t _;have e:inc [(i,none,s)] i' t=ind (i=i'/\s=t):=by unfold inc;simp
       have e':dec [(i,none,s)] i' t=0:=Q7 fun q hq w=>by rw [Yq.mp hq] at w;cases w.2
       rw [e,e'];omega
   . injection e with e;injection e with _ e;injection e with e;cases e
 | @c j h1=>intro s hs;rcases R.val j s _ hs h1 with ⟨i',hi,e,_⟩ | ⟨i',o,j',_,_,_,e,_⟩ <;> cases e
 | @s j j' s i o p h0 hj ho h1 h2 ih=>
   intro s' hs';rw [h1] at hs';cases hs';obtain ⟨i0,s0,rest,rfl,hi0,hb,ok⟩:=ih o ho;rcases R.val j s _ h1 h2 with ⟨i',hi,e,_⟩ | ⟨i',o',j'',_,_,hi',e,hmv⟩
   . injection e with e;injection e with _ e;injection e with e;cases e
   . have e1:i=i'/\o=o':=by injection e with e;injection e with a e;injection e with b e;injection a with a;injection b with b;exact ⟨by omega,by omega⟩
     obtain ⟨rfl,rfl⟩:=e1;exact ⟨i0,s0,rest++[(i,some o,s)],rfl,hi0,hb,ok.step R.nd hj ho h1 (R.lt o (Yz ho)) (R.lt s (Yz h1)) hi' hmv⟩
structure Feas (n m:Nat) (tu:List Int) (tm:List (List Int)) (tH:List Int) (P:List (List Int)):Prop where
 sh:Shape n m P
 cell:∀i s,i<n->s<m->0<=jW P i s/\jW P i s<=jW tm i s
 row:∀i,i<n->zi P i<=tu.getD i 0
 col:∀s,s<m->qw P s<=tH.getD s 0
theorem jrc {v a b:Int} (ha:0<=a/\a<=1) (hb:0<=b/\b<=1):(v*(a-b)=0)\/(v*(a-b)=v/\a=1)\/(v*(a-b) = -v/\b=1):=by
 have h1:a=0\/a=1:=by omega
 have h2:b=0\/b=1:=by omega
 rcases h1 with rfl | rfl <;> rcases h2 with rfl | rfl
 . left;simp
 . right;right;simp
 . right;left;simp
 . left;simp
theorem jm4 {p:List ‹"B"›} {i s:Nat} (h:inc p i s=1):∃q,q∈p/\q.1=i/\q.2.2=s:=Classical.byContradiction fun c=>by rw [jf1 fun q hq w=>c ⟨q,hq,w⟩] at h;omega
theorem jmm {p:List ‹"B"›} {i s:Nat} (h:dec p i s=1):∃q,q∈p/\q.1=i/\q.2.1=some s:=Classical.byContradiction fun c=>by rw [Q7 fun q hq w=>c ⟨q,hq,w⟩] at h;omega
theorem Feas.turn {n m:Nat} {tu:List Int} {tm:List (List Int)} {tH:List Int} {P Q:List (List Int)} (h:Feas n m tu tm tH P) (hQ:Shape n m Q) {ks:List Nat} {j s:Nat} {p:List ‹"B"›} {i0:Nat} (ok:PathOk tm P n m ks j s p (fun i=>ind (i0=i)) (fun _=>0)) {v:Int} (hi0:i0<n) (hs:s<m)
 (hat:∀i t,jW Q i t=jW P i t+v*(inc p i t-dec p i t)) (v0:0<v) (v1:v<=tu.getD i0 0-zi P i0) (v2:∀q∈p,v<=jW tm q.1 q.2.2-jW P q.1 q.2.2/\∀o,q.2.1=some o->v<=jW P q.1 o) (v3:v<=tH.getD s 0-qw P s) :
 Feas n m tu tm tH Q/\(∀t,t<m->qw P t<=qw Q t)/\qU Q n=qU P n+v:=by
 have hrow:∀i,i<n->zi Q i=zi P i+v*ind (i0=i):=fun i hi=>by rw [zU hQ hi,zU h.sh hi,<- ok.rows i hi,<- zB,<- qG];exact jf fun t _=>hat i t
 have hcol:∀t,t<m->qw Q t=qw P t+v*ind (s=t):=fun t ht=>by have e:=ok.cols t ht;rw [Int.sub_zero] at e;rw [J5 hQ,J5 h.sh,<- e,<- zB,<- qG];exact jf fun i _=>hat i t
 refine ⟨⟨hQ,fun i t hi ht=>?_,fun i hi=>?_,fun t ht=>?_⟩,fun t ht=>?_,?_⟩
 . have h1:=h.cell i t hi ht;rw [hat i t];rcases jrc (v:=v) (ok.inc1 i t) (ok.dec1 i t) with e | ⟨e,e1⟩ | ⟨e,e1⟩
   . rw [e];omega
   . rw [e];obtain ⟨q,hq,rfl,rfl⟩:=jm4 e1;have:=(v2 q hq).1;omega
   . rw [e];obtain ⟨q,hq,rfl,ho⟩:=jmm e1;have:=(v2 q hq).2 t ho;omega
 . rw [hrow i hi];by_cases z:i0=i
   . rw [zX z,<- z];omega
   . rw [zA z];have:=h.row i hi;omega
 . rw [hcol t ht];by_cases z:s=t
   . rw [zX z,<- z];omega
   . rw [zA z];have:=h.col t ht;omega
 . rw [hcol t ht];by_cases z:s=t
   . rw [zX z];omega
   . rw [zA z];omega
 . unfold qU;rw [jf (g:=fun i=>zi P i+v*ind (i0=i)) fun i hi=>hrow i hi,qG,zB];have e:jq (fun i=>ind (i0=i)) n=1:=by
    rw [jf (g:=fun i=>ind (i0=i/\True)),jaT hi0,zX trivial];intro i _;by_cases z:i0=i
    . rw [zX z,zX ⟨z,trivial⟩]
    . rw [zA z,zA fun w=>z w.1]
   rw [e];omega
structure Fill (n m:Nat) (tu:List Int) (tm:List (List Int)) (tH:List Int) (P0 P:List (List Int)) (tE:List Bool):Prop where
 feas:Feas n m tu tm tH P
 mono:∀s,s<m->qw P0 s<=qw P s
 len:tE.length=m
 short:∀i s,i<n->s<m->zi P i<tu.getD i 0->jW P i s<jW tm i s->tE.getD s false=true
 clo:∀s,s<m->tE.getD s false=true->∀t,t<m->∀i,i<n->Mv tm P s t i->tE.getD t false=true
 full:∀s,s<m->tE.getD s false=true->qw P s=tH.getD s 0
theorem jkk {n m:Nat} {P:List (List Int)} (h:Shape n m P):(P.map List.sum).sum=qU P n:=by rw [Zs List.sum [],h.1];rfl
theorem jf7 {n m:Nat} {P:List (List Int)} (h:Shape n m P) {j:Nat} (hj:j<m):∀r∈P,j<r.length:=fun r hr=>by rw [h.2 r hr];exact hj
theorem jmQ {n m:Nat} {P:List (List Int)} (h:Shape n m P) (hn:n<1000) {a b c e f g x y:Slot}:JT (j7 (ja 3)) (jx 0) ‹"k"› (jk Js (jc (ja 0) jl)) 1 [] [a,b,c,.sh ‹"O"›,e,f,g,x,y]=some ((P.map List.sum).map D.int):=by refine qv (qf rfl) (by rw [Yd,h.1];omega) ?_;rw [zH ji (fun r:List Int=>D.int r.sum) P fun r hr=>⟨_,rfl,rfl,jw rfl sum_ints⟩,YF];rfl
theorem jnc {n m:Nat} {P:List (List Int)} {tH:List Int} (h:Shape n m P) (hn:n<1000) (hm:m<1000) (ht:tH.length=m) {ks:List Nat} {ds:List D} (hk:∀s∈ks,s<m) (hl:ks.length<1000) {a b f g x y:Slot} :
 JT (jd4 (jr 4)) (jx 0) (qR (js dLt (jk Qt (jc (jr 1) (jc (jr 0) jl))) (js jZ (ja 2) (ja 0)))) (jr 0) 1 [3,2] [a,b,.sh ‹"H"›,.sh ‹"O"›,.sh ‹"G"›,f,g,x,y] =
  some (nI (ks.filter fun s=>decide (qw P s<tH.getD s 0))):=by
 have e:jd4 (jr 4) [a,b,.sh ‹"H"›,.sh ‹"O"›,.sh ‹"G"›,f,g,x,y]=some (nI ks):=by show some ((kI ks).map D.int)=_;rw [jqa]
 refine qv e (by unfold nI;rw [Yd];omega) ?_;unfold nI;refine jmJ (fun k:Nat=>D.int (k:Int)) (fun k:Nat=>D.int (k:Int)) (fun s=>decide (qw P s<tH.getD s 0)) ks fun s hs=>?_;have hsm:=hk s hs;exact ⟨_,rfl,j6 (jj (jw rfl (ZX (jf7 h hsm) (by rw [h.1];exact hn))) (jj rfl rfl (Jb (by omega))) J6),rfl⟩
theorem jlC {m:Nat} {tH:List Int} (ht:tH.length=m) (hm:m<1000) {ks:List Nat} {ds:List D} (nd:ks.Nodup) (hl:ks.length=ds.length) {a b c f g x y:Slot} :
 JT (QW (jc (jk JP (jc (ja 2) jl)) jl)) (jx 0) ‹"k"› (js (jah false) (ja 0) (ja 1)) 1 [4] [a,b,.sh ‹"H"›,c,.sh ‹"G"›,f,g,x,y]=some (((List.range m).map fun s=>decide (s∈ks)).map D.bl):=by
 refine qv (ds:=(List.range m).map fun j:Nat=>D.int (j:Int)) ?_ (by simp;omega) ?_
 . rw [Qm (j:=(m:Int)) (jh (jw rfl ?_) rfl) (by omega) (by omega),Ym,jaf];show some (D.int ((tH.map D.int).length:Int))=_;rw [Yd,ht]
 . rw [zH (fun j:Nat=>D.int (j:Int)) (fun s=>D.bl (decide (s∈ks))) (List.range m) fun s _=>⟨_,rfl,rfl,jj rfl rfl ?_⟩,YF]
   . rfl
   . rw [jhr nd hl];simp
theorem jhg {s:Nat} {r:List Nat}:jZ (.lst (nI (s::r))) (.int 0)=some (.int s):=jeW
theorem jbA {n m:Nat} {tu:List Int} {tm:List (List Int)} {tH:List Int} {P0:List (List Int)} (hd:tu.length=n) (hr:Shape n m tm) (ht:tH.length=m) (F0:Feas n m tu tm tH P0) (hn:n<1000) (hm:m<1000) :
 ∃d,‹"ar"›/\Zk [.lst (tu.map D.int),.lst (tm.map ji),.lst (tH.map D.int),.lst (P0.map ji)]=some d:=by
 unfold Zk;refine J3 (ρ:=[.sh ‹"f"›,.sh ‹"d"›,.sh ‹"H"›,.sh (.lst (P0.map ji)),.un,.un,.un,.un,.un]) _ rfl rfl fun C fin=>?_;unfold jcM
 suffices key:∃r,JN (qR (eC (.bl true))) _ _=r/\∃d,r=.ret d/\∃P tE,d=.tup [.int (qU P n),.lst (P.map ji),.lst (tE.map D.bl)]/\Fill n m tu tm tH P0 P tE by obtain ⟨r,e,d,rfl,h⟩:=key;rw [e];exact fin d h
 refine jcP (fun k ρ=>∃(P:List (List Int)) (x4 x5 x6 x7 x8:Slot),ρ=‹"aJ"›/\Feas n m tu tm tH P/\(∀s,s<m->qw P0 s<=qw P s)/\k=(jq ‹"q"› n-qU P n).toNat) _ ⟨P0,_,_,_,_,_,rfl,F0,fun s _=>yS _,rfl⟩ ?_;rintro k ρ ⟨P,x4,x5,x6,x7,x8,rfl,F,mono,rfl⟩;refine .inr ⟨rfl,?_⟩;obtain ⟨d1,⟨ks1,ds1,rfl,R1,all1⟩,e1⟩:=jfC hd hr F.sh hm;have hn0:ks1≠[]->0<n:=fun h=>by
  cases ks1 with
  | nil=>exact absurd rfl h
  | cons s ks1=>
    have hl1:=R1.len;cases ds1 with
    | nil=>simp at hl1
    | cons d ds1=>
      rcases R1.val 0 s d rfl rfl with ⟨i,hi,_⟩ | ⟨i,o,j',hj,_⟩
      . omega
      . omega
 obtain ⟨d2,⟨ks,ds,rfl,R,⟨ex,hex⟩,hclo⟩,e2⟩:=jgH hr F.sh hm R1 hn0;have hkl:ks.length<1000:=yz (zG m ks R.nd R.lt) hm
 suffices main:∀C:Res->Prop,(∀ρ2 k2,k2<(jq ‹"q"› n-qU P n).toNat->(∃(P:List (List Int)) (x4 x5 x6 x7 x8:Slot),ρ2=‹"aJ"›/\Feas n m tu tm tH P/\(∀s,s<m->qw P0 s<=qw P s)/\k2=(jq ‹"q"› n-qU P n).toNat)->C (.next ρ2))->
  (∀d,‹"ar"›->C (.ret d))->C _ from
  main (fun r=>(∃ρ2 k2,r=.next ρ2/\k2<(jq ‹"q"› n-qU P n).toNat/\(∃(P:List (List Int)) (x4 x5 x6 x7 x8:Slot),ρ2=‹"aJ"›/\Feas n m tu tm tH P/\(∀s,s<m->qw P0 s<=qw P s)/\k2=(jq ‹"q"› n-qU P n).toNat))\/∃d,r=.ret d/\∃d',Res.ret d=.ret d'/\∃P tE,d'=.tup [.int (qU P n),.lst (P.map ji),.lst (tE.map D.bl)]/\Fill n m tu tm tH P0 P tE)
   (fun ρ2 k2 hk hP=>.inl ⟨ρ2,k2,rfl,hk,hP⟩) fun d h=>.inr ⟨d,rfl,d,rfl,h⟩
 intro C fnx frt;refine jJ [.sh ‹"f"›,.sh ‹"d"›,.sh ‹"H"›,.sh ‹"O"›,.sh ‹"G"›,x5,x6,x7,x8] (jO (jw (jh rfl (jh rfl (jh (jw rfl e1) rfl))) e2)) ?_;generalize hfr:(ks.filter fun s=>decide (qw P s<tH.getD s 0))=fr;refine jJ ‹"aR"› (Qy (by rw [<-hfr];exact jnc F.sh hn hm ht R.lt hkl)) ?_;have ec:qR (js dEq (ja 5) (jN (JQ jl))) ‹"aR"›=some (nI fr).isEmpty:=j6 (jj rfl rfl jh4);cases fr with
 | nil=>
   have hfull:∀s∈ks,¬qw P s<tH.getD s 0:=fun s hs hlt=>by have:s∈ks.filter fun s=>decide (qw P s<tH.getD s 0):=KH.mpr ⟨hs,YX hlt⟩;rw [hfr] at this;exact absurd this YE
   refine jdO (d:=.tup [.int (qU P n),.lst (P.map ji),.lst (((List.range m).map fun s=>decide (s∈ks)).map D.bl)]) ((jaL ec).trans ((j8 (ρ':=[.sh ‹"f"›,.sh ‹"d"›,.sh ‹"H"›,.sh ‹"O"›,.sh ‹"G"›,.sh (.lst (nI [])),.sh (.int (qU P n)),x7,x8]) (jO (jw (jh (qp (jmQ F.sh hn)) rfl) (sum_ints.trans (by rw [jkk F.sh]))))).trans (QR ?_))) ?_
   . unfold jaD;rw [jh rfl (jh rfl (jh (qp (jlC ht hm R.nd R.len)) rfl))];rfl
   . have mk:∀s,s<m->((List.range m).map fun s=>decide (s∈ks)).getD s false=decide (s∈ks):=fun s hs=>by rw [Ya,List.getElem?_map,yj hs];rfl
     refine frt _ ⟨P,(List.range m).map fun s=>decide (s∈ks),rfl,F,mono,by simp,fun i s hi hs h1 h2=>?_,fun s hs hk t htm i hi hmv=>?_,fun s hs hk=>?_⟩
     . rw [mk s hs,YX];rw [hex];exact Ys _ (all1 i s hi hs h1 h2)
     . rw [mk s hs] at hk;rw [mk t htm,YX];rcases hclo s (yV hk) t htm with q | q
       . exact q
       . exact absurd hmv (q i hi)
     . rw [mk s hs] at hk;have h1:=hfull s (yV hk);have h2:=F.col s hs;omega
 | cons s fr=>
   have hsm:s∈ks/\qw P s<tH.getD s 0:=by
    have:s∈ks.filter fun s=>decide (qw P s<tH.getD s 0):=by rw [hfr];exact Ye
    obtain ⟨a,b⟩:=KH.mp this;exact ⟨a,yV b⟩
   obtain ⟨hsk,hslt⟩:=hsm;have hs:=R.lt s hsk;obtain ⟨j,hj,ej⟩:=yu hsk;have hjs:ks[j]?=some s:=by rw [Yb hj,ej]
   obtain ⟨l,⟨p,hp,rfl⟩,e3⟩:=jfZ R hm (fun s d ⟨i,_,e,_⟩=>.inr ⟨i,e⟩) hjs;obtain ⟨i0,s0,rest,rfl,hi0,hb,ok⟩:=jm0 R hp s hjs;have tL:=ok.len;obtain ⟨d4,⟨v,rfl,v1,v2,v3⟩,e4⟩:=jht hd hr F.sh (fun q hq=>⟨(ok.ok q hq).1,(ok.ok q hq).2.1,(ok.ok q hq).2.2.1⟩) (by simp at tL;omega);have v0:0<v:=v3 (by omega) fun q hq=>⟨by have:=(ok.ok q hq).2.2.2.1;omega,(ok.ok q hq).2.2.2.2⟩;refine jJ [.sh ‹"f"›,.sh ‹"d"›,.sh ‹"H"›,.sh ‹"O"›,.sh ‹"G"›,.sh (.lst (nI (s::fr))),x6,x7,x8] (zW ec) ?_;refine jJ [.sh ‹"f"›,.sh ‹"d"›,.sh ‹"H"›,.sh ‹"O"›,.sh ‹"G"›,.sh (.lst (nI (s::fr))),x6,.sh (.lst (((i0,none,s0)::rest).map qh)),x8] (Qy (jw (jh rfl (jh (jj rfl rfl jhg) rfl)) e3)) ?_;refine jJ [.sh ‹"f"›,.sh ‹"d"›,.sh ‹"H"›,.sh ‹"O"›,.sh ‹"G"›,.sh (.lst (nI (s::fr))),x6,.sh (.lst (((i0,none,s0)::rest).map qh)),.sh (.int (tH.getD s 0-qw P s))]
    (jO (jj (jj rfl (jj rfl rfl jhg) (Jb (by omega))) (jw (jh rfl (jh (jj rfl rfl jhg) rfl)) (ZX (jf7 F.sh hs) (by rw [F.sh.1];exact hn))) rfl)) ?_
   have hw:∃w,0<w/\w<=v/\w<=tH.getD s 0-qw P s/\ZW [.int (tH.getD s 0-qw P s),.int v]=some (.int w):=by
    by_cases c:v<tH.getD s 0-qw P s
    . exact ⟨v,v0,yS _,by omega,by show some (D.int (if v<tH.getD s 0-qw P s then v else _))=_;rw [if_pos c]⟩
    . exact ⟨tH.getD s 0-qw P s,by omega,by omega,yS _,by show some (D.int (if v<tH.getD s 0-qw P s then v else _))=_;rw [if_neg c]⟩
   obtain ⟨w,w0,w1,w2,ew⟩:=hw;obtain ⟨d5,⟨Q,rfl,hQ,hat⟩,e5⟩:=jfj F.sh hn (fun q hq=>⟨(ok.ok q hq).1,(ok.ok q hq).2.1,(ok.ok q hq).2.2.1⟩) w;obtain ⟨FQ,mq,tq⟩:=F.turn hQ ok hi0 hs hat w0 (by omega) (fun q hq=>⟨by have:=(v2 q hq).1;omega,fun o ho=>by have:=(v2 q hq).2 o ho;omega⟩) w2;refine QT (jO (jw (jh rfl (jh rfl (jh (jw (jh rfl (jh (jw rfl e4) rfl)) ew) rfl))) e5)) ?_;have hle:qU Q n<=jq ‹"q"› n:=qA fun i hi=>FQ.row i hi;exact fnx _ _ (by omega) ⟨Q,_,_,_,_,_,rfl,FQ,fun t ht=>Int.le_trans (mono t ht) (mq t ht),rfl⟩
def jbk (mk:Nat->Bool) (P:List (List Int)) (m i:Nat):Int:=jq (fun s=>if mk s=true then 0 else jW P i s) m
theorem jdB (mk:Nat->Bool) {n m:Nat} {P:List (List Int)} (h:Shape n m P):qU P n=jq (fun s=>if mk s=true then qw P s else 0) m+jq (fun i=>jbk mk P m i) n:=by
 have e:jq (fun s=>if mk s=true then qw P s else 0) m=jq (fun i=>jq (fun s=>if mk s=true then jW P i s else 0) m) n:=by
  rw [JA];refine jf fun s _=>?_;by_cases c:mk s=true
  . rw [if_pos c,J5 h];exact jf fun i _=>by rw [if_pos c]
  . rw [if_neg c,jQ];intro i _;rw [if_neg c]
 rw [e,<- qG];unfold qU;refine jf fun i hi=>?_;rw [zU h hi];unfold jbk;rw [<-qG];refine jf fun s _=>?_;by_cases c:mk s=true
 . rw [if_pos c,if_pos c];omega
 . rw [if_neg c,if_neg c];omega
def jiR (mk:Nat->Bool) (tu:List Int) (tm:List (List Int)) (tH:List Int) (n m:Nat):Int:=jq (fun s=>if mk s=true then tH.getD s 0 else 0) m+jq (fun i=>tu.getD i 0-jI (tu.getD i 0-jbk mk tm m i)) n
theorem jc7 (mk:Nat->Bool) {n m:Nat} {tu:List Int} {tm:List (List Int)} {tH:List Int} {P:List (List Int)} (F:Feas n m tu tm tH P) {i:Nat} (hi:i<n):jbk mk P m i<=zi P i:=by
 rw [zU F.sh hi];refine qA fun s hs=>?_;have:=(F.cell i s hi hs).1;by_cases c:mk s=true
 . rw [if_pos c];omega
 . rw [if_neg c];omega
theorem jaX (mk:Nat->Bool) {n m:Nat} {tu:List Int} {tm:List (List Int)} {tH:List Int} {P:List (List Int)} (F:Feas n m tu tm tH P) {i:Nat} (hi:i<n):jbk mk P m i<=jbk mk tm m i:=by
 refine qA fun s hs=>?_;have:=(F.cell i s hi hs).2;by_cases c:mk s=true
 . rw [if_pos c,if_pos c];omega
 . rw [if_neg c,if_neg c];omega
theorem jn9 (mk:Nat->Bool) {n m:Nat} {tu:List Int} {tm:List (List Int)} {tH:List Int} {P:List (List Int)} (F:Feas n m tu tm tH P):qU P n<=jiR mk tu tm tH n m:=by
 rw [jdB mk F.sh];unfold jiR;have h1:jq (fun s=>if mk s=true then qw P s else 0) m<=jq (fun s=>if mk s=true then tH.getD s 0 else 0) m:=qA fun s hs=>by
  have:=F.col s hs;by_cases c:mk s=true
  . rw [if_pos c,if_pos c];exact this
  . rw [if_neg c,if_neg c];omega
 have h2:jq (fun i=>jbk mk P m i) n<=jq (fun i=>tu.getD i 0-jI (tu.getD i 0-jbk mk tm m i)) n:=qA fun i hi=>by have a:=jc7 mk F hi;have b:=jaX mk F hi;have c:=F.row i hi;unfold jI;split <;> omega
 omega
theorem jkm {n m:Nat} {tu:List Int} {tm:List (List Int)} {tH:List Int} {P0 P:List (List Int)} {tE:List Bool} (F:Fill n m tu tm tH P0 P tE):qU P n=jiR ‹"I"› tu tm tH n m:=by
 rw [jdB ‹"I"› F.feas.sh];unfold jiR;have h1:jq (fun s=>if tE.getD s false=true then qw P s else 0) m=jq (fun s=>if tE.getD s false=true then tH.getD s 0 else 0) m:=jf fun s hs=>by
  by_cases c:tE.getD s false=true
  . rw [if_pos c,if_pos c];exact F.full s hs c
  . rw [if_neg c,if_neg c]
 have h2:jq (fun i=>jbk ‹"I"› P m i) n=jq (fun i=>tu.getD i 0-jI (tu.getD i 0-jbk ‹"I"› tm m i)) n:=jf fun i hi=>by
  have a:=jc7 ‹"I"› F.feas hi;have b:=jaX ‹"I"› F.feas hi;have c:=F.feas.row i hi;by_cases q:zi P i<tu.getD i 0\/∃s,s<m/\tE.getD s false=true/\0<jW P i s
  . -- all stretches without a mark are full
    have e:jbk ‹"I"› P m i=jbk ‹"I"› tm m i:=jf fun t ht=>by
      by_cases c:tE.getD t false=true
      . rw [if_pos c,if_pos c]
      . rw [if_neg c,if_neg c];have l:=(F.feas.cell i t hi ht).2;by_cases z:jW P i t<jW tm i t
        . exfalso;rcases q with q | ⟨s,hs,hms,hp⟩
          . exact c (F.short i t hi ht q z)
          . exact c (F.clo s hs hms t ht i hi ⟨hp,z⟩)
        . omega
    rw [e];unfold jI;split <;> omega
  . -- all of the need is in them
    have e:jbk ‹"I"› P m i=zi P i:=by
      rw [zU F.feas.sh hi];refine jf fun s hs=>?_;by_cases c:tE.getD s false=true
      . rw [if_pos c];have l:=(F.feas.cell i s hi hs).1;by_cases z:0<jW P i s
        . exact absurd (Or.inr ⟨s,hs,c,z⟩) q
        . omega
      . rw [if_neg c]
    have q1:¬zi P i<tu.getD i 0:=fun z=>q (.inl z);rw [e];unfold jI;split <;> omega
 rw [h1,h2]
theorem jiM {s:Ship} (hs:Sm s) (p:Int×Int):jeM [jt s,j9 p]=some (.int (Jg s p)):=by
 have h1:=hs.1;have h2:=hs.2;have el:=Zh p;unfold jeM jgR Jg;unfold j9 at el ⊢;unfold jt;simp (disch:=omega) only [qQ,YG,yi,Kk,Nat.reduceAdd,jaW,jz,Qa,ZI,qR,js,ja,qB,List.map_cons,yP,Ka,yJ,Kf,Km,List.getElem?_cons_zero,eC,Yt,JE,List.getElem?_cons_succ,jeH,JF,qE,jck,jk,jc,jr,jl,Yx,qj,yC];by_cases c1:s.b<=p.1
 . by_cases c2:p.2<=s.e
   . simp only [c1,c2,Kz,and_self,yC,el];simp (disch:=omega) only [Yt,QK]
   . simp only [c1,c2,Kz,y9,and_false,ym]
 . simp only [c1,y9,false_and,ym]
def Z9 (fl:List Ship) (s:Ship):D:=ji ((jB fl).map (Jg s))
theorem jdi {fl:List Ship} (hs:∀s∈fl,Sm s) (hl:fl.length<20):jag [.lst (fl.map jt)]=some (fl.map (Z9 fl)):=by
 have est:=JJ fl hl;have hsl:=jbc hl
 suffices main:∀C:Res->Prop,C (.retO (fl.map (Z9 fl)))->C (QC [.sh ‹"s"›,.un]) by exact main (fun r=>jdp r=some (fl.map (Z9 fl))) rfl
 intro C fin;unfold QC;refine jJ [.sh ‹"s"›,.sh (.lst ((jB fl).map j9))] (by simp (disch:=omega) only [jM,jN,jk,jc,jr,List.getElem?_cons_zero,jl,Yx,Yt,yO,Ki];simp only [est];simp (disch:=omega) only [Yx]) ?_;have last:∀r,r=Res.retO (fl.map (Z9 fl))->C r:=fun r h=>by rw [h];exact fin
 refine last _ ?_;unfold zy;rw [qv (qf rfl) (by rw [Yd];omega) (zH jt (Z9 fl) fl fun s h=>?_)];refine ⟨[.sh (jt s),.sh (.lst ((jB fl).map j9))],rfl,rfl,?_⟩;unfold jN;rw [qv (qf rfl) (by rw [Yd];omega) (zH j9 (fun p=>.int (Jg s p)) (jB fl) fun p hp=>?_)]
 . unfold Z9 ji;rw [YF];rfl
 . refine ⟨[.sh (j9 p),.sh (jt s)],rfl,rfl,?_⟩;have e:=jiM (hs s h) p;simp (disch:=omega) only [jk,jc,jr,List.getElem?_cons_succ,List.getElem?_cons_zero,jl,Yx,Yt];exact e
theorem jhk {fl:List Ship} (hl:fl.length<20):Qw [.lst (fl.map jt)]=some ((fl.map (·.n)).map D.int):=by have e:Qw [.lst (fl.map jt)]=jdp (Qr [.sh ‹"s"›]):=rfl;rw [e];unfold Qr zy;rw [jbe 2 (·.n) (fun s=>jbo) _ 0 rfl (by omega)];rfl
theorem jec {fl:List Ship} (hl:fl.length<20):Ju [.lst (fl.map jt)]=some (((jB fl).map fun p=>p.2-p.1).map D.int):=by
 have est:=JJ fl hl;have hsl:=jbc hl;have e:Ju [.lst (fl.map jt)]=jdp (Jr [.sh ‹"s"›]):=rfl;rw [e];unfold Jr zy;rw [qv (qf (l:=(jB fl).map j9) (by simp (disch:=omega) only [jN,jk,jc,jr,List.getElem?_cons_zero,jl,Yx,Yt];simp only [est];simp (disch:=omega) only [Yx])) (by rw [Yd];omega) (zH j9 (fun p=>.int (p.2-p.1)) (jB fl) fun p hp=>?_)]
 . rw [YF];rfl
 . refine ⟨[.sh (j9 p)],rfl,rfl,?_⟩;have el:=Zh p;simp (disch:=omega) only [jk,jc,jr,List.getElem?_cons_zero,jl,Yx,Yt];exact el
theorem jc6 {fl:List Ship} (hfl:∀s∈fl,s.Ok) {j:Nat} (h:j<(jB fl).length):0<jeU fl j/\jeU fl j<2000000000000000:=by
 obtain ⟨h1,h2,h3⟩:=Zq (jej h);have bd:∀k∈qH fl,-500000000000000<=k/\k<=1000000000000000:=fun k hk=>by
  rcases YL.mp (mem_bnds.mp hk) with z | z
  . obtain ⟨s,hs,rfl⟩:=YO.mp z;have:=(hfl s hs).lo;have:=(hfl s hs).hi;omega
  . obtain ⟨s,hs,rfl⟩:=YO.mp z;have:=(hfl s hs).lo;have:=(hfl s hs).hi;have:=(hfl s hs).lt;have:=(hfl s hs).long;omega
 have:=bd _ h2;have:=bd _ h3;unfold jeU;omega
def JX (fl:List Ship):List (List Int):=fl.map fun s=>(jB fl).map (Jg s)
def jbJ (fl:List Ship):List Int:=fl.map (·.n)
def QY (n m:Nat):List (List Int):=(List.range n).map fun _=>List.replicate m 0
theorem jft (fl:List Ship):Shape fl.length (jB fl).length (JX fl):=⟨Yd _,fun r hr=>by unfold JX at hr;obtain ⟨s,_,rfl⟩:=YO.mp hr;rw [Yd]⟩
def shp (fl:List Ship) (i:Nat):Ship:=fl.getD i ⟨0,0,0,0⟩
theorem Q6 {fl:List Ship} {i:Nat} (h:i<fl.length):fl[i]?=some (shp fl i):=by unfold shp;rw [Ya,Yb h];rfl
theorem ZE {fl:List Ship} {i:Nat} (h:i<fl.length):shp fl i∈fl:=Yz (Q6 h)
theorem jeJ {fl:List Ship} {i j:Nat} (hi:i<fl.length) (hj:j<(jB fl).length):jW (JX fl) i j=Jg (shp fl i) (spn fl j):=by
 unfold jW JX;have e:(fl.map fun s=>(jB fl).map (Jg s)).getD i []=(jB fl).map (Jg (shp fl i)):=by rw [Ya,List.getElem?_map,Q6 hi];rfl
 rw [e,Ya,List.getElem?_map,J8 hj];rfl
theorem jbW {fl:List Ship} {i:Nat} (hi:i<fl.length):(jbJ fl).getD i 0=(shp fl i).n:=by unfold jbJ;rw [Ya,List.getElem?_map,Q6 hi];rfl
theorem jlT (fl:List Ship):fl.map (Z9 fl)=(JX fl).map ji:=by unfold JX;rw [YF];rfl
theorem jcY (n m:Nat):Shape n m (QY n m):=⟨by unfold QY;simp,fun r hr=>by unfold QY at hr;obtain ⟨s,_,rfl⟩:=YO.mp hr;simp⟩
theorem jeg (n m i s:Nat):jW (QY n m) i s=0:=by
 unfold jW QY;by_cases h:i<n
 . rw [Ya (l:=List.map _ _),List.getElem?_map,yj h,Yx,KY,Ya,List.getElem?_replicate];split <;> rfl
 . rw [Ya (l:=List.map _ _),YC (by simp;omega)];rfl
theorem jiD {n m:Nat} {tu:List Int} {tm:List (List Int)} {tH:List Int} (h1:∀i s,i<n->s<m->0<=jW tm i s) (h2:∀i,i<n->0<=tu.getD i 0) (h3:∀s,s<m->0<=tH.getD s 0):Feas n m tu tm tH (QY n m):=by
 refine ⟨jcY n m,fun i s hi hs=>?_,fun i hi=>?_,fun s hs=>?_⟩
 . rw [jeg];exact ⟨yS _,h1 i s hi hs⟩
 . rw [zU (jcY n m) hi,jQ fun s _=>jeg n m i s];exact h2 i hi
 . rw [J5 (jcY n m),jQ fun i _=>jeg n m i s];exact h3 s hs
theorem jfV (x:D):∀m,(List.replicate m [x]).flatten=List.replicate m x
 | 0=>rfl
 | m+1=>by rw [Y1,Kr,jfV x m,Y1];rfl
theorem jdj {n m:Nat} {tm:List (List Int)} (hr:Shape n m tm) (hn:n<1000) (hm:m<1000):J2 [.lst (tm.map ji)]=some ((QY n m).map ji):=by
 unfold J2;refine jeF (ρ:=[.sh ‹"d"›]) rfl rfl fun C fin=>?_;unfold Q3;refine QT (jaV (l:=(QY n m).map ji) ?_) fin;refine qv (qf rfl) (by rw [Yd,hr.1];omega) ?_;have e:(QY n m).map ji=tm.map fun _=>ji (List.replicate m 0):=by
  unfold QY;rw [YF];apply Ks;intro i;rw [List.getElem?_map,List.getElem?_map];by_cases h:i<n
  . rw [yj h,Yb (by rw [hr.1];exact h)];rfl
  . rw [YC (by simp;omega),YC (by rw [hr.1];omega)];rfl
 rw [e];refine zH ji (fun _=>ji (List.replicate m 0)) tm fun r hr'=>⟨[.sh (ji r)],rfl,rfl,qp (jj rfl (jw rfl (show JP [ji r]=some (.int (m:Int)) from ?_)) ?_)⟩
 . show some (D.int ((r.map D.int).length:Int))=_;rw [Yd,hr.2 r hr']
 . show (if 0<=(m:Int)/\([D.int 0]:List D).length*(m:Int).toNat<=sizeLine/\(m:Int)<2 ^ 63 then some (List.replicate (m:Int).toNat [D.int 0]).flatten else none)=_;rw [if_pos ⟨by omega,by rw [KO];simp;omega,by omega⟩,Ym];congr 1;rw [List.map_replicate];exact jfV _ _
def qC (mk:Nat->Bool) (m:Nat):List Nat:=(List.range m).filter fun j=>mk j
theorem jcN (mk:Nat->Bool) (m:Nat):qC mk (m+1)=qC mk m++if mk m=true then [m] else []:=by unfold qC;rw [List.range_succ,List.filter_append];cases h:mk m <;> simp [h]
theorem jbZ (mk:Nat->Bool) (f:Nat->Int):∀m,jq (fun j=>f ((qC mk m).getD j 0)) (qC mk m).length=jq (fun j=>if mk j=true then f j else 0) m
 | 0=>rfl
 | m+1=>by
   show _=jq _ m+(if mk m=true then f m else 0);rw [<-jbZ mk f m,jcN];have key:jq (fun j=>f ((qC mk m++if mk m=true then [m] else []).getD j 0)) (qC mk m).length=jq (fun j=>f ((qC mk m).getD j 0)) (qC mk m).length:=jf fun j hj=>by rw [Ya,Yw hj,<- Ya]
   cases h:mk m with
   | false=>rw [h] at key;rw [if_neg Yf,if_neg Yf,yK,KC]
   | true=>rw [h,if_pos rfl] at key;rw [if_pos rfl,if_pos rfl,YD];show jq _ (qC mk m).length+f _=_;rw [key,Ya,Yy (Yn _),Ka];rfl
def Jm (mk:Nat->Bool) (j:Nat):Nat:=(qC mk j).length
theorem Zy (mk:Nat->Bool) {m j:Nat} (hj:j<m) (h:mk j=true):Jm mk j<(qC mk m).length/\(qC mk m).getD (Jm mk j) 0=j:=by
 have key:∀m,j<m->∃t,qC mk m=qC mk j++j::t:=by
  intro m;induction m with
  | zero=>intro h;omega
  | succ m ih=>
    intro hjm;rw [jcN];by_cases z:j=m
    . subst z;exact ⟨[],by rw [if_pos h]⟩
    . obtain ⟨t,ht⟩:=ih (by omega);exact ⟨t++if mk m=true then [m] else [],by rw [ht];simp⟩
 obtain ⟨t,ht⟩:=key m hj;unfold Jm;rw [ht];refine ⟨by simp,?_⟩;rw [Ya,Yy (Yn _),Ka];rfl
theorem jmV {mk:Nat->Bool} {m i:Nat} (h:i<(qC mk m).length):(qC mk m).getD i 0<m/\mk ((qC mk m).getD i 0)=true:=by
 have e:(qC mk m)[i]?=some ((qC mk m).getD i 0):=by rw [Ya,Yb h];rfl
 have:=Yz e;unfold qC at this;obtain ⟨a,b⟩:=KH.mp this;exact ⟨List.mem_range.mp a,b⟩
def keep (mk:Nat->Bool) (x:List Int):List Int:=(qC mk x.length).map fun j=>x.getD j 0
theorem jia {mk:Nat->Bool} {x:List Int} {i:Nat} (h:i<(qC mk x.length).length):(keep mk x).getD i 0=x.getD ((qC mk x.length).getD i 0) 0:=by unfold keep;rw [Ya,List.getElem?_map,Ya (l:=qC mk x.length),Yb h];rfl
def qS (tI:Nat->Nat->Int) (m:Nat) (mk:Nat->Bool) (i:Nat):Int:=jq (fun s=>if mk s=true then 0 else tI i s) m
def qD (n m:Nat) (need:Nat->Int) (tI:Nat->Nat->Int) (mk:Nat->Bool):Int:=jq (fun i=>jI (need i-qS tI m mk i)) n
def zw (m:Nat) (len:Nat->Int) (mk:Nat->Bool):Int:=jq (fun s=>if mk s=true then len s else 0) m
def zV (n:Nat) (P:Nat->Nat->Int) (s:Nat):Int:=jq (fun i=>P i s) n
def qY (n m:Nat) (len:Nat->Int) (P:Nat->Nat->Int) (k:Int):Int:=jq (fun s=>jI (zV n P s-k*len s)) m
structure EvenP (n m:Nat) (need:Nat->Int) (tI:Nat->Nat->Int) (len:Nat->Int) (P:Nat->Nat->Int):Prop where
 row:∀i,i<n->jq (P i) m=need i
 cell:∀i s,i<n->s<m->0<=P i s/\P i s<=tI i s
 even:∀k,∃mk,qY n m len P k=qD n m need tI mk-k*zw m len mk
theorem J1 (x:Int):0<=jI x/\x<=jI x:=by unfold jI;split <;> omega
theorem ZC {f g:Nat->Int} {n:Nat}:(∀j,j<n->g j<=f j)->jq f n<=jq g n->∀j,j<n->f j=g j:=by
 induction n with
 | zero=>intro _ _ j hj;omega
 | succ n ih=>
   intro h hs j hj;have h1:=qA (f:=g) (g:=f) (n:=n) fun j hj=>h j (by omega);have h2:=h n (by omega);have hs':jq f n+f n<=jq g n+g n:=hs;by_cases z:j=n
   . subst z;omega
   . exact ih (fun j hj=>h j (by omega)) (by omega) j (by omega)
theorem jjS {x y:Int} (h:0<=y):jI (jI x-y)=jI (x-y):=by
 unfold jI;by_cases a:x>0
 . rw [if_pos a]
 . rw [if_neg a,if_neg (by omega),if_neg (by omega)]
theorem jjU {x r o:Int} (h0:0<=o) (h1:o<=r):jI (x-o)=jI (x-r)+jI (x-jI (x-r)-o):=by
 by_cases a:x-r>0
 . have e:jI (x-r)=x-r:=by unfold jI;rw [if_pos a]
   rw [e];unfold jI;split <;> split <;> omega
 . have e:jI (x-r)=0:=by unfold jI;rw [if_neg a]
   rw [e,Int.sub_zero,KS]
theorem jiT {n m:Nat} {need:Nat->Int} {tI:Nat->Nat->Int} {len:Nat->Int} {P:Nat->Nat->Int} {l:Int} (h0:∀i,i<n->0<=need i) (h1:∀i,i<n->need i<=jq (tI i) m) (hl:∀s,s<m->0<len s) (row:∀i,i<n->jq (P i) m=need i) (cell:∀i s,i<n->s<m->0<=P i s/\P i s<=tI i s)
 (lo:∀s,s<m->l*len s<=zV n P s) (hi:∀s,s<m->zV n P s<=(l+1)*len s):EvenP n m need tI len P:=by
 refine ⟨row,cell,fun k=>?_⟩;by_cases c:k<=l
 . refine ⟨fun _=>true,?_⟩;have e1:qD n m need tI (fun _=>true)=jq need n:=jf fun i hi'=>by have:qS tI m (fun _=>true) i=0:=jQ fun s _=>if_pos rfl;rw [this,Int.sub_zero];have:=h0 i hi';unfold jI;split <;> omega
   have e2:zw m len (fun _=>true)=jq len m:=jf fun s _=>if_pos rfl;have e3:qY n m len P k=jq (fun s=>zV n P s-k*len s) m:=jf fun s hs=>by have a:=lo s hs;have b:k*len s<=l*len s:=yx c (Y4 (hl s hs));unfold jI;split <;> omega
   rw [e1,e2,e3,zQ,zB];have e4:jq (fun s=>zV n P s) m=jq need n:=by unfold zV;rw [<-JA];exact jf row
   rw [e4]
 . refine ⟨fun _=>false,?_⟩;have e1:qD n m need tI (fun _=>false)=0:=jQ fun i hi'=>by have:qS tI m (fun _=>false) i=jq (tI i) m:=jf fun s _=>if_neg Yf;rw [this];have:=h1 i hi';unfold jI;split <;> omega
   have e2:zw m len (fun _=>false)=0:=jQ fun s _=>if_neg Yf;have e3:qY n m len P k=0:=jQ fun s hs=>by have a:=hi s hs;have b:(l+1)*len s<=k*len s:=yx (by omega) (Y4 (hl s hs));unfold jI;split <;> omega
   rw [e1,e2,e3];omega
def nt (mk:Nat->Bool):Nat->Bool:=fun s=>!mk s
def pl (mk:Nat->Bool) (m t:Nat):Nat:=(qC mk m).getD t 0
theorem ji7 (mk:Nat->Bool) (m:Nat):(qC mk m).Nodup:=by unfold qC;exact List.Pairwise.filter _ List.nodup_range
theorem Jk {mk:Nat->Bool} {m t:Nat} (h:t<(qC mk m).length):pl mk m t<m/\mk (pl mk m t)=true:=jmV h
theorem jbX {mk:Nat->Bool} {m t:Nat} (h:t<(qC mk m).length):Jm mk (pl mk m t)=t:=by
 obtain ⟨a,b⟩:=Jk h;obtain ⟨c,d⟩:=Zy mk a b;have e1:(qC mk m)[Jm mk (pl mk m t)]?=some (pl mk m t):=by
  have e:(qC mk m)[Jm mk (pl mk m t)]?=some ((qC mk m).getD (Jm mk (pl mk m t)) 0):=by rw [Ya,Yb c];rfl
  rw [e,d]
 have e2:(qC mk m)[t]?=some (pl mk m t):=by unfold pl;rw [Ya,Yb h];rfl
 exact Qe (ji7 mk m) e1 e2
theorem zk (M:Nat->Bool) (g:Nat->Int) (m:Nat):jq g m=jq (fun t=>g (pl M m t)) (qC M m).length+jq (fun t=>g (pl (nt M) m t)) (qC (nt M) m).length:=by unfold pl;rw [jbZ,jbZ,<- qG];refine jf fun s _=>?_;unfold nt;cases M s <;> simp
def QU (M:Nat->Bool) (A B:Nat->Nat->Int):Nat->Nat->Int:=fun i s=>if M s=true then A i (Jm M s) else B i (Jm (nt M) s)
theorem jfm {M:Nat->Bool} {m t:Nat} (h:t<(qC (nt M) m).length):M (pl (nt M) m t)=false:=by
 have h2:(!M (pl (nt M) m t))=true:=(Jk h).2;cases hM:M (pl (nt M) m t) with
 | false=>rfl
 | true=>rw [hM] at h2;cases h2
theorem jit {M:Nat->Bool} {m:Nat} {A B:Nat->Nat->Int} {i t:Nat} (h:t<(qC M m).length):QU M A B i (pl M m t)=A i t:=by unfold QU;rw [if_pos (show M (pl M m t)=true from (Jk h).2),jbX h]
theorem jhA {M:Nat->Bool} {m:Nat} {A B:Nat->Nat->Int} {i t:Nat} (h:t<(qC (nt M) m).length):QU M A B i (pl (nt M) m t)=B i t:=by unfold QU;rw [if_neg (by rw [jfm h];exact Yf),jbX h]
theorem ji1 {n m:Nat} {need:Nat->Int} {tI:Nat->Nat->Int} {len:Nat->Int} {M:Nat->Bool} {l:Int} {A B:Nat->Nat->Int} (hr:∀i s,i<n->s<m->0<=tI i s) (hl:∀s,s<m->0<len s)
 (best:∀mk,qD n m need tI mk-l*zw m len mk<=qD n m need tI M-l*zw m len M)
 (hA:EvenP n (qC M m).length (fun i=>jI (need i-qS tI m M i)) (fun i t=>tI i (pl M m t)) (fun t=>len (pl M m t)) A)
 (hB:EvenP n (qC (nt M) m).length (fun i=>need i-jI (need i-qS tI m M i)) ‹"am"› (fun t=>len (pl (nt M) m t)) B) :
 EvenP n m need tI len (QU M A B):=by
 have plH:∀t,t<(qC M m).length->pl M m t<m:=fun t ht=>(Jk ht).1;have plL:∀t,t<(qC (nt M) m).length->pl (nt M) m t<m:=fun t ht=>(Jk ht).1;have hout:∀i,qS tI m M i=jq (fun t=>tI i (pl (nt M) m t)) (qC (nt M) m).length:=fun i=>by unfold qS;rw [zk M,jQ (f:=fun t=>if M (pl M m t)=true then 0 else tI i (pl M m t)) fun t ht=>if_pos (Jk ht).2,KS];exact jf fun t ht=>if_neg (by rw [jfm ht];exact Yf)
 have hMh:zw m len M=jq (fun t=>len (pl M m t)) (qC M m).length:=by unfold zw;rw [zk M,jQ (f:=fun t=>if M (pl (nt M) m t)=true then len (pl (nt M) m t) else 0) fun t ht=>if_neg (by rw [jfm ht];exact Yf),KC];exact jf fun t ht=>if_pos (Jk ht).2
 -- tE within M
 let up:(Nat->Bool)->Nat->Bool:=fun mk s=>M s && mk (Jm M s)
 have upH:∀mk t,t<(qC M m).length->up mk (pl M m t)=mk t:=fun mk t ht=>by show (M _ && mk (Jm M _))=_;rw [(Jk ht).2,jbX ht];rfl
 have upL:∀mk t,t<(qC (nt M) m).length->up mk (pl (nt M) m t)=false:=fun mk t ht=>by show (M _ && _)=_;rw [jfm ht];rfl
 have upHrs:∀mk,zw m len (up mk)=zw (qC M m).length (fun t=>len (pl M m t)) mk:=fun mk=>by unfold zw;rw [zk M,jQ (f:=fun t=>if up mk (pl (nt M) m t)=true then len (pl (nt M) m t) else 0) fun t ht=>if_neg (by rw [upL mk t ht];exact Yf),KC];exact jf fun t ht=>by rw [upH mk t ht]
 have upWant:∀mk,qD n m need tI (up mk)=qD n (qC M m).length (fun i=>jI (need i-qS tI m M i)) (fun i t=>tI i (pl M m t)) mk:=fun mk=>jf fun i hi=>by
  have e:qS tI m (up mk) i=qS (fun i t=>tI i (pl M m t)) (qC M m).length mk i+qS tI m M i:=by rw [hout i];unfold qS;rw [zk M,jf (f:=fun t=>if up mk (pl M m t)=true then 0 else tI i (pl M m t)) (g:=fun t=>if mk t=true then 0 else tI i (pl M m t)) fun t ht=>by rw [upH mk t ht]];congr 1;exact jf fun t ht=>if_neg (by rw [upL mk t ht];exact Yf)
  have nn:0<=qS (fun i t=>tI i (pl M m t)) (qC M m).length mk i:=Jt fun t ht=>by
   split
   . exact yS _
   . exact hr i _ hi (plH t ht)
  show jI (need i-qS tI m (up mk) i)=jI (jI (need i-qS tI m M i)-qS (fun i t=>tI i (pl M m t)) (qC M m).length mk i);rw [e,jjS nn];congr 1;omega
 -- all of M, and tE outside
 let dn:(Nat->Bool)->Nat->Bool:=fun mk s=>M s || mk (Jm (nt M) s)
 have dnH:∀mk t,t<(qC M m).length->dn mk (pl M m t)=true:=fun mk t ht=>by show (M _ || _)=_;rw [show M (pl M m t)=true from (Jk ht).2];rfl
 have dnL:∀mk t,t<(qC (nt M) m).length->dn mk (pl (nt M) m t)=mk t:=fun mk t ht=>by show (M _ || mk (Jm _ _))=_;rw [jfm ht,jbX ht];rfl
 have dnHrs:∀mk,zw m len (dn mk)=zw m len M+zw (qC (nt M) m).length (fun t=>len (pl (nt M) m t)) mk:=fun mk=>by rw [hMh];unfold zw;rw [zk M,jf (f:=fun t=>if dn mk (pl M m t)=true then len (pl M m t) else 0) (g:=fun t=>len (pl M m t)) fun t ht=>if_pos (dnH mk t ht)];congr 1;exact jf fun t ht=>by rw [dnL mk t ht]
 have dnWant:∀mk,qD n m need tI (dn mk)=qD n m need tI M+qD n (qC (nt M) m).length (fun i=>need i-jI (need i-qS tI m M i)) ‹"am"› mk:=fun mk=>by
  unfold qD;rw [<-qG];refine jf fun i hi=>?_;have e:qS tI m (dn mk) i=qS ‹"am"› (qC (nt M) m).length mk i:=by unfold qS;rw [zk M,jQ (f:=fun t=>if dn mk (pl M m t)=true then 0 else tI i (pl M m t)) fun t ht=>if_pos (dnH mk t ht),KS];exact jf fun t ht=>by rw [dnL mk t ht]
  have le:qS ‹"am"› (qC (nt M) m).length mk i<=qS tI m M i:=by rw [hout i];refine qA fun t ht=>?_;have:=hr i _ hi (plL t ht);show (if mk t=true then 0 else tI i (pl (nt M) m t))<=_;split <;> omega
  have nn:0<=qS ‹"am"› (qC (nt M) m).length mk i:=Jt fun t ht=>by
   split
   . exact yS _
   . exact hr i _ hi (plL t ht)
  rw [e];exact jjU nn le
 have eAb:∀k,qY n m len (QU M A B) k=qY n (qC M m).length (fun t=>len (pl M m t)) A k+qY n (qC (nt M) m).length (fun t=>len (pl (nt M) m t)) B k:=fun k=>by
  unfold qY;rw [zk M];congr 1
  . refine jf fun t ht=>?_;have e:zV n (QU M A B) (pl M m t)=zV n A t:=jf fun i _=>jit ht;rw [e]
  . refine jf fun t ht=>?_;have e:zV n (QU M A B) (pl (nt M) m t)=zV n B t:=jf fun i _=>jhA ht;rw [e]
 have lowc:∀t,t<(qC (nt M) m).length->zV n B t<=l*len (pl (nt M) m t):=by
  obtain ⟨mk,e⟩:=hB.even l;have b:=best (dn mk);rw [dnWant,dnHrs,Int.mul_add] at b;have z:qY n (qC (nt M) m).length (fun t=>len (pl (nt M) m t)) B l<=0:=by omega
  intro t ht;have q:=ZC (f:=fun t=>jI (zV n B t-l*len (pl (nt M) m t))) (g:=fun _=>0) (fun t _=>(J1 _).1) (by rw [jQ (f:=fun _=>0) fun _ _=>rfl];exact z) t ht;have:=(J1 (zV n B t-l*len (pl (nt M) m t))).2;omega
 have colA:jq (fun t=>zV n A t) (qC M m).length=qD n m need tI M:=by unfold zV qD;rw [<-JA];exact jf fun i hi=>hA.row i hi
 have highc:∀t,t<(qC M m).length->l*len (pl M m t)<=zV n A t:=by obtain ⟨mk,e⟩:=hA.even l;have b:=best (up mk);rw [upWant,upHrs,<- e,hMh,<- colA,<- zB,<- zQ] at b;intro t ht;have q:=ZC (f:=fun t=>jI (zV n A t-l*len (pl M m t))) (g:=fun t=>zV n A t-l*len (pl M m t)) (fun t _=>(J1 _).2) b t ht;have:=(J1 (zV n A t-l*len (pl M m t))).1;omega
 refine ⟨fun i hi=>?_,fun i s hi hs=>?_,fun k=>?_⟩
 . rw [zk M,jf (f:=fun t=>QU M A B i (pl M m t)) (g:=A i) fun t ht=>jit ht,jf (f:=fun t=>QU M A B i (pl (nt M) m t)) (g:=B i) fun t ht=>jhA ht,hA.row i hi,hB.row i hi];omega
 . unfold QU;by_cases c:M s=true
   . rw [if_pos c];obtain ⟨r1,r2⟩:=Zy M hs c;have:=hA.cell i (Jm M s) hi r1;have e:pl M m (Jm M s)=s:=r2;rw [e] at this;exact this
   . rw [if_neg c];have c':nt M s=true:=by unfold nt;simpa using c
     obtain ⟨r1,r2⟩:=Zy (nt M) hs c';have:=hB.cell i (Jm (nt M) s) hi r1;have e:pl (nt M) m (Jm (nt M) s)=s:=r2;rw [e] at this;exact this
 . by_cases c:l<=k
   . obtain ⟨mk,e⟩:=hA.even k;refine ⟨up mk,?_⟩;rw [eAb,upWant,upHrs,e];have z:qY n (qC (nt M) m).length (fun t=>len (pl (nt M) m t)) B k=0:=jQ fun t ht=>by have a:=lowc t ht;have b:l*len (pl (nt M) m t)<=k*len (pl (nt M) m t):=yx c (Y4 (hl _ (plL t ht)));show jI (zV n B t-k*len (pl (nt M) m t))=0;unfold jI;split <;> omega
     rw [z];omega
   . obtain ⟨mk,e⟩:=hB.even k;refine ⟨dn mk,?_⟩;rw [eAb,dnWant,dnHrs,e];have z:qY n (qC M m).length (fun t=>len (pl M m t)) A k=qD n m need tI M-k*zw m len M:=by rw [hMh,<- colA,<- zB,<- zQ];refine jf fun t ht=>?_;have a:=highc t ht;have b:k*len (pl M m t)<=l*len (pl M m t):=yx (by omega) (Y4 (hl _ (plH t ht)));show jI (zV n A t-k*len (pl M m t))=zV n A t-k*len (pl M m t);unfold jI;split <;> omega
     rw [z,Int.mul_add];omega
def qq (M:List Bool):D:=.lst (M.map D.bl)
theorem jg4 {need:Int} {rs:List Int} {M:List Bool} (h:rs.length=M.length) (hl:rs.length<1000):jai [.int need,ji rs,qq M]=some ‹"t"›:=by
 suffices main:∀C:Res->Prop,C (.ret ‹"t"›)->C (Qz [.sh (.int need),.sh (.lst (rs.map D.int)),.sh (.lst (M.map D.bl)),.un]) by exact main (fun r=>jaW r=some ‹"t"›) rfl
 intro C fin;have hz:Q4 (jc (ja 1) (jc (ja 2) jl)) [.sh (.int need),.sh (.lst (rs.map D.int)),.sh (.lst (M.map D.bl)),.un]=some ((rs.zip M).map fun q=>.tup [.int q.1,.bl q.2]):=by unfold Q4;simp (disch:=omega) only [jc,ja,List.getElem?_cons_succ,List.getElem?_cons_zero,jl,Yx,Yt];rw [jaq]
 have lc:=qv (m:=JS 2 (jV (jx 0) (jV (jx 1) JU))) (ft:=jbQ (qR (ja 1))) (fe:=jr 0) (n:=2) (ix:=[]) hz (by simp;omega)
  (jeY (fun q:Int×Bool=>.tup [.int q.1,.bl q.2]) (fun q=>.int q.1) (fun q=>!q.2) _ fun q _=>⟨[.sh (.int q.1),.sh (.bl q.2)],rfl,rfl,rfl⟩)
 have ss:=jij (fun b=>!b) rs M h;have s1:Js [.lst ((((rs.zip M).filter fun q=>!q.2).map fun q=>D.int q.1))]=some (.int (jq (fun j=>if M.getD j false=true then 0 else rs.getD j 0) rs.length)):=by have:=je3 (((rs.zip M).filter fun q=>!q.2).map (·.1));rw [YF] at this;refine this.trans ?_;congr 2;refine ss.trans (jf fun j hj=>?_);cases M.getD j false <;> rfl
 unfold Qz;refine jJ [.sh (.int need),.sh (.lst (rs.map D.int)),.sh (.lst (M.map D.bl)),.sh (.int (jq (fun j=>if M.getD j false=true then 0 else rs.getD j 0) rs.length))] (by simp (disch:=omega) only [jM,jk,jc,jN,jl,Yx,yO,Ki];simp only [lc];simp (disch:=omega) only [Yx,Yt];simp only [s1]) ?_
 have last:∀r,r=Res.ret ‹"t"›->C r:=fun r h=>by rw [h];exact fin
 refine last _ ?_;simp (disch:=omega) only [qE,jk,jc,js,ja,List.getElem?_cons_zero,List.getElem?_cons_succ,Yt,ql,eC,jl,Yx,ZU];rw [joK]
theorem jjw (x:List Int) (M:List Bool) (h:x.length=M.length):x.zip M=(List.range x.length).map fun j=>(x.getD j 0,M.getD j false):=by
 apply Ks;intro i;rw [List.getElem?_map];by_cases hi:i<x.length
 . rw [yj hi,Yx,YQ.mpr ⟨_,_⟩]
   . show x[i]?=some (x.getD i 0);rw [Ya,Yb hi];rfl
   . have hi':i<M.length:=by omega
     show M[i]?=some (M.getD i false);rw [Ya,Yb hi'];rfl
 . rw [YC (by simp;omega),YC (by simp;omega)];rfl
def zt (M:List Bool) (b:Bool):Nat->Bool:=fun j=>M.getD j false == b
theorem jdY {x:List Int} {M:List Bool} (h:x.length=M.length) (hl:x.length<1000) (b:Bool):Qq [ji x,qq M,.bl b]=some ((keep (zt M b) x).map D.int):=by
 unfold Qq;refine jeF (ρ:=[.sh (ji x),.sh (qq M),.sh (.bl b)]) rfl rfl fun C fin=>?_;unfold jhn;refine QT (jaV (l:=(keep (zt M b) x).map D.int) ?_) fin;have hz:Q4 (jc (ja 0) (jc (ja 1) jl)) [.sh (ji x),.sh (qq M),.sh (.bl b)]=some ((x.zip M).map fun q=>.tup [.int q.1,.bl q.2]):=by show some (jac (x.map D.int) (M.map D.bl))=_;rw [jaq]
 refine (qv hz (by simp;omega) (jeY (fun q:Int×Bool=>.tup [.int q.1,.bl q.2]) (fun q=>.int q.1) (fun q=>q.2 == b) _ fun q _=>⟨[.sh (.int q.1),.sh (.bl q.2),.sh (.bl b)],rfl,j6 ((jj rfl rfl joo).trans ?_),rfl⟩)).trans ?_
 . cases q.2 <;> cases b <;> rfl
 . rw [jjw x M h,List.filter_map,YF];unfold keep qC zt;rw [YF];rfl
theorem jcF (M:List Bool) (b:Bool):∀j,j<=M.length->(M.take j).countP (· == b)=Jm (zt M b) j
 | 0,_=>by simp [Jm,qC]
 | j+1,h=>by
   have hj:j<M.length:=by omega
   have e:M.take (j+1)=M.take j++[M.getD j false]:=by rw [List.take_succ,Ya,Yb hj];rfl
   rw [e,List.countP_append,jcF M b j (by omega)];unfold Jm;rw [jcN];unfold zt;cases hb:(M.getD j false == b) with
   | true=>rw [if_pos rfl,YD,List.countP_cons_of_pos (by simpa using hb)];rfl
   | false=>rw [if_neg Yf,yK,List.countP_cons_of_neg (by simpa using hb)];rfl
def jv (M:List Bool) (A B:List Int) (j:Nat):Int:=if M.getD j false=true then A.getD (Jm (zt M true) j) 0 else B.getD (Jm (zt M false) j) 0
def jaJ (M:List Bool) (A B:List Int):List Int:=(List.range M.length).map (jv M A B)
theorem Zg:∀M:List Bool,jdx (M.map D.bl)=some M
 | []=>rfl
 | b::M=>by show (jdx (M.map D.bl)).map (b::·)=_;rw [Zg M];rfl
theorem jfn {A B:List Int} {M:List Bool} (hl:M.length<1000) (hA:A.length=(qC (zt M true) M.length).length) (hB:B.length=(qC (zt M false) M.length).length):jaF [ji A,ji B,qq M]=some ((jaJ M A B).map D.int):=by
 unfold jaF;refine jeF (ρ:=[.sh (ji A),.sh (ji B),.sh (qq M),.un,.un,.un,.un]) rfl rfl fun C fin=>?_;unfold jcS;refine jJ [.sh (ji A),.sh (ji B),.sh (qq M),.ow [],.un,.un,.un] rfl ?_;refine Z4 (fun j:Nat=>.tup [.int (j:Int),.bl (M.getD j false)]) M.length (fun j ρ=>∃x y z,ρ=[.sh (ji A),.sh (ji B),.sh (qq M),.ow (((List.range j).map (jv M A B)).map D.int),x,y,z]) ?_ ⟨_,_,_,rfl⟩ ?_ ?_
 . show some (QN (M.map D.bl))=_;rw [jaM D.bl false]
 . rintro j ρ hj ⟨x,y,z,rfl⟩;have ec:eBM jc3 (jN (eSl (ja 2) pNo (pSo (ja 4)))) (jc (jr 5) jl) ‹"u"›=some (.int ((Jm (zt M (M.getD j false)) j:Nat):Int)):=by
    have es:jN (eSl (ja 2) pNo (pSo (ja 4))) ‹"u"›=some (.lst ((M.take j).map D.bl)):=by refine qp ?_;show some (L2.jbT (M.map D.bl) none (some (j:Int)))=_;rw [jjO j (by rw [Yd];omega),List.map_take]
    unfold eBM;rw [es,jh rfl rfl];show (jdx ((M.take j).map D.bl)).map _=_;rw [Zg];show some (D.int (((M.take j).countP (· == M.getD j false):Nat):Int))=_;rw [jcF M _ j (by omega)]
   have ev:eIf (qR (ja 5)) (js jZ (ja 0) (ja 6)) (js jZ (ja 1) (ja 6)) [.sh (ji A),.sh (ji B),.sh (qq M),.ow (((List.range j).map (jv M A B)).map D.int),.sh (.int j),.sh (.bl (M.getD j false)),.sh (.int ((Jm (zt M (M.getD j false)) j:Nat):Int))]=some (.int (jv M A B j)):=by
    unfold eIf jv;rw [j6 (b:=M.getD j false) rfl];cases hb:M.getD j false with
    | true=>obtain ⟨r1,_⟩:=Zy (zt M true) hj (by unfold zt;rw [hb];rfl);rw [if_pos rfl];exact jj rfl rfl (Jb (by omega))
    | false=>obtain ⟨r1,_⟩:=Zy (zt M false) hj (by unfold zt;rw [hb];rfl);rw [if_neg Yf];exact jj rfl rfl (Jb (by omega))
   refine ⟨‹"u"›,[.sh (ji A),.sh (ji B),.sh (qq M),.ow (((List.range (j+1)).map (jv M A B)).map D.int),.sh (.int j),.sh (.bl (M.getD j false)),.sh (.int ((Jm (zt M (M.getD j false)) j:Nat):Int))],rfl,?_,_,_,_,rfl⟩;rw [List.range_succ,YT,YT];exact (j8 (jO ec)).trans (jkF rfl ev (by simp;omega))
 . rintro ρ ⟨x,y,z,rfl⟩;exact fin
structure Prob (n m:Nat) (tu:List Int) (tm:List (List Int)) (tD:List Int):Prop where
 nl:tu.length=n
 sh:Shape n m tm
 hl:tD.length=m
 n0:∀i,i<n->0<=tu.getD i 0
 n1:∀i,i<n->tu.getD i 0<=jq (jW tm i) m
 r0:∀i s,i<n->s<m->0<=jW tm i s
 h0:∀s,s<m->0<tD.getD s 0
 h1:jq ‹"z"› m<=1000000000000000000
abbrev jdZ (n m:Nat) (tu:List Int) (tm:List (List Int)) (tD:List Int) (P:List (List Int)):Prop:=EvenP n m ‹"q"› (jW tm) ‹"z"› (jW P)
theorem jkD {f:Nat->Int} {n j:Nat} (h:∀j,j<n->0<=f j) (hj:j<n):f j<=jq f n:=by
 induction n with
 | zero=>omega
 | succ n ih=>
   have h1:=Jt (f:=f) (n:=n) fun j hj=>h j (by omega);have h2:=h n (by omega);show f j<=jq f n+f n;by_cases z:j=n
   . subst z;omega
   . have:=ih (fun j hj=>h j (by omega)) (by omega);omega
theorem jca {tD:List Int} {l:Int} {s:Nat} (h:s<tD.length):(tD.map (l * ·)).getD s 0=l*tD.getD s 0:=by rw [Ya,List.getElem?_map,Yb h,Ya,Yb h];rfl
theorem jnj {n m:Nat} {tu:List Int} {tm:List (List Int)} {tD:List Int} (hh:tD.length=m) (l:Int) (mk:Nat->Bool):jiR mk tu tm (tD.map (l * ·)) n m=l*zw m ‹"z"› mk+(jq ‹"q"› n-qD n m ‹"q"› (jW tm) mk):=by
 unfold jiR zw qD;rw [<-zB,<- zQ];congr 1;refine jf fun s hs=>?_;by_cases c:mk s=true
 . rw [if_pos c,if_pos c];exact jca (by omega)
 . rw [if_neg c,if_neg c,Int.mul_zero]
theorem jmx {n m:Nat} {tu:List Int} {tm:List (List Int)} {tD:List Int} {l:Int} {P0 P:List (List Int)} {tE:List Bool} (hh:tD.length=m) (F:Fill n m tu tm (tD.map (l * ·)) P0 P tE) (mk:Nat->Bool) :
 qD n m ‹"q"› (jW tm) mk-l*zw m ‹"z"› mk<=qD n m ‹"q"› (jW tm) ‹"I"›-l*zw m ‹"z"› ‹"I"›:=by
 have h1:=jkm F;have h2:=jn9 mk F.feas;rw [jnj hh] at h1 h2;omega
theorem jjN {n m:Nat} {need:Nat->Int} {tI:Nat->Nat->Int} {mk mk':Nat->Bool} (h:∀s,s<m->mk s=mk' s):qD n m need tI mk=qD n m need tI mk':=jf fun i _=>by
 have:qS tI m mk i=qS tI m mk' i:=jf fun s hs=>by rw [h s hs]
 rw [this]
theorem jmN {m:Nat} {len:Nat->Int} {mk mk':Nat->Bool} (h:∀s,s<m->mk s=mk' s):zw m len mk=zw m len mk':=jf fun s hs=>by rw [h s hs]
theorem JG (M:List Bool) (s:Nat):zt M true s=M.getD s false:=by unfold zt;cases M.getD s false <;> rfl
theorem jbd (M:List Bool) (s:Nat):zt M false s=nt (zt M true) s:=by unfold nt;rw [JG];unfold zt;cases M.getD s false <;> rfl
theorem jhf (M:List Bool):zt M false=nt (zt M true):=funext (jbd M)
def QZ (mk:Nat->Bool) (m:Nat) (R:List (List Int)):List (List Int):=R.map fun r=>keep mk r
theorem jfR {mk:Nat->Bool} {x:List Int}:(keep mk x).length=(qC mk x.length).length:=Yd _
theorem jlx {n m:Nat} {R:List (List Int)} (h:Shape n m R) (mk:Nat->Bool):Shape n (qC mk m).length (QZ mk m R):=⟨by unfold QZ;rw [Yd];exact h.1,fun r hr=>by unfold QZ at hr;obtain ⟨q,hq,rfl⟩:=YO.mp hr;rw [jfR,h.2 q hq]⟩
theorem jaP {n m:Nat} {R:List (List Int)} (h:Shape n m R) (mk:Nat->Bool) {i t:Nat} (hi:i<n) (ht:t<(qC mk m).length):jW (QZ mk m R) i t=jW R i (pl mk m t):=by
 have e:(QZ mk m R).getD i []=keep mk (R.getD i []):=by unfold QZ;rw [Ya,List.getElem?_map,(h.row hi).1];rfl
 unfold jW pl;rw [e,jia (by rw [(h.row hi).2];exact ht),(h.row hi).2]
theorem jar {m:Nat} {x:List Int} (h:x.length=m) (mk:Nat->Bool) {t:Nat} (ht:t<(qC mk m).length):(keep mk x).getD t 0=x.getD (pl mk m t) 0:=by unfold pl;rw [jia (by rw [h];exact ht),h]
theorem jcj {n m:Nat} {need need':Nat->Int} {tI room':Nat->Nat->Int} {len len':Nat->Int} {P:Nat->Nat->Int} (h:EvenP n m need tI len P) (h1:∀i,i<n->need i=need' i) (h2:∀i s,i<n->s<m->tI i s=room' i s) (h3:∀s,s<m->len s=len' s):EvenP n m need' room' len' P:=by
 refine ⟨fun i hi=>(h.row i hi).trans (h1 i hi),fun i s hi hs=>by rw [<-h2 i s hi hs];exact h.cell i s hi hs,fun k=>?_⟩;obtain ⟨mk,e⟩:=h.even k;refine ⟨mk,?_⟩;have e1:qY n m len P k=qY n m len' P k:=jf fun s hs=>by rw [h3 s hs]
 have e2:qD n m need tI mk=qD n m need' room' mk:=jf fun i hi=>by
  have:qS tI m mk i=qS room' m mk i:=jf fun s hs=>by rw [h2 i s hi hs]
  rw [this,h1 i hi]
 have e3:zw m len mk=zw m len' mk:=jf fun s hs=>by rw [h3 s hs]
 rw [<-e1,<- e2,<- e3];exact e
theorem jfD {n m:Nat} {need:Nat->Int} {tI:Nat->Nat->Int} {len:Nat->Int} {P P':Nat->Nat->Int} (h:EvenP n m need tI len P) (hP:∀i s,i<n->s<m->P i s=P' i s):EvenP n m need tI len P':=by refine ⟨fun i hi=>by rw [<-h.row i hi];exact jf fun s hs=>(hP i s hi hs).symm,fun i s hi hs=>by rw [<-hP i s hi hs];exact h.cell i s hi hs,fun k=>?_⟩;obtain ⟨mk,e⟩:=h.even k;refine ⟨mk,?_⟩;rw [<-e];refine jf fun s hs=>?_;have:zV n P' s=zV n P s:=jf fun i hi=>(hP i s hi hs).symm;rw [this]
theorem jm7 (mk:Nat->Bool) (m:Nat):(qC mk m).length+(qC (nt mk) m).length=m:=by
 have h:=zk mk (fun _=>1) m;have one:∀n:Nat,jq (fun _=>1) n=(n:Int):=fun n=>by
  induction n with
  | zero=>rfl
  | succ n ih=>show jq _ n+1=_;rw [ih];omega
 rw [one,one,one] at h;omega
def QX (tu:List Int) (tm:List (List Int)) (M:List Bool):List Int:=(tu.zip tm).map fun q=>jI (q.1-jq (fun j=>if M.getD j false=true then 0 else q.2.getD j 0) q.2.length)
def jea (tu ins:List Int):List Int:=(tu.zip ins).map fun q=>q.1-q.2
theorem jpI {n m:Nat} {tu:List Int} {tm:List (List Int)} {M:List Bool} (h:tu.length=n) (hr:Shape n m tm) {i:Nat} (hi:i<n):(QX tu tm M).getD i 0=jI (tu.getD i 0-qS (jW tm) m (zt M true) i):=by
 have e:(tu.zip tm)[i]?=some (tu.getD i 0,tm.getD i []):=by rw [YQ];refine ⟨?_,(hr.row hi).1⟩;show tu[i]?=some (tu.getD i 0);rw [Ya,Yb (by omega)];rfl
 unfold QX;rw [Ya,List.getElem?_map,e];show jI (tu.getD i 0-jq _ (tm.getD i []).length)=_;rw [(hr.row hi).2];congr 2;refine jf fun s _=>?_;rw [JG];rfl
theorem joq {n:Nat} {tu ins:List Int} (h:tu.length=n) (h':ins.length=n) {i:Nat} (hi:i<n):(jea tu ins).getD i 0=tu.getD i 0-ins.getD i 0:=by
 have e:(tu.zip ins)[i]?=some (tu.getD i 0,ins.getD i 0):=by
  rw [YQ];refine ⟨?_,?_⟩
  . show tu[i]?=some (tu.getD i 0);rw [Ya,Yb (by omega)];rfl
  . show ins[i]?=some (ins.getD i 0);rw [Ya,Yb (by omega)];rfl
 unfold jea;rw [Ya,List.getElem?_map,e];rfl
theorem jc8 {m:Nat} (mk:Nat->Bool) (f:Nat->Int):jq (fun t=>f (pl mk m t)) (qC mk m).length=jq (fun s=>if mk s=true then f s else 0) m:=jbZ mk f m
theorem jfg {n m:Nat} {tu:List Int} {tm:List (List Int)} {tD:List Int} (Pb:Prob n m tu tm tD) (mk:Nat->Bool) {ns:List Int} (hl:ns.length=n) (h0:∀i,i<n->0<=ns.getD i 0) (h1:∀i,i<n->ns.getD i 0<=jq (fun t=>jW tm i (pl mk m t)) (qC mk m).length) :
 Prob n (qC mk m).length ns (QZ mk m tm) (keep mk tD):=by
 refine ⟨hl,jlx Pb.sh mk,by rw [jfR,Pb.hl],h0,fun i hi=>?_,fun i t hi ht=>?_,fun t ht=>?_,?_⟩
 . rw [jf fun t ht=>jaP Pb.sh mk hi ht];exact h1 i hi
 . rw [jaP Pb.sh mk hi ht];exact Pb.r0 i _ hi (Jk ht).1
 . rw [jar Pb.hl mk ht];exact Pb.h0 _ (Jk ht).1
 . rw [jf fun t ht=>jar Pb.hl mk ht,jc8 mk fun s=>tD.getD s 0];refine Int.le_trans (qA fun s hs=>?_) Pb.h1;have:=Pb.h0 s hs;split <;> omega
theorem jgf {k n m:Nat} {tu:List Int} {tm:List (List Int)} {tD:List Int} (Pb:Prob n m tu tm tD) (hn:n<1000) (hm:m<1000) {M:List Bool} (hM:M.length=m) {l:Int}
 (best:∀mk,qD n m ‹"q"› (jW tm) mk-l*zw m ‹"z"› mk<=qD n m ‹"q"› (jW tm) (zt M true)-l*zw m ‹"z"› (zt M true))
 (IH:∀m' needs' rooms' hours',Prob n m' needs' rooms' hours'->m'<1000->0<m'->m'<=k->∃d,(∃P,d=.lst (P.map ji)/\Shape n m' P/\jdZ n m' needs' rooms' hours' P)/\zc k [.lst (needs'.map D.int),.lst (rooms'.map ji),.lst (hours'.map D.int)]=some d)
 (hH:0<(qC (zt M true) m).length) (hL:0<(qC (zt M false) m).length) (hk:m<=k+1) :
 ∃d,(∃P,d=P.map ji/\Shape n m P/\jdZ n m tu tm tD P)/\Je 4 8 (qy (zc k)) [.lst (tu.map D.int),.lst (tm.map ji),.lst (tD.map D.int),qq M]=some d:=by
 have hadd:=jm7 (zt M true) m;rw [<-jhf] at hadd;have hil:(QX tu tm M).length=n:=by unfold QX;rw [Yd,yZ,Pb.nl,Pb.sh.1,kb]
 have hol:(jea tu (QX tu tm M)).length=n:=by unfold jea;rw [Yd,yZ,Pb.nl,hil,kb]
 have iat:=fun i (hi:i<n)=>jpI (M:=M) Pb.nl Pb.sh hi;have oat:=fun i (hi:i<n)=>joq (ins:=QX tu tm M) Pb.nl hil hi;have hsplit:∀i,i<n->jq (jW tm i) m=jq (fun t=>jW tm i (pl (zt M true) m t)) (qC (zt M true) m).length+qS (jW tm) m (zt M true) i:=fun i hi=>by rw [jc8 (zt M true) (jW tm i)];unfold qS;rw [<-qG];refine jf fun s _=>?_;split <;> omega
 have hout:∀i,qS (jW tm) m (zt M true) i=jq (fun t=>jW tm i (pl (zt M false) m t)) (qC (zt M false) m).length:=fun i=>by rw [jc8 (zt M false) (jW tm i)];refine jf fun s _=>?_;rw [jbd];unfold nt;cases zt M true s <;> simp
 have onn:∀i,i<n->0<=qS (jW tm) m (zt M true) i:=fun i hi=>Jt fun s hs=>by have:=Pb.r0 i s hi hs;split <;> omega
 have p1:Prob n (qC (zt M true) m).length (QX tu tm M) (QZ (zt M true) m tm) (keep (zt M true) tD):=jfg Pb _ hil (fun i hi=>by rw [iat i hi];exact (J1 _).1) (fun i hi=>by rw [iat i hi];have h1:=Pb.n1 i hi;rw [hsplit i hi] at h1;have h2:0<=jq (fun t=>jW tm i (pl (zt M true) m t)) (qC (zt M true) m).length:=Jt fun t ht=>Pb.r0 i _ hi (Jk ht).1;unfold jI;split <;> omega)
 have p2:Prob n (qC (zt M false) m).length (jea tu (QX tu tm M)) (QZ (zt M false) m tm) (keep (zt M false) tD):=jfg Pb _ hol (fun i hi=>by
  rw [oat i hi,iat i hi];have h1:=Pb.n0 i hi;have h2:=onn i hi;unfold jI;split <;> omega) (fun i hi=>by
  rw [oat i hi,iat i hi,<- hout i];have h2:=onn i hi;unfold jI;split <;> omega)
 obtain ⟨d1,⟨P1,rfl,s1,ev1⟩,e1⟩:=IH _ _ _ _ p1 (by omega) hH (by omega);obtain ⟨d2,⟨P2,rfl,s2,ev2⟩,e2⟩:=IH _ _ _ _ p2 (by omega) hL (by omega);have kr:∀b (ρ:eg) (i:Nat),ja i ρ=some ‹"d"›->zE 1 [3] ρ=[.un,.sh (qq M)]->∀fe,(∀r:List Int,r∈tm->fe [.sh (ji r),.sh (qq M)]=some (ji (keep (zt M b) r)))->JT (j7 (ja i)) (jx 0) ‹"k"› fe 1 [3] ρ=some ((QZ (zt M b) m tm).map ji):=fun b ρ i h1 h2 fe h3=>by refine qv (qf h1) (by rw [Yd,Pb.sh.1];omega) ?_;rw [h2];unfold QZ;rw [YF];exact zH ji (ji∘fun r=>keep (zt M b) r) tm fun r hr=>⟨[.sh (ji r),.sh (qq M)],rfl,rfl,h3 r hr⟩
 have kf:∀b (r:List Int),r∈tm->Qq [ji r,qq M,.bl b]=some ((keep (zt M b) r).map D.int):=fun b r hr=>jdY (by rw [Pb.sh.2 r hr,hM]) (by rw [Pb.sh.2 r hr];exact hm) b;have kh:∀b,Qq [.lst (tD.map D.int),qq M,.bl b]=some ((keep (zt M b) tD).map D.int):=fun b=>jdY (x:=tD) (by rw [Pb.hl,hM]) (by rw [Pb.hl];exact hm) b;refine jes (ρ:=[.sh ‹"f"›,.sh ‹"d"›,.sh ‹"N"›,.sh (qq M),.un,.un,.un,.un]) _ rfl rfl fun C fin=>?_;unfold qy;refine jJ [.sh ‹"f"›,.sh ‹"d"›,.sh ‹"N"›,.sh (qq M),.sh (.lst ((QX tu tm M).map D.int)),.un,.un,.un] (Qy ?_) ?_
 . refine (qv (ds:=(tu.zip tm).map fun q=>.tup [.int q.1,ji q.2]) (by show some (jac (tu.map D.int) (tm.map ji))=_;rw [jaq]) (by rw [Yd,yZ,Pb.nl];omega) (zH (fun q:Int×List Int=>.tup [.int q.1,ji q.2]) (fun q=>.int (jI (q.1-jq (fun j=>if M.getD j false=true then 0 else q.2.getD j 0) q.2.length))) _ fun q hq=>⟨[.sh (.int q.1),.sh (ji q.2),.sh (qq M)],rfl,rfl,jw rfl (jg4 ?_ ?_)⟩)).trans ?_
   . rw [Pb.sh.2 _ (yY hq).2,hM]
   . rw [Pb.sh.2 _ (yY hq).2];exact hm
   . unfold QX;rw [YF];rfl
 refine jJ [.sh ‹"f"›,.sh ‹"d"›,.sh ‹"N"›,.sh (qq M),.sh (.lst ((QX tu tm M).map D.int)),.sh (.lst ((jea tu (QX tu tm M)).map D.int)),.un,.un] (Qy ?_) ?_
 . refine (qv (ds:=(tu.zip (QX tu tm M)).map fun q=>.tup [.int q.1,.int q.2]) (by show some (jac (tu.map D.int) ((QX tu tm M).map D.int))=_;rw [jaq]) (by rw [Yd,yZ,Pb.nl];omega) (zH (fun q:Int×Int=>.tup [.int q.1,.int q.2]) (fun q=>.int (q.1-q.2)) _ fun q hq=>⟨[.sh (.int q.1),.sh (.int q.2)],rfl,rfl,jj rfl rfl ql⟩)).trans ?_;unfold jea;rw [YF];rfl
 refine jJ [.sh ‹"f"›,.sh ‹"d"›,.sh ‹"N"›,.sh (qq M),.sh (.lst ((QX tu tm M).map D.int)),.sh (.lst ((jea tu (QX tu tm M)).map D.int)),.sh (.lst (P1.map ji)),.un] (jO (jw (jh rfl (jh (qp (kr true _ 1 rfl rfl _ fun r hr=>qp (jw rfl (kf true r hr)))) (jh (qp (jw rfl (kh true))) rfl))) e1)) ?_;refine jJ [.sh ‹"f"›,.sh ‹"d"›,.sh ‹"N"›,.sh (qq M),.sh (.lst ((QX tu tm M).map D.int)),.sh (.lst ((jea tu (QX tu tm M)).map D.int)),.sh (.lst (P1.map ji)),.sh (.lst (P2.map ji))] (jO (jw (jh rfl (jh (qp (kr false _ 1 rfl rfl _ fun r hr=>qp (jw rfl (kf false r hr)))) (jh (qp (jw rfl (kh false))) rfl))) e2)) ?_;refine QT (jaV (l:=((P1.zip P2).map fun q=>jaJ M q.1 q.2).map ji) ?_) (fin _ ⟨(P1.zip P2).map fun q=>jaJ M q.1 q.2,rfl,?_,?_⟩)
 . refine (qv (ds:=(P1.zip P2).map fun q=>.tup [ji q.1,ji q.2]) (by show some (jac (P1.map ji) (P2.map ji))=_;rw [jaq]) (by rw [Yd,yZ,s1.1];omega) (zH (fun q:List Int×List Int=>.tup [ji q.1,ji q.2]) (fun q=>ji (jaJ M q.1 q.2)) _ fun q hq=>⟨[.sh (ji q.1),.sh (ji q.2),.sh (qq M)],rfl,rfl,qp (jw rfl (jfn (by omega) ?_ ?_))⟩)).trans ?_
   . rw [s1.2 _ (yY hq).1,hM]
   . rw [s2.2 _ (yY hq).2,hM]
   . rw [YF];rfl
 . refine ⟨by rw [Yd,yZ,s1.1,s2.1,kb],fun r hr=>?_⟩;obtain ⟨q,_,rfl⟩:=YO.mp hr;unfold jaJ;simp [hM]
 . have ev1':EvenP n (qC (zt M true) m).length (fun i=>jI (tu.getD i 0-qS (jW tm) m (zt M true) i)) (fun i t=>jW tm i (pl (zt M true) m t)) (fun t=>tD.getD (pl (zt M true) m t) 0) (jW P1):=jcj ev1 (fun i hi=>iat i hi) (fun i t hi ht=>jaP Pb.sh _ hi ht) (fun t ht=>jar Pb.hl _ ht);have ev2':EvenP n (qC (nt (zt M true)) m).length (fun i=>tu.getD i 0-jI (tu.getD i 0-qS (jW tm) m (zt M true) i)) (fun i t=>jW tm i (pl (nt (zt M true)) m t)) (fun t=>tD.getD (pl (nt (zt M true)) m t) 0) (jW P2):=by rw [<-jhf];exact jcj ev2 (fun i hi=>by rw [oat i hi,iat i hi]) (fun i t hi ht=>jaP Pb.sh _ hi ht) (fun t ht=>jar Pb.hl _ ht)
   refine jfD (ji1 (len:=fun s=>tD.getD s 0) Pb.r0 Pb.h0 best ev1' ev2') fun i s hi hs=>?_;have e:((P1.zip P2).map fun q=>jaJ M q.1 q.2).getD i []=jaJ M (P1.getD i []) (P2.getD i []):=by have e0:(P1.zip P2)[i]?=some (P1.getD i [],P2.getD i []):=YQ.mpr ⟨(s1.row hi).1,(s2.row hi).1⟩;rw [Ya,List.getElem?_map,e0];rfl
   have e2:jW ((P1.zip P2).map fun q=>jaJ M q.1 q.2) i s=jv M (P1.getD i []) (P2.getD i []) s:=by unfold jW;rw [e];unfold jaJ;rw [Ya (l:=List.map _ _),List.getElem?_map,yj (by rw [hM];exact hs)];rfl
   rw [e2];unfold jv QU;rw [JG,<- jhf];rfl
theorem jkS {n m:Nat} {P:List (List Int)} (h:Shape n m P):qU P n=jq (fun s=>qw P s) m:=by unfold qU;rw [jf (f:=zi P) fun i hi=>zU h hi,JA];exact jf fun s _=>(J5 h s).symm
theorem jfF {mk:Nat->Bool} {m:Nat} (h:¬0<(qC mk m).length):∀s,s<m->mk s=false:=fun s hs=>by
 cases c:mk s with
 | false=>rfl
 | true=>exact absurd (yz (yA _) (Zy mk hs c).1) h
theorem jbI {n m:Nat} {tu:List Int} {tm:List (List Int)} {tD:List Int} (Pb:Prob n m tu tm tD) {l:Int} {P0 P:List (List Int)} {M:List Bool} (F:Fill n m tu tm (tD.map (l * ·)) P0 P M)
 (h1:qU P n≠jq ‹"q"› n) (h2:qU P n≠l*jq ‹"z"› m):0<(qC (zt M true) m).length/\0<(qC (zt M false) m).length:=by
 have e:=jkm F;rw [jnj Pb.hl] at e;constructor
 . refine Classical.byContradiction fun c=>h1 ?_;have z:∀s,s<m->M.getD s false=false:=fun s hs=>by rw [<-JG];exact jfF c s hs
   have e1:zw m ‹"z"› (fun s=>M.getD s false)=0:=jQ fun s hs=>if_neg (by show ¬M.getD s false=true;rw [z s hs];exact Yf);have e2:qD n m ‹"q"› (jW tm) (fun s=>M.getD s false)=0:=jQ fun i hi=>by have e3:qS (jW tm) m (fun s=>M.getD s false) i=jq (jW tm i) m:=jf fun s hs=>if_neg (by show ¬M.getD s false=true;rw [z s hs];exact Yf);have:=Pb.n1 i hi;show jI (tu.getD i 0-_)=0;rw [e3];unfold jI;split <;> omega
   rw [e,e1,e2];omega
 . refine Classical.byContradiction fun c=>h2 ?_;have z:∀s,s<m->M.getD s false=true:=fun s hs=>by have:=jfF c s hs;rw [jbd] at this;unfold nt at this;rw [JG] at this;simpa using this
   have e1:zw m ‹"z"› (fun s=>M.getD s false)=jq ‹"z"› m:=jf fun s hs=>if_pos (z s hs);have e2:qD n m ‹"q"› (jW tm) (fun s=>M.getD s false)=jq ‹"q"› n:=jf fun i hi=>by have e3:qS (jW tm) m (fun s=>M.getD s false) i=0:=jQ fun s hs=>if_pos (z s hs);have:=Pb.n0 i hi;show jI (tu.getD i 0-_)=_;rw [e3];unfold jI;split <;> omega
   rw [e,e1,e2];omega
theorem jhC {tD:List Int} (hl:tD.length<1000) {l l':Int} (hb:∀h∈tD,-18446744073709551616<h/\h<18446744073709551616) {fl:eg->Option D} (hf:∀h:Int,fl [.sh (.int h),.sh (.int l)]=some (.int l')) {a b x y:Slot} :
 JT (j7 (ja 2)) (jx 0) ‹"k"› (js zr fl (ja 0)) 1 [3] [a,b,.sh ‹"N"›,.sh (.int l),x,y]=some ((tD.map (l' * ·)).map D.int):=by
 refine qv (qf rfl) (by rw [Yd];omega) ?_;rw [YF];exact zH D.int (D.int∘fun h=>l' * h) tD fun h hh=>⟨[.sh (.int h),.sh (.int l)],rfl,rfl,jj (hf h) rfl (Jl (hb h hh).1 (hb h hh).2)⟩
theorem jdN (n:Nat) (hn:n<1000):∀(k m:Nat) (tu:List Int) (tm:List (List Int)) (tD:List Int),Prob n m tu tm tD->m<1000->0<m->m<=k->∃d,(∃P,d=.lst (P.map ji)/\Shape n m P/\jdZ n m tu tm tD P)/\zc k [.lst (tu.map D.int),.lst (tm.map ji),.lst (tD.map D.int)]=some d
 | 0,m,_,_,_,_,_,h0,h1=>by omega
 | k+1,m,tu,tm,tD,Pb,hm,h0,h1=>by
   have hsn:tu.sum=jq ‹"q"› n:=by rw [Qk,Pb.nl]
   have hsh:tD.sum=jq ‹"z"› m:=by rw [Qk,Pb.hl]
   have sn0:0<=jq ‹"q"› n:=Jt fun i hi=>Pb.n0 i hi;have sh1:=Pb.h1;have sh0:0<jq ‹"z"› m:=Int.lt_of_lt_of_le (Pb.h0 0 h0) (jkD (fun s hs=>Y4 (Pb.h0 s hs)) h0);have hb:∀h∈tD,-18446744073709551616<h/\h<18446744073709551616:=fun h hh=>by
     obtain ⟨s,hs,es⟩:=yu hh;have e:tD.getD s 0=h:=by rw [Ya,Yb hs,es];rfl
     have a:=Pb.h0 s (by rw [<-Pb.hl];exact hs);have b:=jkD (f:=fun s=>tD.getD s 0) (n:=m) (j:=s) (fun s hs=>Y4 (Pb.h0 s hs)) (by rw [<-Pb.hl];exact hs);rw [e] at a;have b':h<=jq ‹"z"› m:=by rw [<-e];exact b
     omega
   obtain ⟨lv,hlv⟩:∃lv,tu.sum/tD.sum=lv:=⟨_,rfl⟩;have l0:0<=lv:=by rw [<-hlv,hsn];exact Int.ediv_nonneg sn0 (by rw [hsh];omega)
   have l1:lv*jq ‹"z"› m<=jq ‹"q"› n:=by rw [<-hsn,<- hsh,<- hlv];exact Int.ediv_mul_le _ (by omega)
   have l2:jq ‹"q"› n<(lv+1)*jq ‹"z"› m:=by rw [<-hsn,<- hsh,<- hlv];exact Int.lt_ediv_add_one_mul_self _ (by omega)
   have tl:∀l:Int,(tD.map (l * ·)).length=m:=fun l=>by rw [Yd];exact Pb.hl
   have F0:Feas n m tu tm (tD.map (lv * ·)) (QY n m):=jiD Pb.r0 Pb.n0 fun s hs=>by rw [jca (by rw [Pb.hl];exact hs)];exact Kx l0 (Y4 (Pb.h0 s hs))
   obtain ⟨d0,⟨P0,M0,rfl,Fl⟩,e0⟩:=jbA Pb.nl Pb.sh (tl lv) F0 hn hm;have F1:Feas n m tu tm (tD.map ((lv+1) * ·)) P0:=⟨Fl.feas.sh,Fl.feas.cell,Fl.feas.row,fun s hs=>by have a:=Fl.feas.col s hs;rw [jca (by rw [Pb.hl];exact hs)] at a ⊢;have:=Pb.h0 s hs;rw [Int.add_mul,Int.one_mul];omega⟩
   obtain ⟨d1,⟨P1,M1,rfl,Fu⟩,e1⟩:=jbA Pb.nl Pb.sh (tl (lv+1)) F1 hn hm;have ez:=jdj Pb.sh hn hm;have le1:qU P1 n<=jq ‹"q"› n:=qA fun i hi=>Fu.feas.row i hi;have bestB:∀{l:Int} {Q0 Q:List (List Int)} {M:List Bool},Fill n m tu tm (tD.map (l * ·)) Q0 Q M->∀mk,qD n m ‹"q"› (jW tm) mk-l*zw m ‹"z"› mk<=qD n m ‹"q"› (jW tm) (zt M true)-l*zw m ‹"z"› (zt M true):=fun {l Q0 Q M} F mk=>by rw [jjN (mk:=zt M true) (mk':=fun s=>M.getD s false) fun s _=>JG M s,jmN (mk:=zt M true) (mk':=fun s=>M.getD s false) fun s _=>JG M s];exact jmx Pb.hl F mk
   have IH:=fun m' needs' rooms' hours' p (c:m'<1000) (a:0<m') (b:m'<=k)=>jdN n hn k m' needs' rooms' hours' p c a b;show ∃d,_/\qQ 3 6 (ja4 (Je 4 8 (qy (zc k)))) _=some d;refine J3 (ρ:=[.sh ‹"f"›,.sh ‹"d"›,.sh ‹"N"›,.un,.un,.un]) _ rfl rfl fun C fin=>?_;unfold ja4;refine jJ [.sh ‹"f"›,.sh ‹"d"›,.sh ‹"N"›,.sh (.int lv),.un,.un] (jO (jj (jw rfl sum_ints) (jw rfl sum_ints) (by rw [qM (by omega) (by omega),hlv]))) ?_;refine jJ ‹"aH"› (jO (jw (jh rfl (jh rfl (jh (qp (jhC (by rw [Pb.hl];omega) hb fun _=>rfl)) (jh (qp (jw rfl ez)) rfl)))) e0)) ?_;have ec:qR (js dLt (js jZ (ja 4) (eC (.int 0))) (js zr (ja 3) (jk Js (jc (ja 2) jl)))) ‹"aH"›=some (decide (qU P0 n<lv*tD.sum)):=j6 (jj (jj rfl rfl JE) (jj rfl (jw rfl sum_ints) (Jl (by omega) (by omega))) J6);by_cases c1:qU P0 n<lv*tD.sum
   . obtain ⟨mh,ml⟩:=jbI Pb Fl (by rw [hsh] at c1;omega) (by rw [hsh] at c1;omega);obtain ⟨d,⟨P,rfl,sP,ev⟩,ed⟩:=jgf Pb hn hm Fl.len (bestB Fl) IH mh ml h1;refine jdO ((jaL (by rw [ec,YX c1])).trans (QR (qp (jw (jh rfl (jh rfl (jh rfl (jh (jj rfl rfl jbo) rfl)))) ed)))) (fin _ ⟨P,rfl,sP,ev⟩)
   . refine jJ ‹"aH"› (zW (by rw [ec,YY c1])) ?_;refine jJ ‹"aI"› (jO (jw (jh rfl (jh rfl (jh (qp (jhC (by rw [Pb.hl];omega) hb fun _=>jj rfl rfl jP)) (jh (jj rfl rfl JF) rfl)))) e1)) ?_;have ec2:qR (js dLt (js jZ (ja 5) (eC (.int 0))) (jk Js (jc (ja 0) jl))) ‹"aI"›=some (decide (qU P1 n<tu.sum)):=j6 (jj (jj rfl rfl JE) (jw rfl sum_ints) J6);by_cases c2:qU P1 n<tu.sum
     . obtain ⟨mh,ml⟩:=jbI Pb Fu (by rw [hsn] at c2;omega) (by omega);obtain ⟨d,⟨P,rfl,sP,ev⟩,ed⟩:=jgf Pb hn hm Fu.len (bestB Fu) IH mh ml h1;refine jdO ((jaL (by rw [ec2,YX c2])).trans (QR (qp (jw (jh rfl (jh rfl (jh rfl (jh (jj rfl rfl jbo) rfl)))) ed)))) (fin _ ⟨P,rfl,sP,ev⟩)
     . refine jJ _ (zW (by rw [ec2,YY c2])) ?_;refine QT (QR (jj rfl rfl JF)) (fin _ ⟨P1,rfl,Fu.feas.sh,?_⟩);have rows:=ZC (f:=fun i=>tu.getD i 0) (g:=zi P1) (n:=n) (fun i hi=>Fu.feas.row i hi) (by rw [hsn] at c2;show _<=qU P1 n;omega);have cols:∀s,s<m->lv*tD.getD s 0=qw P0 s:=ZC (f:=fun s=>lv*tD.getD s 0) (g:=fun s=>qw P0 s) (n:=m) (fun s hs=>by have a:=Fl.feas.col s hs;rw [jca (by rw [Pb.hl];exact hs)] at a;exact a) (by rw [<-jkS Fl.feas.sh,zB];rw [hsh] at c1;omega)
       refine jiT (l:=lv) Pb.n0 Pb.n1 Pb.h0 (fun i hi=>by rw [<-zU Fu.feas.sh hi];exact (rows i hi).symm) Fu.feas.cell (fun s hs=>?_) (fun s hs=>?_)
       . rw [cols s hs];have:=Fu.mono s hs;rw [J5 Fu.feas.sh] at this;exact this
       . have a:=Fu.feas.col s hs;rw [jca (by rw [Pb.hl];exact hs),J5 Fu.feas.sh] at a;exact a
theorem jof {ρ:eg} {x y:Int} {fb fc:eg->Option D} (h1:fb ρ=some (.int x)) (h2:fc ρ=some (.int y)) (h3:0<=x) (h4:x<=y):JK dLe dLe (eC (.int 0)) fb fc ρ=some (.bl true):=by unfold JK eC;simp only [h1,h2,Yt,jeH,YX h3,YX h4]
theorem jf5 {s:Ship} (hs:s.Ok):Qc [jt s]=some (.bl true):=by
 have h1:=hs.lt;have h2:=hs.n0;have h3:=hs.m0;have h4:=hs.n1;have h5:=hs.m1;unfold Qc;refine jaz (ρ:=[.sh (jt s),.un]) rfl rfl fun C fin=>?_;unfold jbp;refine jJ [.sh (jt s),.un] (zW (jro (jfS (b:=true) (j6 rfl)) (j6 (jj (jw rfl rfl) rfl (jsd rfl))))) ?_;have lc:JT (jbM (jr 0)) (jx 0) ‹"k"› (jk jae (jc (jr 0) jl)) 1 [] [.sh (jt s),.un]=some ([true,true,true,true].map D.bl):=by refine qv (jkh rfl) (by show 4<16777216;decide) ?_;exact zH D.int (fun _=>D.bl true) [s.b,s.e,s.n,s.m] fun i _=>⟨[.sh (.int i)],rfl,rfl,rfl⟩
 refine jJ [.sh (jt s),.un] (zW (jfS (b:=true) (j6 (jw (jh (qp lc) rfl) (jh7 _))))) ?_;refine jJ [.sh (jt s),.sh (.int (s.e-s.b))] (jO (jj (jj rfl rfl JF) (jj rfl rfl JE) rfl)) ?_;refine QT (QR (jg5 ((jj rfl rfl jb9).trans (by rw [YX (by omega)])) (jg5 ((jj (jj rfl rfl jck) rfl jhl).trans (by rw [YX (by omega)])) (d:=.bl true) ?_))) fin;exact jof (jj rfl rfl jbo) (jj (jj rfl rfl jck) rfl (QK (by omega) (by omega))) (by omega) (by omega)
theorem jeC {fl:List Ship} (hfl:∀s∈fl,s.Ok) (hl:fl.length<1000):Qo [.lst (fl.map jt)]=some (.bl true):=by
 unfold Qo;refine jaz (ρ:=[.sh ‹"s"›]) rfl rfl fun C fin=>?_;unfold ZZ;have lc:JT (j7 (ja 0)) (jx 0) ‹"k"› (jk Qc (jc (jr 0) jl)) 1 [] [.sh ‹"s"›]=some ((fl.map fun _=>true).map D.bl):=by refine qv (qf rfl) (by rw [Yd];omega) ?_;rw [YF];exact zH jt (D.bl∘fun _=>true) fl fun s hs=>⟨[.sh (jt s)],rfl,rfl,jw rfl (jf5 (hfl s hs))⟩
 refine QT (QR (jg5 rfl (jw (jh (qp lc) rfl) (jh7 _)))) ?_;have:(fl.map fun _=>true).all id=true:=by simp
 rw [this];exact fin
theorem jcg {fl:List Ship} (hfl:∀s∈fl,s.Ok) (hl:fl.length<1000):zD [.lst (fl.map jt)]=some .non:=by unfold zD qQ;rw [if_pos (show ([.lst (fl.map jt)]:List D).length=1 from rfl)];unfold Ji;show jaW (Qa _ _ qj [.sh ‹"s"›])=_;rw [zW (jfS (b:=true) (j6 (jw rfl (jeC hfl hl))))];rfl
def jcL (fl:List Ship):List Int:=(jB fl).map fun p=>p.2-p.1
theorem jd6 {fl:List Ship} {j:Nat} (hj:j<(jB fl).length):(jcL fl).getD j 0=jeU fl j:=by unfold jcL;rw [Ya,List.getElem?_map,J8 hj];rfl
theorem jiQ {fl:List Ship} {s:Ship} (hs:s∈fl) (hk:s.Ok):0<(jB fl).length:=by
 have h1:s.b∈qH fl:=mem_bnds.mpr (Ys _ (YO.mpr ⟨s,hs,rfl⟩));have h2:s.e∈qH fl:=mem_bnds.mpr (YB _ (YO.mpr ⟨s,hs,rfl⟩));have h3:=hk.lt;have hz:=jeL (qH fl);have hl:2<=(qH fl).length:=by
  generalize qH fl=l at h1 h2
  match l,h1,h2 with
  | [x],h1,h2=>have a:=Yq.mp h1;have b:=Yq.mp h2;omega
  | _::_::_,_,_=>simp
 unfold jB;omega
theorem jdK (c:Int):∀n:Nat,jq (fun _=>c) n=n*c
 | 0=>by simp [jq]
 | n+1=>by show jq (fun _=>c) n+c=_;rw [jdK c n,show ((n+1:Nat):Int)=(n:Int)+1 from by omega,Int.add_mul,Int.one_mul]
theorem jmj {fl:List Ship} (hfl:∀s∈fl,s.Ok) (tL:fl.length<=8):Prob fl.length (jB fl).length (jbJ fl) (JX fl) (jcL fl):=by
 have hsl:(jB fl).length<40:=jbc (by omega);refine ⟨Yd _,jft fl,Yd _,fun i hi=>by rw [jbW hi];exact (hfl _ (ZE hi)).n0,fun i hi=>?_,fun i s hi hs=>by rw [jeJ hi hs];exact jk4 (hfl _ (ZE hi)) (Zq (jej hs)).1,fun s hs=>by rw [jd6 hs];exact (jc6 hfl hs).1,?_⟩
 . have e:jq (jW (JX fl) i) (jB fl).length=((jB fl).map (Jg (shp fl i))).sum:=by rw [<-zU (jft fl) hi];unfold zi JX;rw [Ya,List.getElem?_map,Q6 hi];rfl
   rw [e,jbW hi,jiX (ZE hi) (hfl _ (ZE hi))];exact (hfl _ (ZE hi)).n1
 . refine Int.le_trans (qA (g:=fun _=>2000000000000000) fun s hs=>?_) ?_
   . rw [jd6 hs];exact Y4 (jc6 hfl hs).2
   . rw [jdK];omega
theorem jiE {fl:List Ship} (hfl:∀s∈fl,s.Ok) (tL:fl.length<=8) :
 ∃d,(∃P,d=.lst (P.map ji)/\Shape fl.length (jB fl).length P/\jdZ fl.length (jB fl).length (jbJ fl) (JX fl) (jcL fl) P)/\jd8 [.lst (fl.map jt)]=some d:=by
 have hsl:(jB fl).length<=16:=by have:=jcC fl;have:=jeL (qH fl);unfold jB;omega
 have em:=jcg hfl (by omega);have e1:=jdi (fl:=fl) (fun s hs=>jrz (hfl s hs)) (by omega);have e2:=jec (fl:=fl) (by omega);have e3:=jhk (fl:=fl) (by omega);rw [jlT] at e1;unfold jd8;refine J3 (ρ:=[.sh ‹"s"›]) _ rfl rfl fun C fin=>?_;unfold jgZ;refine jJ [.sh ‹"s"›] (by unfold jcb;rw [jw rfl em]) ?_;have ec:qR (js dEq (ja 0) (jN (JQ jl))) [.sh ‹"s"›]=some (fl.map jt).isEmpty:=j6 (jj rfl rfl jh4);cases fl with
 | nil=>refine jdO (d:=.lst []) ((jaL ec).trans (QR rfl)) (fin _ ⟨[],rfl,⟨rfl,fun r hr=>absurd hr YE⟩,⟨fun i hi=>absurd hi (Kl _),fun i s hi=>absurd hi (Kl _),fun k=>⟨fun _=>false,?_⟩⟩⟩);show (0:Int)=0-k*0;omega
 | cons s fl=>have h0:=jiQ (fl:=s::fl) Ye (hfl s Ye);obtain ⟨d,hd,ed⟩:=jdN (s::fl).length (by simp at tL ⊢;omega) 17 _ _ _ _ (jmj hfl tL) (by omega) h0 (by omega);refine jJ [.sh (.lst ((s::fl).map jt))] (zW ec) ?_;exact QT (QR (jw (jh (qp (jw rfl e3)) (jh (qp (jw rfl e1)) (jh (qp (jw rfl e2)) rfl))) ed)) (fin _ hd)
def jbj (fl:List Ship) (P:List (List Int)) (k:Int):Int:=jq (fun j=>jI (qw P j-k*jeU fl j)) (jB fl).length
theorem jjM {fl:List Ship} {P:List (List Int)} (h:PlanOk fl P):Shape fl.length (jB fl).length P/\(∀i,i<fl.length->jq (jW P i) (jB fl).length=(jbJ fl).getD i 0)/\∀i s,i<fl.length->s<(jB fl).length->0<=jW P i s/\jW P i s<=jW (JX fl) i s:=by
 have sh:Shape fl.length (jB fl).length P:=⟨h.len,h.rows⟩;refine ⟨sh,fun i hi=>?_,fun i s hi hs=>?_⟩
 . rw [<-zU sh hi,jbW hi];exact (h.row i _ _ (sh.row hi).1 (Q6 hi)).sum
 . rw [jeJ hi hs];refine (h.row i _ _ (sh.row hi).1 (Q6 hi)).bd s _ _ ?_ (J8 hs);unfold jW;rw [Ya (l:=P.getD i []),Yb (by rw [(sh.row hi).2];exact hs)];rfl
theorem jmH {n m:Nat} {need:Nat->Int} {tI:Nat->Nat->Int} {len:Nat->Int} {Q:Nat->Nat->Int} (row:∀i,i<n->jq (Q i) m=need i) (cell:∀i s,i<n->s<m->0<=Q i s/\Q i s<=tI i s) (mk:Nat->Bool) (k:Int):qD n m need tI mk-k*zw m len mk<=qY n m len Q k:=by
 have h1:qD n m need tI mk<=jq (fun s=>if mk s=true then zV n Q s else 0) m:=by
  have e:jq (fun s=>if mk s=true then zV n Q s else 0) m=jq (fun i=>jq (fun s=>if mk s=true then Q i s else 0) m) n:=by
   rw [JA];refine jf fun s _=>?_;by_cases c:mk s=true
   . rw [if_pos c];exact jf fun i _=>by rw [if_pos c]
   . rw [if_neg c,jQ];intro i _;rw [if_neg c]
  rw [e];refine qA fun i hi=>?_;have r:=row i hi;have sp:jq (Q i) m=jq (fun s=>if mk s=true then Q i s else 0) m+jq (fun s=>if mk s=true then 0 else Q i s) m:=by rw [<-qG];exact jf fun s _=>by split <;> omega
  have le:jq (fun s=>if mk s=true then 0 else Q i s) m<=qS tI m mk i:=qA fun s hs=>by have:=(cell i s hi hs).2;split <;> omega
  have nn:0<=jq (fun s=>if mk s=true then Q i s else 0) m:=Jt fun s hs=>by have:=(cell i s hi hs).1;split <;> omega
  show jI (need i-qS tI m mk i)<=_;unfold jI;split <;> omega
 have h2:jq (fun s=>if mk s=true then zV n Q s else 0) m-k*zw m len mk<=qY n m len Q k:=by
  unfold zw qY;rw [<-zB,<- zQ];refine qA fun s _=>?_;have:=J1 (zV n Q s-k*len s);by_cases c:mk s=true
  . rw [if_pos c,if_pos c];omega
  . rw [if_neg c,if_neg c,Int.mul_zero];omega
 omega
theorem jii {fl:List Ship} {P:List (List Int)} (h:Shape fl.length (jB fl).length P) (k:Int):jbj fl P k=qY fl.length (jB fl).length (fun s=>(jcL fl).getD s 0) (jW P) k:=by unfold jbj qY;refine jf fun s hs=>?_;rw [J5 h,<- jd6 hs];rfl
theorem jlN {fl:List Ship} {E P:List (List Int)} (sE:Shape fl.length (jB fl).length E) (hE:jdZ fl.length (jB fl).length (jbJ fl) (JX fl) (jcL fl) E) (hP:PlanOk fl P) (k:Int):jbj fl E k<=jbj fl P k:=by obtain ⟨sP,r,c⟩:=jjM hP;rw [jii sE,jii sP];obtain ⟨mk,e⟩:=hE.even k;rw [e];exact jmH r c mk k
theorem jmh {fl:List Ship} {E:List (List Int)} (sE:Shape fl.length (jB fl).length E) (row:∀i,i<fl.length->jq (jW E i) (jB fl).length=(jbJ fl).getD i 0) (cell:∀i s,i<fl.length->s<(jB fl).length->0<=jW E i s/\jW E i s<=jW (JX fl) i s):PlanOk fl E:=by
 refine ⟨sE.1,fun i r s hr hs=>?_⟩;have hi:i<fl.length:=by
  rcases YW i fl.length with z | z
  . exact z
  . rw [YC z] at hs;cases hs
 have er:E.getD i []=r:=by rw [Ya,hr];rfl
 have es:shp fl i=s:=by have:=Q6 hi;rw [hs] at this;exact (Option.some.inj this).symm
 refine ⟨sE.2 r (Yz hr),fun j x p hx hp=>?_,?_⟩
 . have hj:j<(jB fl).length:=by
    rcases YW j (jB fl).length with z | z
    . exact z
    . rw [YC z] at hp;cases hp
   have c:=cell i j hi hj;have ex:jW E i j=x:=by unfold jW;rw [er,Ya,hx];rfl
   have ep:spn fl j=p:=by have:=J8 hj;rw [hp] at this;exact (Option.some.inj this).symm
   rw [jeJ hi hj,es,ex,ep] at c;exact c
 . have q:=row i hi;rw [jbW hi,es] at q;rw [<-q,<- er];exact zU sE hi
theorem ji3 {fl:List Ship} {E:List (List Int)} (sE:Shape fl.length (jB fl).length E) (hE:jdZ fl.length (jB fl).length (jbJ fl) (JX fl) (jcL fl) E):PlanOk fl E:=jmh sE hE.row hE.cell
theorem jep:∀{l:List Int},l.Pairwise (· < ·)->∀p∈l.zip l.tail,∀k∈l,k<=p.1\/p.2<=k
 | [],_,p,hp,_,_=>by cases hp
 | [x],_,p,hp,_,_=>by cases hp
 | x::y::l,h,p,hp,k,hk=>by
   have h':=YJ.mp h;rw [Kv,Y9] at hp;rcases Yl.mp hp with rfl | hp'
   . rcases Yl.mp hk with rfl | hk
     . exact .inl (yS _)
     . exact .inr (Zz h'.2 k hk)
   . rcases Yl.mp hk with rfl | hk
     . have q:=Q8 h'.2 p hp';have:=h'.1 p.1 q.2.1;exact .inl (by omega)
     . exact jep h'.2 p hp' k hk
def jjE (many:Int) (p:Int×Int) (h:Int):Int:=many/(p.2-p.1)+if h-p.1<many%(p.2-p.1) then 1 else 0
theorem je4 {many:Int} {p:Int×Int} {h:Int} (h1:p.1<p.2) (h2:p.2-p.1<1606938044258990275541962092341162602522202993782792835301376):jbm [.int many,j9 p,.int h]=some (.int (jjE many p h)):=by
 suffices main:∀C:Res->Prop,C (.ret (.int (jjE many p h)))->C (ZA [.sh (.int many),.sh (j9 p),.sh (.int h),.un,.un]) by exact main (fun r=>jaW r=some (.int (jjE many p h))) rfl
 intro C fin;unfold ZA;have el:=Zh p;refine jJ [.sh (.int many),.sh (j9 p),.sh (.int h),.sh (.int (p.2-p.1)),.un] (by walk_at "ev";simp only [el]) ?_;refine jJ [.sh (.int many),.sh (j9 p),.sh (.int h),.sh (.int (p.2-p.1)),.sh (.int (if h-p.1<many%(p.2-p.1) then 1 else 0))] (by
  unfold j9
  walk_at "ev"
  by_cases c:h-p.1<many%(p.2-p.1)
  . simp only [c,Kz,yC]
  . simp only [c,y9,ym]) ?_
 have last:∀r,r=Res.ret (.int (jjE many p h))->C r:=fun r h=>by rw [h];exact fin
 refine last _ ?_
 walk_at "ev"
 rfl
def plc (h:Int):Nat->List (Int×Int)->Option Nat
 | _,[]=>none
 | i,p::l=>if p.1<=h/\h<p.2 then some i else plc h (i+1) l
def jl6:Option Nat->D
 | some i=>.int i
 | none=>.non
theorem jce (A:Slot) (h:Int):∀(S:List (Int×Int)) (i:Nat) (x y:Slot),∃x' y',JO (JS 2 (jV (jx 2) (jV (jx 3) JU))) (Qa ‹"M"›
 (qE (jr 2)) qj) ((S.zipIdx i).map fun p=>.tup [.int p.2,j9 p.1]) [A,.sh (.int h),x,y]=match plc h i S with | some k=>.ret (.int k) | none=>.next [A,.sh (.int h),x',y']
 | [],i,x,y=>⟨x,y,rfl⟩
 | p::S,i,x,y=>by
   obtain ⟨x',y',ih⟩:=jce A h S (i+1) (.sh (.int i)) (.sh (j9 p));refine ⟨x',y',?_⟩;rw [List.zipIdx_cons,List.map_cons];have step:Qa ‹"M"› (qE (jr 2)) qj [A,.sh (.int h),.sh (.int i),.sh (j9 p)]=if p.1<=h/\h<p.2 then .ret (.int i) else .next [A,.sh (.int h),.sh (.int i),.sh (j9 p)]:=by
     unfold j9
     walk_at "ev"
     by_cases c1:p.1<=h
     . by_cases c2:h<p.2
       . simp only [c1,c2,Kz,and_self,yC]
       . simp only [c1,c2,Kz,y9,and_false,ym]
     . simp only [c1,y9,false_and,ym]
   have tgt:JS 2 (jV (jx 2) (jV (jx 3) JU)) (.tup [.int i,j9 p]) [A,.sh (.int h),x,y]=some [A,.sh (.int h),.sh (.int i),.sh (j9 p)]:=rfl;simp only [JO,tgt,step,plc];by_cases c:p.1<=h/\h<p.2
   . simp only [c,and_self,yC]
   . simp only [c,ym];exact ih
theorem jgP {S:List (Int×Int)} {h:Int}:Z6 [.lst (S.map j9),.int h]=some (jl6 (plc h 0 S)):=by
 obtain ⟨x',y',e⟩:=jce (.sh (.lst (S.map j9))) h S 0 .un .un;have en:J7 (jc (jr 0) jl) [.sh (.lst (S.map j9)),.sh (.int h),.un,.un]=some ((S.zipIdx 0).map fun p=>.tup [.int p.2,j9 p.1]):=by show some (QN (S.map j9))=_;unfold QN;rw [List.zipIdx_map,YF];rfl
 show jaW (QJ [.sh (.lst (S.map j9)),.sh (.int h),.un,.un])=_;unfold QJ;simp only [jz,zT,en,e];cases plc h 0 S with
 | some k=>rfl
 | none=>rfl
theorem jgJ (h:Int):∀(i:Nat) (S:List (Int×Int)),(∃k p,plc h i S=some (i+k)/\S[k]?=some p/\p.1<=h/\h<p.2)\/(plc h i S=none/\∀p∈S,¬(p.1<=h/\h<p.2))
 | i,[]=>.inr ⟨rfl,by simp⟩
 | i,p::S=>by
   by_cases c:p.1<=h/\h<p.2
   . exact .inl ⟨0,p,by simp [plc,c],rfl,c.1,c.2⟩
   . rcases jgJ h (i+1) S with ⟨k,q,h1,h2,h3⟩ | ⟨h1,h2⟩
     . exact .inl ⟨k+1,q,by simp only [plc,c,ym,h1];congr 1;omega,by simpa using h2,h3⟩
     . refine .inr ⟨by simp only [plc,c,ym,h1],fun q hq=>?_⟩;rcases Yl.mp hq with rfl | hq
       . exact c
       . exact h2 q hq
def QQ (fl:List Ship) (P:List (List Int)) (h:Int):Int:=match plc h 0 (jB fl) with
 | some k=>jjE (qw P k) ((jB fl).getD k (0,0)) h
 | none=>0
theorem jiP {fl:List Ship} (hfl:∀s∈fl,s.Ok) (tL:fl.length<=8) {P:List (List Int)} (hP:PlanOk fl P) {h:Int}:jg8 [.lst (fl.map jt),.lst (P.map ji),.int h]=some (.int (QQ fl P h)):=by
 suffices main:∀C:Res->Prop,C (.ret (.int (QQ fl P h)))->C (jd7 [.sh ‹"s"›,.sh ‹"O"›,.sh (.int h),.un,.un]) by exact main (fun r=>jaW r=some (.int (QQ fl P h))) rfl
 intro C fin;have est:=JJ fl (by omega);have hrows:=hP.rows;have hPl:=hP.len;have hsh:∀p∈jB fl,_:=fun p hp=>jgX hfl hp;have epl:=jgP (S:=jB fl) (h:=h);have last:∀r,r=Res.ret (.int (QQ fl P h))->C r:=fun r h=>by rw [h];exact fin
 unfold jd7;unfold QQ at *
 refine jJ [.sh ‹"s"›,.sh ‹"O"›,.sh (.int h),.sh (.lst ((jB fl).map j9)),.un] (by walk_at "ev";simp only [est];walk_at "ev") ?_;refine jJ [.sh ‹"s"›,.sh ‹"O"›,.sh (.int h),.sh (.lst ((jB fl).map j9)),.sh (jl6 (plc h 0 (jB fl)))] (by walk_at "ev";simp only [epl]) ?_;rcases jgJ h 0 (jB fl) with ⟨k,p,e1,e2,e3,e4⟩ | ⟨e1,_⟩
 . rw [Kk] at e1;rw [e1] at last ⊢;have hp:=hsh p (Yz e2);have hk:k<(jB fl).length:=(Yi.mp e2).1;have et:=ZX (P:=P) (j:=k) (fun r hr=>by rw [hrows r hr];exact hk) (by omega);have ef:=je4 (many:=qw P k) (h:=h) hp.1 hp.2;have ds:jZ (.lst ((jB fl).map j9)) (.int k)=some (j9 p):=jhF (by omega) (by rw [Ym];exact e2);refine jJ [.sh ‹"s"›,.sh ‹"O"›,.sh (.int h),.sh (.lst ((jB fl).map j9)),.sh (.int k)] (by unfold jl6;walk_at "ev") ?_;refine last _ ?_
   walk_at "ev"
   simp only [et,ds]
   walk_at "ev"
   simp only [ef];rw [Ya,e2];rfl
 . rw [e1] at last ⊢;exact jdO (d:=.int 0) (by unfold jl6;walk_at "ev") (last _ rfl)
theorem jkX:∀{l:List Int},l.Pairwise (· < ·)->(l.zip l.tail).Pairwise fun p q=>p.2<=q.1
 | [],_=>List.Pairwise.nil
 | [x],_=>List.Pairwise.nil
 | x::y::l,h=>by have h':=YJ.mp h;rw [Kv,Y9];refine YJ.mpr ⟨fun q hq=>?_,jkX h'.2⟩;have z:=Q8 h'.2 q hq;exact Zz h'.2 q.1 z.2.1
theorem jfI {fl:List Ship} {i j:Nat} (hi:i<(jB fl).length) (hj:j<(jB fl).length) (h:i<j):(spn fl i).2<=(spn fl j).1:=by have p:=yR.mp (jkX (JB fl)) i j hi hj h;have a:=J8 hi;have b:=J8 hj;rw [Yb hi] at a;rw [Yb hj] at b;rw [<-Option.some.inj a,<- Option.some.inj b];exact p
def Jx (f:Int->Int) (a b:Int):Int:=jq (fun t=>f (a+(t:Int))) (b-a).toNat
theorem jcn (f:Nat->Int) (k:Nat):∀d:Nat,jq f (k+d)=jq f k+jq (fun t=>f (k+t)) d
 | 0=>by show jq f k=jq f k+0;omega
 | d+1=>by show jq f (k+d)+f (k+d)=jq f k+(jq (fun t=>f (k+t)) d+f (k+d));rw [jcn f k d];omega
theorem jbU (f:Int->Int) {a b c:Int} (h1:a<=b) (h2:b<=c):Jx f a c=Jx f a b+Jx f b c:=by
 unfold Jx;rw [show (c-a).toNat=(b-a).toNat+(c-b).toNat by omega,jcn];congr 1;exact jf fun t _=>by show f (a+(((b-a).toNat+t:Nat):Int))=f (b+(t:Int));congr 1;omega
theorem joj {f g:Int->Int} {a b:Int} (h:∀x,a<=x->x<b->f x<=g x):Jx f a b<=Jx g a b:=qA fun t ht=>h _ (by omega) (by omega)
theorem jbl {f g:Int->Int} {a b:Int} (h:∀x,a<=x->x<b->f x=g x):Jx f a b=Jx g a b:=jf fun t ht=>h _ (by omega) (by omega)
theorem jaG {f:Int->Int} {a b:Int} (h:∀x,a<=x->x<b->f x=0):Jx f a b=0:=jQ fun t ht=>h _ (by omega) (by omega)
theorem Z0 (c:Int):∀n:Nat,jq (fun _=>c) n=c*n
 | 0=>by show (0:Int)=c*0;omega
 | n+1=>by show jq (fun _=>c) n+c=_;rw [Z0 c n,show ((n+1:Nat):Int)=(n:Int)+1 from by omega,Int.mul_add,Int.mul_one]
theorem Zx (c:Int) {a b:Int} (h:a<=b):Jx (fun _=>c) a b=c*(b-a):=by unfold Jx;rw [Z0,show (((b-a).toNat:Nat):Int)=b-a by omega]
theorem jm2 (f:Int->Int) (k:Int) {a b:Int} (h:a<=b):jI (Jx f a b-k*(b-a))<=Jx (fun x=>jI (f x-k)) a b:=by
 have e1:Jx f a b-k*(b-a)<=Jx (fun x=>jI (f x-k)) a b:=by rw [<-Zx k h];unfold Jx;rw [<-zQ];exact qA fun t _=>(J1 _).2
 have e2:0<=Jx (fun x=>jI (f x-k)) a b:=Jt fun t _=>(J1 _).1;generalize Jx (fun x=>jI (f x-k)) a b=y at e1 e2 ⊢;unfold jI;split <;> omega
theorem jf9 (f:Int->Int):∀(x:Int) (l:List Int),(x::l).Pairwise (· < ·)->∃M,M∈x::l/\(∀z∈x::l,x<=z/\z<=M)/\(((x::l).zip l).map fun p=>Jx f p.1 p.2).sum=Jx f x M
 | x,[],_=>⟨x,Ye,fun z hz=>by rw [Yq.mp hz];omega,by show (0:Int)=Jx f x x;unfold Jx;rw [Int.sub_self];rfl⟩
 | x,y::l,h=>by
   have h':=YJ.mp h;have hxy:=h'.1 y Ye;obtain ⟨M,hM,hz,e⟩:=jf9 f y l h'.2;have hy:=hz y Ye;refine ⟨M,Yk _ hM,fun z hz'=>?_,?_⟩
   . rcases Yl.mp hz' with rfl | hz'
     . omega
     . have:=hz z hz';omega
   . rw [Y9,List.map_cons,List.sum_cons,e];exact (jbU f (Y4 hxy) hy.2).symm
theorem jbg {fl:List Ship} (f:Int->Int) {F L:Int} (hF:F∈qH fl) (hL:L∈qH fl) (hb:∀x∈qH fl,F<=x/\x<=L):jq (fun j=>Jx f (spn fl j).1 (spn fl j).2) (jB fl).length=Jx f F L:=by
 have em:=Zs (fun p:Int×Int=>Jx f p.1 p.2) (0,0) (jB fl);show jq (fun j=>(fun p:Int×Int=>Jx f p.1 p.2) ((jB fl).getD j (0,0))) (jB fl).length=_;rw [<-em];have r:=JB fl;unfold jB;cases hbd:qH fl with
 | nil=>rw [hbd] at hF;cases hF
 | cons x l=>rw [hbd] at r hF hL hb;obtain ⟨M,hM,hz,e⟩:=jf9 f x l r;have a:=hz F hF;have b:=hb x Ye;have c:=hz L hL;have d:=hb M hM;rw [Kv,e,show x=F by omega,show M=L by omega]
theorem jkp {q r l p k:Int} (hl:0<=l) (hr:0<=r) (hrl:r<=l):Jx (fun h=>jI (q+(if h-p<r then 1 else 0)-k)) p (p+l)=jI (q-k)*(l-r)+jI (q+1-k)*r:=by rw [jbU _ (b:=p+r) (by omega) (by omega),jbl (a:=p) (b:=p+r) (g:=fun _=>jI (q+1-k)) fun x h1 h2=>by rw [if_pos (by omega)],jbl (a:=p+r) (b:=p+l) (g:=fun _=>jI (q-k)) fun x h1 h2=>by rw [if_neg (by omega),KC],Zx _ (by omega),Zx _ (by omega)];rw [show p+r-p=r by omega,show p+l-(p+r)=l-r by omega];omega
theorem jkA {T l k:Int} (hl:0<l):jI (T/l-k)*(l-T%l)+jI (T/l+1-k)*(T%l)=jI (T-k*l):=by
 have e:=Int.mul_ediv_add_emod T l;have m0:=yo T (show l≠0 by omega);have m1:=Y3 T hl;generalize T/l=q at e;generalize T%l=r at e m0 m1;have e2:T-k*l=l*(q-k)+r:=by rw [<-e,Int.mul_sub,Int.mul_comm k l];omega
 rw [e2];by_cases c:k<=q
 . have p1:jI (q-k)=q-k:=by unfold jI;split <;> omega
   have p2:jI (q+1-k)=q-k+1:=by unfold jI;split <;> omega
   have nn:=Kx (Y4 hl) (show 0<=q-k by omega);have p3:jI (l*(q-k)+r)=l*(q-k)+r:=by unfold jI;split <;> omega
   rw [p1,p2,p3,Int.mul_sub,Int.add_mul,Int.one_mul,Int.mul_comm (q-k) l];omega
 . have p1:jI (q-k)=0:=by unfold jI;split <;> omega
   have p2:jI (q+1-k)=0:=by unfold jI;split <;> omega
   have nn:=Int.mul_le_mul_of_nonneg_left (show q-k <= -1 by omega) (Y4 hl);have p3:jI (l*(q-k)+r)=0:=by unfold jI;split <;> omega
   rw [p1,p2,p3,Int.zero_mul,Int.zero_mul];rfl
theorem jcu {fl:List Ship} (hfl:∀s∈fl,s.Ok) {P:List (List Int)} {F L:Int} (hF:F∈qH fl) (hL:L∈qH fl) (hb:∀x∈qH fl,F<=x/\x<=L) (k:Int):Jx (fun h=>jI (QQ fl P h-k)) F L=jbj fl P k:=by
 rw [<-jbg _ hF hL hb];refine jf fun j hj=>?_;have hl:=(jc6 hfl hj).1;have e:=J8 hj;have at_:∀h,(spn fl j).1<=h->h<(spn fl j).2->QQ fl P h=jjE (qw P j) (spn fl j) h:=fun h h1 h2=>by
  unfold QQ;rcases jgJ h 0 (jB fl) with ⟨k,p,e1,e2,e3,e4⟩ | ⟨e1,no⟩
  . rw [Kk] at e1;have hk:k<(jB fl).length:=(Yi.mp e2).1;have ek:k=j:=by
      have q:=J8 hk;rw [e2] at q;have ep:=Option.some.inj q;rcases KP k j with z | z | z
      . have:=jfI hk hj z;rw [ep] at e4;omega
      . exact z
      . have:=jfI hj hk z;rw [ep] at e3;omega
    rw [e1];subst ek;dsimp only;rfl
  . exact absurd ⟨h1,h2⟩ (no _ (Yz e))
 rw [jbl (g:=fun h=>jI (qw P j/jeU fl j+(if h-(spn fl j).1<qw P j%jeU fl j then 1 else 0)-k)) fun h h1 h2=>by rw [at_ h h1 h2];rfl];have e2:(spn fl j).2=(spn fl j).1+jeU fl j:=by unfold jeU;omega
 rw [e2,jkp (Y4 hl) (yo _ (by omega)) (Y4 (Y3 _ hl)),jkA hl]
structure HRow (s:Ship) (r:List Int):Prop where
 len:(r.length:Int)=s.e-s.b
 bd:∀t,t<r.length->0<=r.getD t 0/\r.getD t 0<=s.m
 sum:r.sum=s.n
def Xf (q:Ship×List Int) (h:Int):Int:=if q.1.b<=h/\h<q.1.e then q.2.getD (h-q.1.b).toNat 0 else 0
theorem jkT (f g:Int->Int) (a b:Int):Jx (fun x=>f x+g x) a b=Jx f a b+Jx g a b:=by unfold Jx;rw [<-qG]
theorem jk9 (Z:List (Ship×List Int)) (a b:Int):Jx (fun h=>(Z.map fun q=>Xf q h).sum) a b=(Z.map fun q=>Jx (Xf q) a b).sum:=by
 induction Z with
 | nil=>exact jaG fun x _ _=>rfl
 | cons q Z ih=>rw [List.map_cons,List.sum_cons,<- ih,<- jkT];rfl
theorem jhj {q:Ship×List Int} {x:Int} (h:¬(q.1.b<=x/\x<q.1.e)):Xf q x=0:=if_neg h
theorem jpv {s:Ship} {r:List Int} (h:HRow s r) (hs:s.Ok) {F L:Int} (hF:F<=s.b) (hL:s.e<=L):Jx (Xf (s,r)) F L=s.n:=by have lt:=hs.lt;rw [jbU _ (b:=s.b) hF (by omega),jbU _ (a:=s.b) (b:=s.e) (by omega) hL,jaG (f:=Xf (s,r)) (a:=F) (b:=s.b) fun x h1 h2=>jhj (by show ¬(s.b<=x/\x<s.e);omega),jaG (f:=Xf (s,r)) (a:=s.e) (b:=L) fun x h1 h2=>jhj (by show ¬(s.b<=x/\x<s.e);omega),KS,KC,<- h.sum,Qk];unfold Jx;have e:=h.len;rw [show (s.e-s.b).toNat=r.length by omega];refine jf fun t ht=>?_;unfold Xf;rw [if_pos (by show s.b<=s.b+(t:Int)/\s.b+(t:Int)<s.e;omega)];show r.getD (s.b+(t:Int)-s.b).toNat 0=_;rw [show (s.b+(t:Int)-s.b).toNat=t by omega]
theorem jrh {s:Ship} {r:List Int} (h:HRow s r) (hs:s.Ok) (x:Int):0<=Xf (s,r) x/\Xf (s,r) x<=s.m:=by
 have m0:=hs.m0;have e:=h.len;unfold Xf;dsimp only;split
 . exact h.bd _ (by omega)
 . omega
def je8 (fl:List Ship) (Rw:List (List Int)):List (List Int):=(fl.zip Rw).map fun q=>(jB fl).map fun p=>Jx (Xf q) p.1 p.2
theorem jiF {fl:List Ship} (hfl:∀s∈fl,s.Ok) {Rw:List (List Int)} (hR:Rw.length=fl.length) (hr:∀(i:Nat) s r,fl[i]?=some s->Rw[i]?=some r->HRow s r) {F L:Int} (hF:F∈qH fl) (hL:L∈qH fl) (hb:∀x∈qH fl,F<=x/\x<=L):PlanOk fl (je8 fl Rw):=by
 unfold je8;refine ⟨by rw [Yd,yZ];omega,fun i r' s h1 h2=>?_⟩;rw [List.getElem?_map] at h1;cases hz:(fl.zip Rw)[i]? with
 | none=>rw [hz] at h1;cases h1
 | some q=>
   rw [hz] at h1;cases h1;have hq:=YQ.mp hz;have e1:q.1=s:=by rw [h2] at hq;exact (Option.some.inj hq.1).symm
   have hrow:=hr i q.1 q.2 hq.1 hq.2;have hs:q.1∈fl:=Yz hq.1;have ok:=hfl _ hs;have bb:q.1.b∈qH fl:=mem_bnds.mpr (Ys _ (yt hs));have be:q.1.e∈qH fl:=mem_bnds.mpr (YB _ (yt hs));rw [<-e1];refine ⟨Yd _,fun j x p hx hp=>?_,?_⟩
   . rw [List.getElem?_map,hp] at hx;cases hx;have pm:=Yz hp;have lt:=(Zq pm).1;have g1:=jep (JB fl) p pm _ bb;have g2:=jep (JB fl) p pm _ be;have bd:=jrh hrow ok;unfold Jg;by_cases c:q.1.b<=p.1/\p.2<=q.1.e
     . rw [if_pos c];refine ⟨Jt fun t _=>(bd _).1,?_⟩;rw [<-Zx q.1.m (Y4 lt)];exact joj fun x _ _=>(bd x).2
     . rw [if_neg c];show 0<=Jx (Xf q) p.1 p.2/\Jx (Xf q) p.1 p.2<=0;rw [jaG (f:=Xf q) fun x h1 h2=>jhj (by have:=ok.lt;omega)];omega
   . rw [show ((jB fl).map fun p=>Jx (Xf q) p.1 p.2).sum=Jx (Xf q) F L from by rw [Zs (fun p:Int×Int=>Jx (Xf q) p.1 p.2) (0,0) (jB fl)];exact jbg (Xf q) hF hL hb]
     exact jpv hrow ok (hb _ bb).1 (hb _ be).2
theorem jlv {fl:List Ship} {Rw:List (List Int)} {j:Nat} (hj:j<(jB fl).length):qw (je8 fl Rw) j=Jx (fun h=>((fl.zip Rw).map fun q=>Xf q h).sum) (spn fl j).1 (spn fl j).2:=by unfold qw je8;rw [YF,jk9];refine congrArg List.sum (Kd fun q _=>?_);show ((jB fl).map fun p=>Jx (Xf q) p.1 p.2).getD j 0=_;rw [Ya,List.getElem?_map,J8 hj];rfl
theorem jgD {fl:List Ship} (hfl:∀s∈fl,s.Ok) {Rw:List (List Int)} {F L:Int} (hF:F∈qH fl) (hL:L∈qH fl) (hb:∀x∈qH fl,F<=x/\x<=L) (k:Int):jbj fl (je8 fl Rw) k<=Jx (fun h=>jI (((fl.zip Rw).map fun q=>Xf q h).sum-k)) F L:=by rw [<-jbg _ hF hL hb];refine qA fun j hj=>?_;rw [jlv hj];exact jm2 _ k (Y4 (Zq (jej hj)).1)
theorem jfh {R:List Int} {x:Int} {t:Nat}:(R++[x]).getD t 0=if t<R.length then R.getD t 0 else if t=R.length then x else 0:=by
 rw [Ya,Ya];by_cases h:t<R.length
 . rw [if_pos h,Yw h]
 . rw [if_neg h,Yy (by omega)];by_cases e:t=R.length
   . rw [if_pos e,e,Ka];rfl
   . rw [if_neg e,YC (by show 1<=_;omega)];rfl
theorem jcr {R:List Int} {a t:Nat} {v:Int} (ha:a<R.length):(R.set a v).getD t 0=if a=t then v else R.getD t 0:=by
 rw [Ya,Ya];by_cases h:a=t
 . subst h;rw [if_pos rfl,Y2 ha];rfl
 . rw [if_neg h,YM h]
theorem jgp {s:Ship} (hs:s.Ok) (near:s.e-s.b<=5) {cells:List Int} (hc0:0<cells.length) (hc1:cells.length<1000) {st:Int} (st0:0<=st) (st1:st<1000):∃d,(∃r:List Int,d=r.map D.int/\HRow s r)/\Jv [jt s,.lst (cells.map D.int),.int st]=some d:=by
 have lt:=hs.lt;have m0:=hs.m0;have m1:=hs.m1;have n0:=hs.n0;have n1:=hs.n1;obtain ⟨N,hN⟩:∃N:Nat,s.e-s.b=(N:Int):=⟨(s.e-s.b).toNat,by omega⟩;have el:JP [.lst (cells.map D.int)]=some (.int (cells.length:Int)):=by show some (D.int ((cells.map D.int).length:Int))=_;rw [Yd]
 unfold Jv;refine jes (ρ:=[.sh (jt s),.sh ‹"o"›,.sh (.int st),.un,.un,.un,.un,.un,.un,.un,.un,.un,.un,.un]) _ rfl rfl fun C fin=>?_;unfold Qx;refine jJ [.sh (jt s),.sh ‹"o"›,.sh (.int st),.sh (.int s.b),.sh (.int s.e),.sh (.int s.n),.sh (.int s.m),.un,.un,.un,.un,.un,.un,.un] rfl ?_;refine jJ [.sh (jt s),.sh ‹"o"›,.sh (.int st),.sh (.int s.b),.sh (.int s.e),.sh (.int s.n),.sh (.int s.m),.sh (.int s.n),.un,.un,.un,.un,.un,.un] rfl ?_;refine jJ [.sh (jt s),.sh ‹"o"›,.sh (.int st),.sh (.int s.b),.sh (.int s.e),.sh (.int s.n),.sh (.int s.m),.sh (.int s.n),.ow [],.un,.un,.un,.un,.un] rfl ?_;have er:∀{l r z9 z10 z11 z12 z13:Slot},QW (jc (js qX (ja 4) (ja 3)) jl) [.sh (jt s),.sh ‹"o"›,.sh (.int st),.sh (.int s.b),.sh (.int s.e),.sh (.int s.n),.sh (.int s.m),l,r,z9,z10,z11,z12,z13]=some ((List.range N).map fun j:Nat=>D.int (j:Int)):=by intro l r z9 z10 z11 z12 z13;rw [Qm (j:=(N:Int)) (jh (by rw [jj rfl rfl ql,hN]) rfl) (by omega) (by omega),Ym,jaf]
 refine Z4 (fun j:Nat=>D.int (j:Int)) N (fun j ρ=>∃(R:List Int) (left:Int) (z9 z10 z11:Slot),R.length=j/\(∀t,t<j->0<=R.getD t 0/\R.getD t 0<=s.m)/\left=s.n-R.sum/\0<=left/\ρ=[.sh (jt s),.sh ‹"o"›,.sh (.int st),.sh (.int s.b),.sh (.int s.e),.sh (.int s.n),.sh (.int s.m),.sh (.int left),.ow (R.map D.int),z9,z10,z11,.un,.un])
  er ⟨[],s.n,_,_,_,rfl,fun t ht=>absurd ht (Kl _),by show s.n=s.n-0;omega,n0,rfl⟩ ?_ ?_
 . rintro j ρ hj ⟨R,left,z9,z10,z11,hR,hb,hl,l0,rfl⟩;obtain ⟨cl,_,ec⟩:=jcv (ns:=cells) (i:=(st+(j:Int))%cells.length) (yo _ (by omega)) (Y3 _ (by omega));have cm:=yo (cl/4) (show s.m+1≠0 by omega);have cm':=Y3 (cl/4) (show 0<s.m+1 by omega);obtain ⟨sm,hsm,es⟩:=jcv (ns:=[0,s.m,cl/4%(s.m+1),s.m/2]) (i:=cl%4) (by omega) (by show cl%4<4;omega);have sm0:0<=sm/\sm<=s.m:=by simp only [Yl,YE,Kh] at hsm;rcases hsm with rfl | rfl | rfl | rfl <;> omega
   clear hsm;obtain ⟨x,hx⟩:∃x:Int,(if sm<left then sm else left)=x:=⟨_,rfl⟩;have x01:0<=x/\x<=left/\x<=s.m:=by rw [<-hx];split <;> omega
   have dx:jZ (.lst ((R++[x]).map D.int)) (.int (j:Int))=some (.int x):=by rw [Jb (by rw [YD];show j<R.length+1;omega),jfh,if_neg (by omega),if_pos hR.symm]
   refine ⟨[.sh (jt s),.sh ‹"o"›,.sh (.int st),.sh (.int s.b),.sh (.int s.e),.sh (.int s.n),.sh (.int s.m),.sh (.int left),.ow (R.map D.int),.sh (.int (j:Int)),z10,z11,.un,.un],[.sh (jt s),.sh ‹"o"›,.sh (.int st),.sh (.int s.b),.sh (.int s.e),.sh (.int s.n),.sh (.int s.m),.sh (.int (left-x)),.ow ((R++[x]).map D.int),.sh (.int (j:Int)),.sh (.int cl),.sh (.int sm),.un,.un],rfl,?_,R++[x],left-x,_,_,_,by rw [YD,hR];rfl,fun t ht=>?_,?_,by omega,rfl⟩
   . refine (j8 (ρ':=[.sh (jt s),.sh ‹"o"›,.sh (.int st),.sh (.int s.b),.sh (.int s.e),.sh (.int s.n),.sh (.int s.m),.sh (.int left),.ow (R.map D.int),.sh (.int (j:Int)),.sh (.int cl),z11,.un,.un]) (jO (jj rfl (jj (jj rfl rfl jP) (jw rfl el) (jL (by omega))) ec))).trans ?_;refine (j8 (ρ':=[.sh (jt s),.sh ‹"o"›,.sh (.int st),.sh (.int s.b),.sh (.int s.e),.sh (.int s.n),.sh (.int s.m),.sh (.int left),.ow (R.map D.int),.sh (.int (j:Int)),.sh (.int cl),.sh (.int sm),.un,.un]) (jO (jj (qp (jgr (l:=[0,s.m,cl/4%(s.m+1),s.m/2].map D.int) (jh rfl (jh rfl (jh (jj (jj rfl rfl (qM (by decide) (by decide))) (jj rfl rfl jP) (jL (by omega))) (jh (jj rfl rfl (qM (by decide) (by decide))) rfl)))) (show 4<16777216 by decide))) (jj rfl rfl (jL (by decide))) es))).trans ?_;refine (j8 (ρ':=[.sh (jt s),.sh ‹"o"›,.sh (.int st),.sh (.int s.b),.sh (.int s.e),.sh (.int s.n),.sh (.int s.m),.sh (.int left),.ow ((R++[x]).map D.int),.sh (.int (j:Int)),.sh (.int cl),.sh (.int sm),.un,.un]) ?_).trans (jO (jj rfl (jj rfl rfl dx) ql));rw [YT];exact jkF (ds:=R.map D.int) rfl (jw (jh rfl (jh rfl rfl)) (by show some (D.int (if sm<left then sm else left))=_;rw [hx])) (by rw [Yd];omega)
   . rw [jfh];by_cases c:t<R.length
     . rw [if_pos c];exact hb t (by omega)
     . rw [if_neg c,if_pos (by omega)];omega
   . rw [K4];show left-x=s.n-(R.sum+(x+0));omega
 rintro ρ ⟨R0,left0,z9,z10,z11,hR0,hb0,hl0,l00,rfl⟩;obtain ⟨cc,_,ecc⟩:=jcv (ns:=cells) (i:=st%cells.length) (yo _ (by omega)) (Y3 _ (by omega));refine Z4 (fun j:Nat=>D.int (j:Int)) N (fun j ρ=>∃(R:List Int) (left:Int) (z9 z12 z13:Slot),R.length=N/\(∀t,t<N->0<=R.getD t 0/\R.getD t 0<=s.m)/\left=s.n-R.sum/\0<=left/\(∀q:Nat,q<j->0<left->∀a:Nat,((q:Int)+cc)%(N:Int)=(a:Int)->R.getD a 0=s.m)/\ρ=[.sh (jt s),.sh ‹"o"›,.sh (.int st),.sh (.int s.b),.sh (.int s.e),.sh (.int s.n),.sh (.int s.m),.sh (.int left),.ow (R.map D.int),z9,z10,z11,z12,z13])
  er ⟨R0,left0,_,_,_,hR0,hb0,hl0,l00,fun q hq=>absurd hq (Kl _),rfl⟩ ?_ ?_
 . rintro j ρ hj ⟨R,left,z9,z12,z13,hR,hb,hl,l0,vis,rfl⟩;have a0:=yo ((j:Int)+cc) (show (N:Int)≠0 by omega);have a1:=Y3 ((j:Int)+cc) (show (0:Int)<(N:Int) by omega);obtain ⟨a,ha⟩:∃a:Nat,((j:Int)+cc)%(N:Int)=(a:Int):=⟨(((j:Int)+cc)%(N:Int)).toNat,by omega⟩;rw [ha] at a0 a1;have haR:a<R.length:=by omega
   have ba:=hb a (by omega);have da:=Jb (l:=R) (i:=a) haR;have ga:R[a]?=some (R.getD a 0):=by rw [Ya,Yb haR];rfl
   obtain ⟨x,hx⟩:∃x:Int,(if s.m-R.getD a 0<left then s.m-R.getD a 0 else left)=x:=⟨_,rfl⟩;have x01:0<=x/\x<=left/\x<=s.m-R.getD a 0/\(x=s.m-R.getD a 0\/x=left):=by rw [<-hx];split <;> omega
   have hix:ixN (R.map D.int).length (a:Int)=some a:=by unfold ixN;rw [if_pos (by omega),if_pos (by rw [Yd];omega),Ym]
   refine ⟨[.sh (jt s),.sh ‹"o"›,.sh (.int st),.sh (.int s.b),.sh (.int s.e),.sh (.int s.n),.sh (.int s.m),.sh (.int left),.ow (R.map D.int),.sh (.int (j:Int)),z10,z11,z12,z13],[.sh (jt s),.sh ‹"o"›,.sh (.int st),.sh (.int s.b),.sh (.int s.e),.sh (.int s.n),.sh (.int s.m),.sh (.int (left-x)),.ow ((R.set a (R.getD a 0+x)).map D.int),.sh (.int (j:Int)),z10,z11,.sh (.int (a:Int)),.sh (.int x)],rfl,?_,R.set a (R.getD a 0+x),left-x,_,_,_,by rw [KI];exact hR,fun t ht=>?_,?_,by omega,fun q hq pos b hb'=>?_,rfl⟩
   . refine (j8 (ρ':=[.sh (jt s),.sh ‹"o"›,.sh (.int st),.sh (.int s.b),.sh (.int s.e),.sh (.int s.n),.sh (.int s.m),.sh (.int left),.ow (R.map D.int),.sh (.int (j:Int)),z10,z11,.sh (.int (a:Int)),z13]) (jO (by rw [jj (jj rfl (jj rfl (jj rfl (jw rfl el) (jL (by omega))) ecc) jP) (jj rfl rfl ql) (jL (by omega)),hN,ha]))).trans ?_;refine (j8 (ρ':=‹"aE"›) (jO (jw (jh rfl (jh (jj rfl (jj rfl rfl da) ql) rfl)) (by show some (D.int (if s.m-R.getD a 0<left then s.m-R.getD a 0 else left))=_;rw [hx])))).trans ?_;refine (j8 (ρ':=[.sh (jt s),.sh ‹"o"›,.sh (.int st),.sh (.int s.b),.sh (.int s.e),.sh (.int s.n),.sh (.int s.m),.sh (.int left),.ow ((R.set a (R.getD a 0+x)).map D.int),.sh (.int (j:Int)),z10,z11,.sh (.int (a:Int)),.sh (.int x)]) ?_).trans (jO (jj rfl rfl ql));have ev:js qL (js jZ (ja 8) (ja 12)) (ja 13) ‹"aE"›=some (.int (R.getD a 0+x)):=jj (jj rfl rfl da) rfl jP;unfold jdv;rw [ev];dsimp only [jr,List.getElem?_cons_succ,List.getElem?_cons_zero];rw [hix,List.map_set];rfl
   . rw [jcr haR];by_cases c:a=t
     . rw [if_pos c];omega
     . rw [if_neg c];exact hb t ht
   . rw [jhG R a _ (R.getD a 0+x) ga];omega
   . rw [jcr haR];by_cases c:a=b
     . rw [if_pos c];omega
     . rw [if_neg c];rcases YW q j with z | z
       . exact vis q z (by omega) b hb'
       . rw [show q=j by omega,ha] at hb';omega
 . rintro ρ ⟨R,left,z9,z12,z13,hR,hb,hl,l0,vis,rfl⟩;have hz:left=0:=by
    refine Classical.byContradiction fun hz=>?_;have all:∀t,t<R.length->R.getD t 0=s.m:=fun t ht=>by have q0:=yo ((t:Int)-cc) (show (N:Int)≠0 by omega);have q1:=Y3 ((t:Int)-cc) (show (0:Int)<(N:Int) by omega);refine vis (((t:Int)-cc)%(N:Int)).toNat (by omega) (by omega) t ?_;rw [show (((((t:Int)-cc)%(N:Int)).toNat:Nat):Int)=((t:Int)-cc)%(N:Int) by omega,Int.emod_add_emod,Int.sub_add_cancel,Int.emod_eq_of_lt (by omega) (by omega)]
    have sm:R.sum=s.m*(N:Int):=by rw [Qk,jf (g:=fun _=>s.m) all,Z0,hR]
    rw [hN] at n1;omega
   exact QT rfl (fin _ ⟨R,rfl,by rw [hR,hN],fun t ht=>hb t (by omega),by omega⟩)
theorem jrx {i:Nat} {F:FS} {ρ ρ1:eg} {r:Res} (e:frz i ρ=ρ1) (h:F ρ1=r):jeB i F ρ=r:=by unfold jeB;rw [e];exact h
theorem jmo {L:List Int} (h:L≠[]):∃v,v∈L/\(∀a∈L,a<=v)/\jge [.lst (L.map D.int)]=some (.int v):=by
 cases em:jfp L with
 | none=>exact absurd (je9 em) h
 | some v=>obtain ⟨a,b⟩:=jex em;refine ⟨v,a,b,?_⟩;show ((QP (L.map D.int)).bind fun ns=>(jfp ns).map D.int)=_;rw [Qb,Yt,em];rfl
theorem jfK {s:Ship} {r:List Int}:∀{fl:List Ship} {Rw:List (List Int)},fl[Rw.length]?=some s->fl.zip (Rw++[r])=fl.zip Rw++[(s,r)]
 | [],Rw,h=>by cases h
 | a::fl,[],h=>by cases h;show (s,r)::fl.zip []=[(s,r)];rw [List.zip_nil_right]
 | a::fl,b::Rw,h=>by show (a,b)::fl.zip (Rw++[r])=(a,b)::(fl.zip Rw++[(s,r)]);rw [jfK (show fl[Rw.length]?=some s from h)]
theorem jf0 {l:List Int} {g:Int->Int} {F L:Int} (hl:l.length=(L-F).toNat) (h:∀t,t<l.length->l.getD t 0=g (F+(t:Int))) (k:Int):(l.map fun x=>jI (x-k)).sum=Jx (fun x=>jI (g x-k)) F L:=by rw [Zs (fun x=>jI (x-k)) 0 l];unfold Jx;rw [<-hl];exact jf fun t ht=>by rw [h t ht]
abbrev QM (ns:List Int) (c:Int) (z2 z3:Slot) (cells:List Int) (F L:Int) (z7 z8 z9 z10 z11 z12 z13:Slot):eg:=[.sh (.scr ns),.sh (.int c),z2,z3,.sh ‹"o"›,.sh (.int F),.sh (.int L),z7,z8,z9,z10,z11,z12,z13]
theorem ji0 (ns:List Int) {C:Res->Prop} {F':FS} {c:Int} (k:∀(fl:List Ship) (z3:Slot),fl.length=(1+c%4).toNat->(∀s∈fl,s.Ok/\s.e-s.b<=5 /\ -2<=s.b/\s.b<=3)->C (F' [.sh (.scr ns),.sh (.int c),.ow (fl.map jt),z3,.un,.un,.un,.un,.un,.un,.un,.un,.un,.un])) :
 C (jz (zT (QW (jc (js qL (eC (.int 1)) (js qV (ja 1) (eC (.int 4)))) jl)) (jx 3)
   (QE 2 (jk zd (jc (jk qm (jc (jr 0) (jc (js qL (eC (.int 1)) (js zr (eC (.int 2)) (ja 3))) jl))) (jc (jk qm (jc (jr 0) (jc (js qL (eC (.int 2)) (js zr (eC (.int 2)) (ja 3))) jl))) (jc (eC (.int 0)) jl)))))) F' [.sh (.scr ns),.sh (.int c),.ow [],.un,.un,.un,.un,.un,.un,.un,.un,.un,.un,.un]):=by
 refine Z4 (fun j:Nat=>D.int (j:Int)) (1+c%4).toNat (fun j ρ=>∃(fl:List Ship) (z3:Slot),fl.length=j/\(∀s∈fl,s.Ok/\s.e-s.b<=5 /\ -2<=s.b/\s.b<=3)/\ρ=[.sh (.scr ns),.sh (.int c),.ow (fl.map jt),z3,.un,.un,.un,.un,.un,.un,.un,.un,.un,.un])
  (by rw [Qm (j:=1+c%4) (jh (jj rfl (jj rfl rfl (jL (by decide))) jP) rfl) (by omega) (by omega),jaf]) ⟨[],_,rfl,fun s hs=>absurd hs YE,rfl⟩ ?_ (fun ρ ⟨fl,z3,h1,h2,h3⟩=>by rw [h3];exact k fl z3 h1 h2)
 rintro j ρ hj ⟨fl,z3,h1,h2,rfl⟩;have e1:=jgL ns (1+2*(j:Int)) (by omega);have e2:=jgL ns (2+2*(j:Int)) (by omega);obtain ⟨s,hs,near,es⟩:=jm3 (cell ns (1+2*(j:Int))) (cell ns (2+2*(j:Int)));refine ⟨[.sh (.scr ns),.sh (.int c),.ow (fl.map jt),.sh (.int (j:Int)),.un,.un,.un,.un,.un,.un,.un,.un,.un,.un],[.sh (.scr ns),.sh (.int c),.ow ((fl++[s]).map jt),.sh (.int (j:Int)),.un,.un,.un,.un,.un,.un,.un,.un,.un,.un],rfl,?_,_,_,by rw [YD,h1];rfl,fun t ht=>?_,rfl⟩
 . rw [YT];exact jkF (ds:=fl.map jt) rfl (jw (jh (jw (jh rfl (jh (jj rfl (jj rfl rfl (QK (by decide) (by decide))) jP) rfl)) e1) (jh (jw (jh rfl (jh (jj rfl (jj rfl rfl (QK (by decide) (by decide))) jP) rfl)) e2) (jh rfl rfl))) es) (by rw [Yd];omega)
 . rcases YL.mp ht with ht | ht
   . exact h2 t ht
   . rw [Yq.mp ht];exact ⟨hs,near⟩
theorem jlw (ns:List Int) (hns:ns.length<=63):jni [.scr ns]=some (.bl true):=by
 have ec:=jgL ns 0 (by omega);obtain ⟨cs,ecs,hcs⟩:=jlB ns (some 10) (some 63);have ecat:=jr7 (cs:=cs) (by omega);refine jaz (m:=jhO) (ρ:=[.sh (.scr ns),.un,.un,.un,.un,.un,.un,.un,.un,.un,.un,.un,.un,.un]) rfl rfl ?_;intro C fin;unfold jhO;generalize cell ns 0=c at ec;refine jJ [.sh (.scr ns),.sh (.int c),.un,.un,.un,.un,.un,.un,.un,.un,.un,.un,.un,.un] (jO (jw rfl ec)) ?_;refine jJ [.sh (.scr ns),.sh (.int c),.ow [],.un,.un,.un,.un,.un,.un,.un,.un,.un,.un,.un] rfl ?_;refine ji0 ns fun fl z3 hn hall=>?_;have hfl:∀s∈fl,s.Ok:=fun s hs=>(hall s hs).1;have hl4:fl.length<=4:=by omega
 have hl1:0<fl.length:=by omega
 have hcl:(cs++[0]).length<1000/\0<(cs++[0]).length:=by rw [YD];show cs.length+1<1000/\0<cs.length+1;omega
 refine jJ [.sh (.scr ns),.sh (.int c),.ow (fl.map jt),z3,.sh (.lst ((cs++[0]).map D.int)),.un,.un,.un,.un,.un,.un,.un,.un,.un] (Qy (jj (qp (show eSl (ja 0) (pSo (eC (.int 10))) (pSo (eC (.int 63))) _=some (cs.map D.int) by show some (L2.jbT (ns.map D.int) (some 10) (some 63))=_;rw [ecs])) rfl ecat)) ?_;generalize cs++[0]=cells at hcl;have nb:fl.map (·.b)≠[]:=fun z=>by rw [List.map_eq_nil_iff] at z;rw [z] at hl1;exact YV _ hl1
 have ne:fl.map (·.e)≠[]:=fun z=>by rw [List.map_eq_nil_iff] at z;rw [z] at hl1;exact YV _ hl1
 obtain ⟨F,hF,hF',eF⟩:=jh5 nb;obtain ⟨L,hL,hL',eL⟩:=jmo ne;have bF:F∈qH fl:=mem_bnds.mpr (Ys _ hF);have bL:L∈qH fl:=mem_bnds.mpr (YB _ hL);have hs1:∀s∈fl,F<=s.b/\s.e<=L:=fun s hs=>⟨hF' _ (yt hs),hL' _ (yt hs)⟩;have hb:∀x∈qH fl,F<=x/\x<=L:=fun x hx=>by
  rw [mem_bnds] at hx;rcases YL.mp hx with z | z
  . obtain ⟨s,hs,rfl⟩:=YO.mp z;have:=hs1 s hs;have:=(hfl s hs).lt;omega
  . obtain ⟨s,hs,rfl⟩:=YO.mp z;have:=hs1 s hs;have:=(hfl s hs).lt;omega
 have FL:F<L/\L-F<=20 /\ -2<=F/\F<=3:=by obtain ⟨s,hs,rfl⟩:=YO.mp hF;obtain ⟨t,ht,rfl⟩:=YO.mp hL;have a:=hall s hs;have b:=hall t ht;have:=hs1 s hs;have:=a.1.lt;omega
 obtain ⟨N,hN⟩:∃N:Nat,L-F=(N:Int):=⟨(L-F).toNat,by omega⟩;refine jJ [.sh (.scr ns),.sh (.int c),.ow (fl.map jt),z3,.sh ‹"o"›,.sh (.int F),.un,.un,.un,.un,.un,.un,.un,.un] (jO (jw (jh (qp (l:=(fl.map (·.b)).map D.int) (qv (qf rfl) (by rw [Yd];omega) (by rw [YF];exact zH jt _ fl fun s _=>⟨[.sh (jt s)],rfl,rfl,jj rfl rfl JE⟩))) rfl) eF)) ?_;refine jJ (QM ns c ‹"ab"› z3 cells F L .un .un .un .un .un .un .un) (jO (jw (jh (qp (l:=(fl.map (·.e)).map D.int) (qv (qf rfl) (by rw [Yd];omega) (by rw [YF];exact zH jt _ fl fun s _=>⟨[.sh (jt s)],rfl,rfl,jj rfl rfl JF⟩))) rfl) eL)) ?_;have erN:∀{z7 z8 z9 z10 z11 z12 z13:Slot},QW (jc (js qX (ja 6) (ja 5)) jl) (QM ns c ‹"ab"› z3 cells F L z7 z8 z9 z10 z11 z12 z13)=some ((List.range N).map fun j:Nat=>D.int (j:Int)):=by intro z7 z8 z9 z10 z11 z12 z13;rw [Qm (j:=(N:Int)) (jh (by rw [jj rfl rfl ql,hN]) rfl) (by omega) (by omega),Ym,jaf]
 refine jJ (QM ns c ‹"ab"› z3 cells F L (.ow (((List.range N).map fun _=>(0:Int)).map D.int)) .un .un .un .un .un .un) (by have lc:=qv (m:=jx 0) (ft:=fun _=>some true) (fe:=eC (.int 0)) (n:=1) (ix:=[]) (erN (z7:=.un) (z8:=.un) (z9:=.un) (z10:=.un) (z11:=.un) (z12:=.un) (z13:=.un)) (by rw [Yd,KQ];omega) (zH (fun j:Nat=>D.int (j:Int)) (fun _=>D.int 0) (List.range N) fun j _=>⟨[.sh (.int (j:Int))],rfl,rfl,rfl⟩);unfold Jo;rw [lc,YF];rfl) ?_
 have z0:∀t,t<N->((List.range N).map fun _=>(0:Int)).getD t 0=0:=fun t ht=>by rw [Ya,List.getElem?_map,yj ht];rfl
 have elen:JP [.lst (fl.map jt)]=some (.int (fl.length:Int)):=by show some (D.int ((fl.map jt).length:Int))=_;rw [Yd]
 refine Z4 (fun j:Nat=>D.int (j:Int)) fl.length (fun j ρ=>∃(Rw:List (List Int)) (Dr:List Int) (z8 z9 z10 z11:Slot),Rw.length=j/\(∀(i:Nat) s r,fl[i]?=some s->Rw[i]?=some r->HRow s r)/\Dr.length=N/\(∀t,t<N->Dr.getD t 0=((fl.zip Rw).map fun q=>Xf q (F+(t:Int))).sum)/\ρ=QM ns c ‹"ab"› z3 cells F L ‹"7"› z8 z9 z10 z11 .un .un)
  (by rw [Qm (j:=(fl.length:Int)) (jh (jw rfl elen) rfl) (by omega) (by omega),Ym,jaf]) ⟨[],_,_,_,_,_,rfl,(fun i s r _ h=>by cases h),by rw [Yd,KQ],fun t ht=>by rw [z0 t ht,List.zip_nil_right];rfl,rfl⟩ ?_ ?_
 . rintro j ρ hj ⟨Rw,Dr,z8,z9,z10,z11,hRl,hR,hDl,hD,rfl⟩;have gs:fl[j]?=some (shp fl j):=Q6 hj;have hsm:=ZE hj;generalize shp fl j=s at gs hsm;have hs:=hall s hsm;have hFs:=hs1 s hsm;have lt:=hs.1.lt;have ds:jZ ‹"s"› (.int (j:Int))=some (jt s):=jhF (by omega) (by rw [Ym];exact gs);obtain ⟨_,⟨r,rfl,hr⟩,er⟩:=jgp hs.1 hs.2.1 hcl.2 hcl.1 (st:=11*(j:Int)) (by omega) (by omega);have rl:=hr.len;have el:JP [.lst (r.map D.int)]=some (.int (r.length:Int)):=by show some (D.int ((r.map D.int).length:Int))=_;rw [Yd]
   refine ⟨QM ns c ‹"ab"› z3 cells F L ‹"7"› (.sh (.int (j:Int))) z9 z10 z11 .un .un,?_⟩;obtain ⟨ρ2,h2,D2,y10,y11,hD2,hv,rfl⟩:=jgV (fi:=QW (jc (jk JP (jc (ja 9) jl)) jl)) (m:=jx 10) (B:=jz (jM 11 (js qL (js qX (js jZ (js jZ (ja 2) (ja 8)) (eC (.int 0))) (ja 5)) (ja 10))) (jdv 7 (jr 11) (js qL (js jZ (ja 7) (ja 11)) (js jZ (ja 9) (ja 10)))))
    (ρ:=QM ns c ‹"ab"› z3 cells F L ‹"7"› (.sh (.int (j:Int))) ‹"3"› z10 z11 .un .un)
    (fun j:Nat=>D.int (j:Int)) r.length (fun h ρ=>∃(D2:List Int) (y10 y11:Slot),D2.length=N/\(∀t,t<N->D2.getD t 0=Dr.getD t 0+(if s.b<=F+(t:Int)/\F+(t:Int)<s.b+(h:Int) then r.getD (F+(t:Int)-s.b).toNat 0 else 0))/\ρ=QM ns c ‹"ab"› z3 cells F L (.ow (D2.map D.int)) (.sh (.int (j:Int))) ‹"3"› y10 y11 .un .un)
    (by rw [Qm (j:=(r.length:Int)) (jh (jw rfl el) rfl) (by omega) (by omega),Ym,jaf]) ⟨Dr,_,_,hDl,fun t _=>by rw [if_neg (by omega)];omega,rfl⟩ (by
      rintro h ρ hh ⟨D2,y10,y11,hD2,hv,rfl⟩;obtain ⟨a,ha⟩:∃a:Nat,s.b-F+(h:Int)=(a:Int):=⟨(s.b-F+(h:Int)).toNat,by omega⟩;have haN:a<N:=by omega
      have haD:a<D2.length:=by omega
      have da:=Jb (l:=D2) (i:=a) haD;have dr:=Jb (l:=r) (i:=h) hh;have hix:ixN (D2.map D.int).length (a:Int)=some a:=by unfold ixN;rw [if_pos (by omega),if_pos (by rw [Yd];omega),Ym]
      refine ⟨QM ns c ‹"ab"› z3 cells F L (.ow (D2.map D.int)) (.sh (.int (j:Int))) ‹"3"› (.sh (.int (h:Int))) y11 .un .un,QM ns c ‹"ab"› z3 cells F L (.ow ((D2.set a (D2.getD a 0+r.getD h 0)).map D.int)) (.sh (.int (j:Int))) ‹"3"› (.sh (.int (h:Int))) (.sh (.int (a:Int))) .un .un,rfl,?_,D2.set a (D2.getD a 0+r.getD h 0),_,_,by rw [KI];exact hD2,fun t ht=>?_,rfl⟩
      . refine (j8 (ρ':=QM ns c ‹"ab"› z3 cells F L (.ow (D2.map D.int)) (.sh (.int (j:Int))) ‹"3"› (.sh (.int (h:Int))) (.sh (.int (a:Int))) .un .un) (jO (by rw [jj (jj (jj (jj rfl rfl ds) rfl JE) rfl ql) rfl jP,ha]))).trans ?_;have ev:js qL (js jZ (ja 7) (ja 11)) (js jZ (ja 9) (ja 10)) (QM ns c ‹"ab"› z3 cells F L (.ow (D2.map D.int)) (.sh (.int (j:Int))) ‹"3"› (.sh (.int (h:Int))) (.sh (.int (a:Int))) .un .un)=some (.int (D2.getD a 0+r.getD h 0)):=jj (jj rfl rfl da) (jj rfl rfl dr) jP;unfold jdv;rw [ev];dsimp only [jr,QM,List.getElem?_cons_succ,List.getElem?_cons_zero];rw [hix,List.map_set];rfl
      . rw [jcr haD];by_cases q:a=t
        . subst q;rw [if_pos rfl,hv a ht,if_neg (by omega),if_pos (by omega),show (F+(a:Int)-s.b).toNat=h by omega];omega
        . rw [if_neg q,hv t ht];congr 1;by_cases q2:s.b<=F+(t:Int)/\F+(t:Int)<s.b+(h:Int)
          . rw [if_pos q2,if_pos (by omega)]
          . rw [if_neg q2,if_neg (by omega)])
   refine ⟨_,rfl,(j8 (ρ':=QM ns c ‹"ab"› z3 cells F L ‹"7"› (.sh (.int (j:Int))) ‹"3"› z10 z11 .un .un) (Qy (jw (jh (jj rfl rfl ds) (jh rfl (jh (jj rfl rfl (QK (by decide) (by decide))) rfl))) er))).trans h2,Rw++[r],D2,_,_,_,_,by rw [YD,hRl];rfl,fun i s' r' h1 h2'=>?_,hD2,fun t ht=>?_,rfl⟩
   . rcases YW i Rw.length with z | z
     . rw [Yw z] at h2';exact hR i s' r' h1 h2'
     . rw [Yy z] at h2';rcases YW (i-Rw.length) 1 with y | y
       . have ei:i=j:=by omega
         subst ei;rw [show i-Rw.length=0 by omega] at h2';cases h2';rw [gs] at h1;cases h1;exact hr
       . rw [YC (by show 1<=_;exact y)] at h2';cases h2'
   . rw [jfK (by rw [hRl];exact gs),YT,K4,hv t ht,hD t ht];show _+_=_+(Xf (s,r) (F+(t:Int))+0);unfold Xf;dsimp only;rw [KC,show s.b+(r.length:Int)=s.e by omega]
 rintro ρ ⟨Rw,Dr,z8,z9,z10,z11,hRl,hR,hDl,hD,rfl⟩;obtain ⟨d,⟨E,rfl,sE,hE⟩,ee⟩:=jiE hfl (by omega);have pE:=ji3 sE hE;have pH:=jiF hfl hRl hR bF bL hb;have le:∀k,Jx (fun h=>jI (QQ fl E h-k)) F L<=Jx (fun h=>jI (((fl.zip Rw).map fun q=>Xf q h).sum-k)) F L:=fun k=>by rw [jcu hfl bF bL hb k];exact Int.le_trans (jlN sE hE pH k) (jgD hfl bF bL hb k)
 refine jJ (QM ns c ‹"ab"› z3 cells F L ‹"7"› z8 z9 z10 z11 (.sh (.lst (E.map ji))) .un) (jO (jw (jh (qp (jw (f:=Zr) rfl rfl)) rfl) ee)) ?_;obtain ⟨Tl,hTl⟩:∃Tl:List Int,Tl=(List.range N).map fun t:Nat=>QQ fl E (F+(t:Int)):=⟨_,rfl⟩;have tl:Tl.length=N:=by rw [hTl,Yd,KQ]
 have tv:∀t,t<N->Tl.getD t 0=QQ fl E (F+(t:Int)):=fun t ht=>by rw [hTl,Ya,List.getElem?_map,yj ht];rfl
 refine jJ (QM ns c (.sh ‹"s"›) z3 cells F L ‹"7"› z8 z9 z10 z11 (.sh (.lst (E.map ji))) (.sh (.lst (Tl.map D.int)))) (jrx rfl (Qy (qv (ds:=(List.range N).map fun j:Nat=>D.int (F+(j:Int))) ?_ (by rw [Yd,KQ];omega) ?_))) ?_
 . unfold jkj;rw [jh rfl (jh rfl rfl)];dsimp only;rw [if_pos ⟨by omega,by omega,by omega,by omega⟩,hN,Ym];rfl
 . rw [hTl,YF];refine zH (fun j:Nat=>D.int (F+(j:Int))) _ (List.range N) fun t _=>⟨[.sh (.int (F+(t:Int))),.sh (.lst (E.map ji)),.sh ‹"s"›],rfl,rfl,?_⟩;exact jw (jh (qp (jw (f:=Zr) rfl rfl)) (jh rfl (jh rfl rfl))) (jiP hfl (by omega) pE)
 have sums:∀(l:List Int) (i:Nat) (k:Int) (ρ:eg),l.length=N->ja i ρ=some (.lst (l.map D.int))->ρ[3]?=some (.sh (.int k))->jk Js (jc (jN (JT (j7 (ja i)) (jx 0) ‹"k"› ‹"ae"› 1 [3])) jl) ρ=some (.int (l.map fun x=>jI (x-k)).sum):=fun l i k ρ h1 h2 h3=>by
  refine jw (jh (qp (l:=(l.map fun x=>jI (x-k)).map D.int) (qv (qf h2) (by rw [Yd];omega) ?_)) rfl) sum_ints;have eb:zE 1 [3] ρ=[.un,.sh (.int k)]:=by show [Slot.un]++[match ρ[3]? with | some (Slot.sh d)=>Slot.sh d | _=>Slot.un]=_;rw [h3];rfl
  rw [eb,YF];exact zH D.int _ l fun x _=>⟨[.sh (.int x),.sh (.int k)],rfl,rfl,jw (jh rfl (jh (jj rfl rfl ql) rfl)) rfl⟩
 refine jj5 D.int (([0]++Dr)++Dr.map (· + 1)) (fun _ ρ=>∃z3,ρ=QM ns c (.sh ‹"s"›) z3 cells F L ‹"7"› z8 z9 z10 z11 (.sh (.lst (E.map ji))) (.sh (.lst (Tl.map D.int)))) ?_ ⟨_,rfl⟩ ?_ ?_
 . refine qf (qp (jj (qp (l:=([0]++Dr).map D.int) (jj rfl rfl ?_)) (qp (l:=(Dr.map (· + 1)).map D.int) (qv (qf rfl) (by rw [Yd];omega) (by rw [YF];exact zH D.int _ Dr fun x _=>⟨[.sh (.int x)],rfl,rfl,jj rfl rfl jP⟩))) ?_))
   . show (if ([D.int 0]).length+(Dr.map D.int).length<=sizeLine then some ([D.int 0]++Dr.map D.int) else none)=_;rw [if_pos (by rw [Yd,KO];show 1+_<=_;omega)];rfl
   . show (if (([0]++Dr).map D.int).length+((Dr.map (· + 1)).map D.int).length<=sizeLine then some (([0]++Dr).map D.int++(Dr.map (· + 1)).map D.int) else none)=_;rw [if_pos (by rw [Yd,Yd,Yd,YD,KO];show 1+_+_<=_;omega),<- YT]
 . rintro pre k q ρ _ ⟨y3,rfl⟩;have e1:=sums Tl 13 k ‹"aK"› tl rfl rfl;have e2:=sums Dr 7 k ‹"aK"› hDl rfl rfl;refine ⟨QM ns c (.sh ‹"s"›) (.sh (.int k)) cells F L ‹"7"› z8 z9 z10 z11 (.sh (.lst (E.map ji))) (.sh (.lst (Tl.map D.int))),_,rfl,zW (j6 (jj e1 e2 (jrr ?_))),_,rfl⟩;rw [jf0 (g:=QQ fl E) (F:=F) (L:=L) (by omega) (fun t ht=>tv t (by omega)) k,jf0 (g:=fun h=>((fl.zip Rw).map fun q=>Xf q h).sum) (F:=F) (L:=L) (by omega) (fun t ht=>hD t (by omega)) k];exact le k
 . rintro ρ ⟨y3,rfl⟩;exact QT (QR rfl) fin
end Q
section
namespace Q
open PySem PySem.Spec PyProof.Rows L2
def top (i:Nat):Stmt:=PySem.Challenge.pw_evenquay_k42_whole_no_hours_are_evener.main.body.getD i (.Pass ⟨0,0,0,0⟩)
abbrev qN:Stmt:=top 50
abbrev Ja:Stmt:=top 10
abbrev zJ:Stmt:=top 11
abbrev za:Stmt:=top 12
abbrev qF:Stmt:=top 13
abbrev qZ:Stmt:=top 38
abbrev Zm:Stmt:=top 40
abbrev Qg:Stmt:=top 41
abbrev Zu:Stmt:=top 30
abbrev Zv:Stmt:=top 31
abbrev Qi:Stmt:=top 32
abbrev Jf:Stmt:=top 35
abbrev Qh:Stmt:=top 33
abbrev JY:Stmt:=top 22
abbrev zj:Stmt:=top 34
abbrev qT:Stmt:=top 36
abbrev qP:Stmt:=top 29
abbrev jG:Stmt:=top 42
abbrev zC:Stmt:=top 43
abbrev zb:Stmt:=top 20
abbrev zu:Stmt:=top 14
abbrev zF:Stmt:=top 15
abbrev Qd:Stmt:=top 16
abbrev ja8:Stmt:=top 17
abbrev qK:Stmt:=top 18
abbrev qJ:Stmt:=top 19
abbrev jbb:Stmt:=top 44
abbrev zg:Stmt:=top 53
abbrev zZ:Stmt:=top 46
abbrev Jz:Stmt:=top 47
abbrev jbi:Stmt:=top 48
abbrev zN:Stmt:=top 51
abbrev zM:Stmt:=top 54
theorem ar1 {α:Type} {P:List α->Prop} (h:∀v0:α,P [v0]):∀us:List α,us.length=1->P us
 | [v0],_=>h v0
theorem ar2 {α:Type} {P:List α->Prop} (h:∀v0 v1:α,P [v0,v1]):∀us:List α,us.length=2->P us
 | [v0,v1],_=>h v0 v1
theorem ar3 {α:Type} {P:List α->Prop} (h:∀v0 v1 v2:α,P [v0,v1,v2]):∀us:List α,us.length=3->P us
 | [v0,v1,v2],_=>h v0 v1 v2
theorem ar4 {α:Type} {P:List α->Prop} (h:∀v0 v1 v2 v3:α,P [v0,v1,v2,v3]):∀us:List α,us.length=4->P us
 | [v0,v1,v2,v3],_=>h v0 v1 v2 v3
set_option genSizeOf false
set_option genInjectivity false
structure Adr where
 ub:Addr
 ua:FuncData
 uS:Addr
 uV:FuncData
 va:Addr
 u9:FuncData
 uP:Addr
 uW:FuncData
 tW:Addr
 tX:FuncData
 uU:Addr
 uR:FuncData
 wL:Addr
 wI:FuncData
 vF:Addr
 vL:FuncData
 wg:Addr
 wc:FuncData
 wo:Addr
 vW:FuncData
 vp:Addr
 vo:FuncData
 vB:Addr
 vC:FuncData
 vn:Addr
 vt:FuncData
 wa:Addr
 wj:FuncData
 uq:Addr
 um:FuncData
 vG:Addr
 vP:FuncData
 uJ:Addr
 uA:FuncData
 ud:Addr
 ug:FuncData
 uD:Addr
 uH:FuncData
 uO:Addr
 uN:FuncData
 vI:Addr
 vD:FuncData
 uE:Addr
 uF:FuncData
 vH:Addr
 vA:FuncData
 w5:Addr
 wZ:FuncData
 uT:Addr
 uY:FuncData
 uv:Addr
 uu:FuncData
 wX:Addr
 wW:FuncData
 uo:Addr
 ur:FuncData
 uX:Addr
 uM:FuncData
 vb:Addr
 vc:FuncData
 rg:Addr
 ra:FuncData
 uz:Addr
 uI:FuncData
 rn:Addr
 rh:FuncData
 t_NEED:Tok
 t_MOST:Tok
 t_END:Tok
 t_BEGIN:Tok
 t_OFF:Tok
 t_SHIP:Tok
 t_PART:Tok
 t_MANY:Tok
 t_MARKS:Tok
 t_TO:Tok
 t_FROM:Tok
structure Txt (K:PySem.W.Frag) (mg:Str->Option Value) (A:Adr):Prop where
 tR:Fun K "_law_cell_at" "_law_cell_at" qN A.ub A.ua
 uc:Binds K A.ua ["script","k"] []
 uf:mg "_law_cell_at"=some (.ref A.ub)
 vO:Fun K "is_whole" "is_whole" Ja A.uS A.uV
 wQ:Binds K A.uV ["thing"] []
 wV:mg "is_whole"=some (.ref A.uS)
 vS:Fun K "is_ship" "is_ship" zJ A.va A.u9
 rz:Binds K A.u9 ["thing"] []
 rA:mg "is_ship"=some (.ref A.va)
 vE:Fun K "is_fleet" "is_fleet" za A.uP A.uW
 wU:Binds K A.uW ["thing"] []
 wH:mg "is_fleet"=some (.ref A.uP)
 uw:Fun K "must_be_fleet" "must_be_fleet" qF A.tW A.tX
 vh:Binds K A.tX ["thing"] []
 vi:mg "must_be_fleet"=some (.ref A.tW)
 vw:Fun K "bound_in" "bound_in" qZ A.uU A.uR
 rf:Binds K A.uR ["need","rooms","marks"] []
 rb:mg "bound_in"=some (.ref A.uU)
 vN:Fun K "kept" "kept" Zm A.wL A.wI
 v5:Binds K A.wI ["numbers","marks","mark"] []
 vZ:mg "kept"=some (.ref A.wL)
 wB:Fun K "joined" "joined" Qg A.vF A.vL
 rK:Binds K A.vL ["marked","others","marks"] []
 rP:mg "joined"=some (.ref A.vF)
 rj:Fun K "mover" "mover" Zu A.wg A.wc
 rY:Binds K A.wc ["rooms","part","off","on"] []
 rX:mg "mover"=some (.ref A.wg)
 rm:Fun K "reach" "reach" Zv A.wo A.vW
 r8:Binds K A.vW ["rooms","part","begun"] []
 rZ:mg "reach"=some (.ref A.wo)
 wG:Fun K "way_to" "way_to" Qi A.vp A.vo
 rL:Binds K A.vo ["moves","end"] []
 rQ:mg "way_to"=some (.ref A.vp)
 wy:Fun K "behind" "behind" Jf A.vB A.vC
 rU:Binds K A.vC ["part","way","many"] []
 rG:mg "behind"=some (.ref A.vB)
 wF:Fun K "put_in" "put_in" Qh A.vn A.vt
 rM:Binds K A.vt ["needs","rooms","part"] []
 rN:mg "put_in"=some (.ref A.vn)
 vj:Fun K "total" "total" JY A.wa A.wj
 wm:Binds K A.wj ["plan","place"] []
 vX:mg "total"=some (.ref A.wa)
 u4:Fun K "most_along" "most_along" zj A.uq A.um
 vU:Binds K A.um ["needs","rooms","part","way"] []
 v8:mg "most_along"=some (.ref A.uq)
 vv:Fun K "filled" "filled" qT A.vG A.vP
 wD:Binds K A.vP ["needs","rooms","tops","part"] []
 wz:mg "filled"=some (.ref A.vG)
 vg:Fun K "no_cranes" "no_cranes" qP A.uJ A.uA
 wA:Binds K A.uA ["rooms"] []
 wx:mg "no_cranes"=some (.ref A.uJ)
 uh:Fun K "evened_apart" "evened_apart" jG A.ud A.ug
 uB:Binds K A.ug ["needs","rooms","hours","marks"] []
 uG:mg "evened_apart"=some (.ref A.ud)
 u3:Fun K "evened" "evened" zC A.uD A.uH
 vK:Binds K A.uH ["needs","rooms","hours"] []
 vx:mg "evened"=some (.ref A.uD)
 vM:Fun K "needs_of" "needs_of" zb A.uO A.uN
 wK:Binds K A.uN ["fleet"] []
 wM:mg "needs_of"=some (.ref A.uO)
 wt:Fun K "bounds" "bounds" zu A.vI A.vD
 rS:Binds K A.vD ["fleet"] []
 rO:mg "bounds"=some (.ref A.vI)
 ui:Fun K "stretches" "stretches" zF A.uE A.uF
 ux:Binds K A.uF ["fleet"] []
 uC:mg "stretches"=some (.ref A.uE)
 uZ:Fun K "length" "length" Qd A.vH A.vA
 vz:Binds K A.vA ["stretch"] []
 vy:mg "length"=some (.ref A.vH)
 rD:Fun K "room" "room" ja8 A.w5 A.wZ
 sk:Binds K A.wZ ["ship","stretch"] []
 su:mg "room"=some (.ref A.w5)
 vk:Fun K "rooms_of" "rooms_of" qK A.uT A.uY
 wR:Binds K A.uY ["fleet"] []
 wN:mg "rooms_of"=some (.ref A.uT)
 u5:Fun K "lengths_of" "lengths_of" qJ A.uv A.uu
 we:Binds K A.uu ["fleet"] []
 vV:mg "lengths_of"=some (.ref A.uv)
 rJ:Fun K "even" "even" jbb A.wX A.wW
 si:Binds K A.wW ["fleet"] []
 sr:mg "even"=some (.ref A.wX)
 u0:Fun K "_law_hours" "_law_hours" zg A.uo A.ur
 v9:Binds K A.ur ["ship","cells","start"] []
 vY:mg "_law_hours"=some (.ref A.uo)
 vJ:Fun K "place_of" "place_of" zZ A.uX A.uM
 wY:Binds K A.uM ["spans","hour"] []
 wO:mg "place_of"=some (.ref A.uX)
 vT:Fun K "falling" "falling" Jz A.vb A.vc
 rB:Binds K A.vc ["many","span","hour"] []
 rC:mg "falling"=some (.ref A.vb)
 rV:Fun K "load" "load" jbi A.rg A.ra
 sx:Binds K A.ra ["fleet","plan","hour"] []
 se:mg "load"=some (.ref A.rg)
 vf:Fun K "_law_ship" "_law_ship" zN A.uz A.uI
 wq:Binds K A.uI ["one","two","kind"] []
 wC:mg "_law_ship"=some (.ref A.uz)
 sy:Fun K "law" "law" zM A.rn A.rh
 sF:Binds K A.rh ["script"] []
 sD:mg "law"=some (.ref A.rn)
 rT:mg "NEED"=some (.int 2 A.t_NEED)
 w6:mg "MOST"=some (.int 3 A.t_MOST)
 rE:mg "END"=some (.int 1 A.t_END)
 v7:mg "BEGIN"=some (.int 0 A.t_BEGIN)
 sA:mg "OFF"=some (.int 1 A.t_OFF)
 sv:mg "SHIP"=some (.int 0 A.t_SHIP)
 rR:mg "PART"=some (.int 1 A.t_PART)
 rH:mg "MANY"=some (.int 0 A.t_MANY)
 rq:mg "MARKS"=some (.int 2 A.t_MARKS)
 sj:mg "TO"=some (.int 1 A.t_TO)
 wk:mg "FROM"=some (.int 0 A.t_FROM)
 tP:mg "len"=none
 tY:mg "isinstance"=none
 sq:mg "bool"=none
 sd:mg "int"=none
 wu:mg "all"=none
 rW:mg "tuple"=none
 ue:mg "list"=none
 rp:mg "max"=none
 tN:mg "sum"=none
 vQ:mg "zip"=none
 tU:mg "enumerate"=none
 tZ:mg "range"=none
 sf:mg "dict"=none
 wJ:mg "reversed"=none
 vR:mg "min"=none
 rF:mg "sorted"=none
 sC:mg "set"=none
theorem jbN:FnScope ["script","k"] ["script","k"] (jd qN):=⟨rfl,rfl,rfl,by decide +kernel,rfl,by decide +kernel,by decide +kernel⟩
theorem jfw:FnScope ["thing"] ["thing"] (jd Ja):=⟨rfl,rfl,rfl,by decide +kernel,rfl,by decide +kernel,by decide +kernel⟩
theorem vq:FnScope ["thing","hours"] ["thing"] (jd zJ):=⟨rfl,rfl,rfl,by decide +kernel,rfl,by decide +kernel,by decide +kernel⟩
theorem jfb:FnScope ["thing"] ["thing"] (jd za):=⟨rfl,rfl,rfl,by decide +kernel,rfl,by decide +kernel,by decide +kernel⟩
theorem jbh:FnScope ["thing"] ["thing"] (jd qF):=⟨rfl,rfl,rfl,by decide +kernel,rfl,by decide +kernel,by decide +kernel⟩
theorem vd:FnScope ["need","rooms","marks","elsewhere"] ["need","rooms","marks"] (jd qZ):=⟨rfl,rfl,rfl,by decide +kernel,rfl,by decide +kernel,by decide +kernel⟩
theorem jmA:FnScope ["numbers","marks","mark"] ["numbers","marks","mark"] (jd Zm):=⟨rfl,rfl,rfl,by decide +kernel,rfl,by decide +kernel,by decide +kernel⟩
theorem uk:FnScope ["marked","others","marks","share","place","mark","ahead"] ["marked","others","marks"] (jd Qg):=⟨rfl,rfl,rfl,by decide +kernel,rfl,by decide +kernel,by decide +kernel⟩
theorem vm:FnScope ["rooms","part","off","on","ship","share"] ["rooms","part","off","on"] (jd Zu):=⟨rfl,rfl,rfl,by decide +kernel,rfl,by decide +kernel,by decide +kernel⟩
theorem tV:FnScope ["rooms","part","begun","moves","waiting","turn","off","on","ship"] ["rooms","part","begun"] (jd Zv):=⟨rfl,rfl,rfl,by decide +kernel,rfl,by decide +kernel,by decide +kernel⟩
theorem uL:FnScope ["moves","end","way","move"] ["moves","end"] (jd Qi):=⟨rfl,rfl,rfl,by decide +kernel,rfl,by decide +kernel,by decide +kernel⟩
theorem uj:FnScope ["part","way","many","told","ship","off","on"] ["part","way","many"] (jd Jf):=⟨rfl,rfl,rfl,by decide +kernel,rfl,by decide +kernel,by decide +kernel⟩
theorem tT:FnScope ["needs","rooms","part","moves","ship","share","short","on","many"] ["needs","rooms","part"] (jd Qh):=⟨rfl,rfl,rfl,by decide +kernel,rfl,by decide +kernel,by decide +kernel⟩
theorem jlK:FnScope ["plan","place"] ["plan","place"] (jd JY):=⟨rfl,rfl,rfl,by decide +kernel,rfl,by decide +kernel,by decide +kernel⟩
theorem tO:FnScope ["needs","rooms","part","way","first","limits","ship","off","on"] ["needs","rooms","part","way"] (jd zj):=⟨rfl,rfl,rfl,by decide +kernel,rfl,by decide +kernel,by decide +kernel⟩
theorem tS:FnScope ["needs","rooms","tops","part","moves","free","many","way","spare"] ["needs","rooms","tops","part"] (jd qT):=⟨rfl,rfl,rfl,by decide +kernel,rfl,by decide +kernel,by decide +kernel⟩
theorem jeP:FnScope ["rooms"] ["rooms"] (jd qP):=⟨rfl,rfl,rfl,by decide +kernel,rfl,by decide +kernel,by decide +kernel⟩
theorem tM:FnScope ["needs","rooms","hours","marks","inside","outside","high","low"] ["needs","rooms","hours","marks"] (jd jG):=⟨rfl,rfl,rfl,by decide +kernel,rfl,by decide +kernel,by decide +kernel⟩
theorem uK:FnScope ["needs","rooms","hours","level","floor","full"] ["needs","rooms","hours"] (jd zC):=⟨rfl,rfl,rfl,by decide +kernel,rfl,by decide +kernel,by decide +kernel⟩
theorem jfl:FnScope ["fleet"] ["fleet"] (jd zb):=⟨rfl,rfl,rfl,by decide +kernel,rfl,by decide +kernel,by decide +kernel⟩
theorem u7:FnScope ["fleet","begins","ends"] ["fleet"] (jd zu):=⟨rfl,rfl,rfl,by decide +kernel,rfl,by decide +kernel,by decide +kernel⟩
theorem u6:FnScope ["fleet","rising"] ["fleet"] (jd zF):=⟨rfl,rfl,rfl,by decide +kernel,rfl,by decide +kernel,by decide +kernel⟩
theorem jiI:FnScope ["stretch"] ["stretch"] (jd Qd):=⟨rfl,rfl,rfl,by decide +kernel,rfl,by decide +kernel,by decide +kernel⟩
theorem jmP:FnScope ["ship","stretch"] ["ship","stretch"] (jd ja8):=⟨rfl,rfl,rfl,by decide +kernel,rfl,by decide +kernel,by decide +kernel⟩
theorem ve:FnScope ["fleet","spans"] ["fleet"] (jd qK):=⟨rfl,rfl,rfl,by decide +kernel,rfl,by decide +kernel,by decide +kernel⟩
theorem jdl:FnScope ["fleet"] ["fleet"] (jd qJ):=⟨rfl,rfl,rfl,by decide +kernel,rfl,by decide +kernel,by decide +kernel⟩
theorem jnb:FnScope ["fleet"] ["fleet"] (jd jbb):=⟨rfl,rfl,rfl,by decide +kernel,rfl,by decide +kernel,by decide +kernel⟩
theorem tG:FnScope ["ship","cells","start","begin","end","need","most","left","row","h","cell","some","at","more"] ["ship","cells","start"] (jd zg):=⟨rfl,rfl,rfl,by decide +kernel,rfl,by decide +kernel,by decide +kernel⟩
theorem uy:FnScope ["spans","hour","place","span"] ["spans","hour"] (jd zZ):=⟨rfl,rfl,rfl,by decide +kernel,rfl,by decide +kernel,by decide +kernel⟩
theorem uQ:FnScope ["many","span","hour","hours","last"] ["many","span","hour"] (jd Jz):=⟨rfl,rfl,rfl,by decide +kernel,rfl,by decide +kernel,by decide +kernel⟩
theorem wb:FnScope ["fleet","plan","hour","spans","place"] ["fleet","plan","hour"] (jd jbi):=⟨rfl,rfl,rfl,by decide +kernel,rfl,by decide +kernel,by decide +kernel⟩
theorem tK:FnScope ["one","two","kind","begin","end","most","mixed","full","need"] ["one","two","kind"] (jd zN):=⟨rfl,rfl,rfl,by decide +kernel,rfl,by decide +kernel,by decide +kernel⟩
theorem tQ:FnScope ["script","cell","fleet","k","cells","first","last","drawn","i","row","h","at","plan","told"] ["script"] (jd zM):=⟨rfl,rfl,rfl,by decide +kernel,rfl,by decide +kernel,by decide +kernel⟩
section
variable {P:Program} {w:World} {K:PySem.W.Frag} {mg:Str->Option Value} {base:Heap} {A:Adr}
theorem Jj (T:Txt K mg A):FnOk P w K mg base JC 1 A.ub A.ua ["script","k"] (@spS ⟨K⟩ qm):=
 zo (m:=JI) T.tR jbN rfl rfl fun cdv Ar outer s H E hr=>
  (jg (zP (zI jdq (jb 1) ‹"9"›)
   (jn (j3 (jR (jb 0) (jb 1)))) qu)
   (jn (j3 jy)))
theorem jfU (T:Txt K mg A):FnOk P w K mg base JC 1 A.uS A.uV ["thing"] (@spS ⟨K⟩ jae):=
 zo (m:=jcE) T.vO jfw rfl rfl fun cdv Ar outer s H E hr=>(jn (j3 (jir (eh (jib (fun _=>rfl) (fun _=>T.tY) (fun _=>rfl) (fun _=>T.sd) boot_int (by decide) (jb 0))) (jk5 (w_not (eh (jib (fun _=>rfl) (fun _=>T.tY) (fun _=>rfl) (fun _=>T.sq) boot_bool (by decide) (jb 0))))))))
theorem jgB (T:Txt K mg A):FnOk P w K mg base JC 2 A.va A.u9 ["thing"] (@spS ⟨K⟩ Qc):=
 zo (m:=jbp) T.vS vq rfl rfl fun cdv Ar outer s H E hr=>
  (jg (zP (WW.toC (jrX (jh2 (jcG (eh (jib (fun _=>rfl) (fun _=>T.tY) (fun _=>rfl) (fun _=>T.rW) boot_tuple (by decide) (jb 0))))) (jqW (zI (jrU fun _=>hr.units) ‹"9"› (eh jy)))))
   (jn (j3 jeQ)) qu)
   (jg (zP (jh2 (jcG (eh (zm wu (fun _=>rfl) (fun _=>T.wu) boot_all (jm (eh (WO.toE (JV (sc:=jd zJ) (Lc:=["part"]) (Fn:=[]) (ix:=[]) (fun _=>rfl) (show LcOk (jd zJ) ["thing","hours"] _ [] [] from by decide +kernel) (WI.toT (jpB (jo 0))) (jY (i:=0) (fun _=>show List.Nodup (["part"]:List Str) from by decide +kernel) rfl (by decide) ‹"a"› ‹"i"›) jS (j4 (fun _=>jfU T) ‹"g"› (fun _=>rfl) (fun _=>T.wV) (fun _=>T.vO.kp) (fun _=>T.wQ) (je (jo 0) ju))))) jD)))))
   (jn (j3 jeQ)) qu)
   (jg (jH (i:=1) (zq (eh (jR (jb 0) (eh (qo (fun _=>rfl) (fun _=>T.rE))))) (eh (jR (jb 0) (eh (qo (fun _=>rfl) (fun _=>T.v7)))))) (fun _=>vq.nd) rfl ‹"a"› ‹"a"›)
   (jn (j3 (jir (eh (jhW jo8 (jb 1) (eh jy))) (jir (eh (jhW jsb (eh (jR (jb 0) (eh (qo (fun _=>rfl) (fun _=>T.w6))))) (eh jy))) (jk5 (jmC jlI jlI (eh jy) (eh (jR (jb 0) (eh (qo (fun _=>rfl) (fun _=>T.rT))))) (eh (JL (eh (jR (jb 0) (eh (qo (fun _=>rfl) (fun _=>T.w6))))) (jb 1))))))))))))
theorem jfT (T:Txt K mg A):FnOk P w K mg base JC 3 A.uP A.uW ["thing"] (@spS ⟨K⟩ Qo):=
 zo (m:=ZZ) T.vE jfb rfl rfl fun cdv Ar outer s H E hr=>(jn (j3 (jir (eh (jib (fun _=>rfl) (fun _=>T.tY) (fun _=>rfl) (fun _=>T.ue) kd (by decide) (jb 0))) (jk5 (zm wu (fun _=>rfl) (fun _=>T.wu) boot_all (jm (eh (WO.toE (JV (sc:=jd za) (Lc:=["ship"]) (Fn:=[]) (ix:=[]) (fun _=>rfl) (show LcOk (jd za) ["thing"] _ [] [] from by decide +kernel) (j2 (jb 0)) ‹"aU"› jS (j4 (fun _=>jgB T) ‹"g"› (fun _=>rfl) (fun _=>T.rA) (fun _=>T.vS.kp) (fun _=>T.rz) (je (jo 0) ju))))) jD))))))
theorem jbf (T:Txt K mg A):FnOk P w K mg base JC 4 A.tW A.tX ["thing"] (@spS ⟨K⟩ zD):=
 zo (m:=Ji) T.uw jbh rfl rfl fun cdv Ar outer s H E hr=>
  (jn (zP (jh2 (jcG (eh (j4 (fun _=>jfT T) ‹"g"› (fun _=>rfl) (fun _=>T.wH) (fun _=>T.vE.kp) (fun _=>T.wU) (je (jo 0) ju)))))
   (jn jkw) qu))
theorem jgq (T:Txt K mg A):FnOk P w K mg base JC 1 A.uU A.uR ["need","rooms","marks"] (@spS ⟨K⟩ jai):=
 zo (m:=Qz) T.vw vd rfl rfl fun cdv Ar outer s H E hr=>
  (jg (jH (i:=3) (zm tN (fun _=>rfl) (fun _=>T.tN) KF (jm (eh (WO.toE (JV (sc:=jd qZ) (Lc:=["many","mark"]) (Fn:=[]) (ix:=[]) (fun _=>rfl) (show LcOk (jd qZ) ["need","rooms","marks","elsewhere"] _ [] [] from by decide +kernel) (jal (fun _=>rfl) (fun _=>T.vQ) (jm (jb 1) (jm (jb 2) jD))) (jb3 (Jd (i:=0) (fun _=>show List.Nodup (["many","mark"]:List Str) from by decide +kernel) rfl (by decide) ‹"a"› ‹"i"› (Jd (i:=1) (fun _=>show List.Nodup (["many","mark"]:List Str) from by decide +kernel) rfl (by decide) ‹"a"› ‹"i"› jcV))) (jei (jh2 (jcG (jb 1)))) (jo 0)))) jD)) (fun _=>vd.nd) rfl ‹"a"› ‹"a"›)
   (jn (j3 (zm jgM (fun _=>rfl) (fun _=>T.rp) boot_max (jm (eh (zq (jb 0) (jb 3))) (jm (eh jy) jD))))))
theorem jbY (T:Txt K mg A):FnOk P w K mg base JC 1 A.wL A.wI ["numbers","marks","mark"] (@spO ⟨K⟩ Qq):=
 Ze (m:=jhn) T.vN jmA rfl rfl fun cdv Ar outer s H E hr=>(jn (Jp (JV (sc:=jd Zm) (Lc:=["number","other"]) (Fn:=["mark"]) (ix:=[2]) (fun _=>rfl) (show LcOk (jd Zm) ["numbers","marks","mark"] _ ["mark"] [2] from by decide +kernel) (jal (fun _=>rfl) (fun _=>T.vQ) (jm (jb 0) (jm (jb 1) jD))) (jb3 (Jd (i:=0) (fun _=>show List.Nodup (["number","other","mark"]:List Str) from by decide +kernel) rfl (by decide) ‹"a"› ‹"i"› (Jd (i:=1) (fun _=>show List.Nodup (["number","other","mark"]:List Str) from by decide +kernel) rfl (by decide) ‹"a"› ‹"i"› jcV))) (jei (zI (jkc fun _=>hr.units) (jb 1) (jb 2))) (jo 0))))
theorem jjd (T:Txt K mg A):FnOk P w K mg base JC 1 A.vF A.vL ["marked","others","marks"] (@spO ⟨K⟩ jaF):=
 Ze (m:=jcS) T.wB uk rfl rfl fun cdv Ar outer s H E hr=>
  (jg (ZD (i:=3) (J4 ju) (fun _=>uk.nd) rfl ‹"a"› ‹"a"›)
   (jg (zO (jaw (fun _=>rfl) (fun _=>T.tU) (je (jo 2) ju)) (Q1 (qr (jT (i:=4) (fun _=>uk.nd) rfl ‹"a"› ‹"a"›) (qr (jT (i:=5) (fun _=>uk.nd) rfl ‹"a"› ‹"a"›) Q5)))
   (jg (jH (i:=6) (jmw (eh (WO.toE (jph (jb 2) jnR (jhZ (jb 4))))) (jo 5)) (fun _=>uk.nd) rfl ‹"a"› ‹"a"›)
   (jn (Z1 (i:=3) rfl (fun _=>Or.inl rfl) (jpy (jcG (jb 5)) (jR (jb 0) (jb 6)) (jR (jb 1) (jb 6)))))))
   (jn (jin 3))))
theorem jkH (T:Txt K mg A):FnOk P w K mg base JC 1 A.wg A.wc ["rooms","part","off","on"] (@spS ⟨K⟩ QD):=
 zo (m:=jen) T.rj vm rfl rfl fun cdv Ar outer s H E hr=>
  (jg (zO (jaw (fun _=>rfl) (fun _=>T.tU) (je (jo 1) ju)) (Q1 (qr (jT (i:=4) (fun _=>vm.nd) rfl ‹"a"› ‹"a"›) (qr (jT (i:=5) (fun _=>vm.nd) rfl ‹"a"› ‹"a"›) Q5)))
   (jn (zP (WW.toC (jhz (zI jo8 (eh (jR (jb 5) (jb 2))) (eh jy)) (jg7 (zI jdq (eh (jR (jb 5) (jb 3))) (eh (jR (eh (jR (jb 0) (jb 4))) (jb 3)))))))
   (jn (j3 (jo 4))) qu)))
   (jn (j3 jio)))
theorem jj9 (T:Txt K mg A):FnOk P w K mg base JC 2 A.wo A.vW ["rooms","part","begun"] (@spS ⟨K⟩ jb1):=
 zo (m:=jek) T.rm tV rfl rfl fun cdv Ar outer s H E hr=>
  (jg (jhH (i:=3) (jmD (fun _=>rfl) (fun _=>T.sf) (jm (jb 2) jD)) (fun _=>tV.nd) rfl ‹"a"› ‹"a"›)
   (jg (ZD (i:=4) (jih jma (fun _=>rfl) (fun _=>T.ue) kd (jm (jb 2) jD)) (fun _=>tV.nd) rfl ‹"a"› ‹"a"›)
   (jg (jH (i:=5) jy (fun _=>tV.nd) rfl ‹"a"› ‹"a"›)
   (jg (jco (zI jdq (jb 5) (eh (zm tP (fun _=>rfl) (fun _=>T.tP) yv (jm (jb 4) jD))))
   (jg (jH (i:=6) (jR (jb 4) (jb 5)) (fun _=>tV.nd) rfl ‹"a"› ‹"a"›)
   (jg (zO (JW (fun _=>rfl) (fun _=>T.tZ) (jm (eh (zm tP (fun _=>rfl) (fun _=>T.tP) yv (jm (eh (jR (jb 0) (eh jy))) jD))) jD)) (jT (i:=7) (fun _=>tV.nd) rfl ‹"a"› ‹"a"›)
   (jg (jH (i:=8) (jpy (zI (jnq fun _=>hr.units) (jb 7) (jb 3)) jio (j4 (fun _=>jkH T) ‹"g"› (fun _=>rfl) (fun _=>T.rX) (fun _=>T.rj.kp) (fun _=>T.rY) (je (jo 0) (je (jo 1) (je (jo 6) (je (jo 7) ju)))))) (fun _=>tV.nd) rfl ‹"a"› ‹"a"›)
   (jn (zP (je2 (jb 8))
   (jg (jiv (i:=3) (fun _=>hr.units) rfl ‹"a"› (jo 7) (jik (je (jo 8) (je (jo 6) (je (jo 7) ju)))))
   (jn (Z1 (i:=4) rfl (fun _=>Or.inl rfl) (jo 7)))) qu))))
   (jn (joa (i:=5) jnE jy (fun _=>tV.nd) rfl (fun _=>Or.inl rfl) (fun _=>Or.inl rfl))))))
   (jn (jid 3))))))
theorem jjc (T:Txt K mg A):FnOk P w K mg base JC 1 A.vp A.vo ["moves","end"] (@spO ⟨K⟩ jay):=
 Ze (m:=jc1) T.wG uL rfl rfl fun cdv Ar outer s H E hr=>
  (jg (ZD (i:=2) (J4 ju) (fun _=>uL.nd) rfl ‹"a"› ‹"a"›)
   (jg (jH (i:=3) (jpM (fun _=>hr.units) (jb 0) (jb 1)) (fun _=>uL.nd) rfl ‹"a"› ‹"a"›)
   (jg (jco (je2 (jb 3))
   (jg (Z1 (i:=2) rfl ‹"a"› (jo 3))
   (jn (jH (i:=3) (jmM (fun _=>hr.units) (jb 0) (eh (jR (jb 3) (eh (qo (fun _=>rfl) (fun _=>T.sA)))))) (fun _=>uL.nd) rfl (fun _=>Or.inl rfl) (fun _=>Or.inl rfl)))))
   (jn (Jp (jq8 (fun _=>rfl) (fun _=>T.ue) (fun _=>rfl) (fun _=>T.wJ) (jm (jb 2) jD)))))))
theorem jiG (T:Txt K mg A):FnOk P w K mg base JC 1 A.vB A.vC ["part","way","many"] (@spS ⟨K⟩ jap):=
 zo (m:=jcp) T.wy uj rfl rfl fun cdv Ar outer s H E hr=>
  (jg (jna (i:=3) (fun _=>uj.nd) rfl (fun _=>rfl) (sc:=jd Jf) (Lc:=["share"]) (Fn:=[]) (ix:=[]) (fun _=>rfl) (show LcOk (jd Jf) ["part","way","many","told","ship","off","on"] _ [] [] from by decide +kernel) (j2 (jb 0)) ‹"aQ"› jS (jih ue (fun _=>rfl) (fun _=>T.ue) kd (jm (jb 0) jD)))
   (jg (zO (jeZ (jo 1)) (Q1 (qr (jT (i:=4) (fun _=>uj.nd) rfl ‹"a"› ‹"a"›) (qr (jT (i:=5) (fun _=>uj.nd) rfl ‹"a"› ‹"a"›) (qr (jT (i:=6) (fun _=>uj.nd) rfl ‹"a"› ‹"a"›) Q5))))
   (jg (zP (je2 (jb 5))
   (jn (jis (i:=3) jqb rfl (fun _=>Or.inl rfl) (jb 4) (jo 5) (jo 2))) qu)
   (jn (jis (i:=3) jnE rfl (fun _=>Or.inl rfl) (jb 4) (jo 6) (jo 2)))))
   (jn (jjQ 3 (j3 (jo 3))))))
theorem jjD (T:Txt K mg A):FnOk P w K mg base JC 1 A.vn A.vt ["needs","rooms","part"] (@spS ⟨K⟩ jaU):=
 zo (m:=jci) T.wF tT rfl rfl fun cdv Ar outer s H E hr=>
  (jg (jhH (i:=3) joE (fun _=>tT.nd) rfl ‹"a"› ‹"a"›)
   (jg (zO (jaw (fun _=>rfl) (fun _=>T.tU) (je (jo 2) ju)) (Q1 (qr (jT (i:=4) (fun _=>tT.nd) rfl ‹"a"› ‹"a"›) (qr (jT (i:=5) (fun _=>tT.nd) rfl ‹"a"› ‹"a"›) Q5)))
   (jg (jH (i:=6) (jhW jdq (eh (zm tN (fun _=>rfl) (fun _=>T.tN) KF (jm (jb 5) jD))) (eh (jR (jb 0) (jb 4)))) (fun _=>tT.nd) rfl ‹"a"› ‹"a"›)
   (jn (zO (jaw (fun _=>rfl) (fun _=>T.tU) (je (jo 5) ju)) (Q1 (qr (jT (i:=7) (fun _=>tT.nd) rfl ‹"a"› ‹"a"›) (qr (jT (i:=8) (fun _=>tT.nd) rfl ‹"a"› ‹"a"›) Q5)))
   (jn (zP (WW.toC (jhz (jcG (jb 6)) (jhz (zI jdq (jb 8) (eh (jR (eh (jR (jb 1) (jb 4))) (jb 7)))) (jg7 (zI (jkd fun _=>hr.units) (jb 7) (jb 3))))))
   (jn (jiv (i:=3) (fun _=>hr.units) rfl (fun _=>Or.inl rfl) (jo 7) (jik (je (jo 4) (je jio (je (jo 7) ju)))))) qu))))))
   (jn (jid 3))))
theorem jcT (T:Txt K mg A):FnOk P w K mg base JC 1 A.wa A.wj ["plan","place"] (@spS ⟨K⟩ Qt):=
 zo (m:=jd5) T.vj jlK rfl rfl fun cdv Ar outer s H E hr=>(jn (j3 (zm tN (fun _=>rfl) (fun _=>T.tN) KF (jm (eh (WO.toE (JV (sc:=jd JY) (Lc:=["share"]) (Fn:=["place"]) (ix:=[1]) (fun _=>rfl) (show LcOk (jd JY) ["plan","place"] _ ["place"] [1] from by decide +kernel) (j2 (jb 0)) (jY (i:=0) (fun _=>show List.Nodup (["share","place"]:List Str) from by decide +kernel) rfl (by decide) ‹"a"› ‹"i"›) jS (jR (jb 0) (jb 1))))) jD))))
theorem jdn (T:Txt K mg A):FnOk P w K mg base JC 1 A.uq A.um ["needs","rooms","part","way"] (@spS ⟨K⟩ Jy):=
 zo (m:=QH) T.u4 tO rfl rfl fun cdv Ar outer s H E hr=>
  (jg (jH (i:=4) (jR (eh (jR (jb 3) (eh jy))) (eh (qo (fun _=>rfl) (fun _=>T.sv)))) (fun _=>tO.nd) rfl ‹"a"› ‹"a"›)
   (jg (ZD (i:=5) (J4 (je (zq (eh (jR (jb 0) (jb 4))) (eh (zm tN (fun _=>rfl) (fun _=>T.tN) KF (jm (eh (jR (jb 2) (jb 4))) jD)))) ju)) (fun _=>tO.nd) rfl ‹"a"› ‹"a"›)
   (jg (zO (jeZ (jo 3)) (Q1 (qr (jT (i:=6) (fun _=>tO.nd) rfl ‹"a"› ‹"a"›) (qr (jT (i:=7) (fun _=>tO.nd) rfl ‹"a"› ‹"a"›) (qr (jT (i:=8) (fun _=>tO.nd) rfl ‹"a"› ‹"a"›) Q5))))
   (jg (Z1 (i:=5) rfl ‹"a"› (zq (eh (jR (eh (jR (jb 1) (jb 6))) (jb 8))) (eh (jR (eh (jR (jb 2) (jb 6))) (jb 8)))))
   (jn (zP (je2 (jb 7))
   (jn (Z1 (i:=5) rfl (fun _=>Or.inl rfl) (jR (eh (jR (jb 2) (jb 6))) (jb 7)))) qu))))
   (jn (j3 (zm jk6 (fun _=>rfl) (fun _=>T.vR) boot_min (jm (jb 5) jD)))))))
theorem jdU (T:Txt K mg A):FnOk P w K mg base JC 3 A.vG A.vP ["needs","rooms","tops","part"] (@spS ⟨K⟩ Zk):=
 zo (m:=jcM) T.vv tS rfl rfl fun cdv Ar outer s H E hr=>
  (jn (jco (jcG (eh jeQ))
   (jg (jH (i:=4) (j4 (fun _=>jj9 T) ‹"g"› (fun _=>rfl) (fun _=>T.rZ) (fun _=>T.rm.kp) (fun _=>T.r8) (je (jo 1) (je (jo 3) (je (j4 (fun _=>jjD T) ‹"g"› (fun _=>rfl) (fun _=>T.rN) (fun _=>T.wF.kp) (fun _=>T.rM) (je (jo 0) (je (jo 1) (je (jo 3) ju)))) ju)))) (fun _=>tS.nd) rfl ‹"i"› ‹"a"›)
   (jg (jdF (i:=5) (fun _=>tS.nd) rfl (fun _=>rfl) (sc:=jd qT) (Lc:=["place"]) (Fn:=["part","tops"]) (ix:=[3,2]) (fun _=>rfl) (show LcOk (jd qT) ["needs","rooms","tops","part","moves","free","many","way","spare"] _ ["part","tops"] [3,2] from by decide +kernel) (WI.toT (joD (jo 4))) (jY (i:=0) (fun _=>show List.Nodup (["place","part","tops"]:List Str) from by decide +kernel) rfl (by decide) ‹"a"› ‹"i"›) (jei (zI jdq (eh (j4 (fun _=>jcT T) ‹"g"› (fun _=>rfl) (fun _=>T.vX) (fun _=>T.vj.kp) (fun _=>T.wm) (je (jo 1) (je (jo 0) ju)))) (eh (jR (jb 2) (jb 0))))) (jo 0))
   (jg (zP (zI (jkc fun _=>hr.units) (jb 5) (eh (WO.toE (J4 ju))))
   (jg (jH (i:=6) (zm tN (fun _=>rfl) (fun _=>T.tN) KF (jm (eh (WO.toE (JV (sc:=jd qT) (Lc:=["share"]) (Fn:=[]) (ix:=[]) (fun _=>rfl) (show LcOk (jd qT) ["needs","rooms","tops","part","moves","free","many","way","spare"] _ [] [] from by decide +kernel) (j2 (jb 3)) ‹"aQ"› jS ‹"aq"›))) jD)) (fun _=>tS.nd) rfl ‹"a"› ‹"a"›)
   (jn (j3 (jik (je (jo 6) (je (jo 3) (je (WO.toE (JV (sc:=jd qT) (Lc:=["place"]) (Fn:=["moves"]) (ix:=[4]) (fun _=>rfl) (show LcOk (jd qT) ["needs","rooms","tops","part","moves","free","many","way","spare"] _ ["moves"] [4] from by decide +kernel) (WI.toT (JW (fun _=>rfl) (fun _=>T.tZ) (jm (eh (zm tP (fun _=>rfl) (fun _=>T.tP) yv (jm (jb 2) jD))) jD))) (jY (i:=0) (fun _=>show List.Nodup (["place","moves"]:List Str) from by decide +kernel) rfl (by decide) (fun _=>Or.inl rfl) (fun _=>Or.inr rfl)) jS (jhW (jnq fun _=>hr.units) (jb 0) (jb 1)))) ju))))))) qu)
   (jg (jH (i:=7) (WO.toE (qI (fun _=>jjc T) ‹"g"› (fun _=>rfl) (fun _=>T.rQ) (fun _=>T.wG.kp) (fun _=>T.rL) (je (jo 4) (je (jR (jb 5) (eh jy)) ju)))) (fun _=>tS.nd) rfl ‹"a"› ‹"a"›)
   (jg (jH (i:=8) (zq (eh (jR (jb 2) (eh (jR (jb 5) (eh jy))))) (eh (j4 (fun _=>jcT T) ‹"g"› (fun _=>rfl) (fun _=>T.vX) (fun _=>T.vj.kp) (fun _=>T.wm) (je (jo 3) (je (jR (jb 5) (eh jy)) ju))))) (fun _=>tS.nd) rfl ‹"a"› ‹"a"›)
   (jn (jH (i:=3) (j4 (fun _=>jiG T) (fun _=>hr.mono (by decide)) (fun _=>rfl) (fun _=>T.rG) (fun _=>T.wy.kp) (fun _=>T.rU) (je (jo 3) (je (jo 7) (je (zm jeD (fun _=>rfl) (fun _=>T.vR) boot_min (jm (jb 8) (jm (eh (j4 (fun _=>jdn T) (fun _=>hr.mono (by decide)) (fun _=>rfl) (fun _=>T.v8) (fun _=>T.u4.kp) (fun _=>T.vU) (je (jo 0) (je (jo 1) (je (jo 3) (je (jo 7) ju)))))) jD))) ju)))) (fun _=>tS.nd) rfl (fun _=>Or.inr rfl) (fun _=>Or.inl rfl))))))))))
theorem jem (T:Txt K mg A):FnOk P w K mg base JC 1 A.uJ A.uA ["rooms"] (@spO ⟨K⟩ J2):=
 Ze (m:=Q3) T.vg jeP rfl rfl fun cdv Ar outer s H E hr=>(jn (Jp (JV (sc:=jd qP) (Lc:=["share"]) (Fn:=[]) (ix:=[]) (fun _=>rfl) (show LcOk (jd qP) ["rooms"] _ [] [] from by decide +kernel) (j2 (jb 0)) ‹"aQ"› jS (WO.toE (jqT (eh (WO.toE (J4 (je jy ju)))) ‹"9"›)))))
theorem QO (T:Txt K mg A) (k:Nat) (h:FnOk P w K mg base JC (3+2*k) A.uD A.uH ["needs","rooms","hours"] (@spS ⟨K⟩ (zc k))):FnOk P w K mg base JC (3+2*k+1) A.ud A.ug ["needs","rooms","hours","marks"] (@spO ⟨K⟩ (Je 4 8 (qy (zc k)))):=
 Ze (m:=qy (zc k)) T.uh tM rfl rfl fun cdv Ar outer s H E hr=>
  (jg (jdF (i:=4) (fun _=>tM.nd) rfl (fun _=>rfl) (sc:=jd jG) (Lc:=["need","share"]) (Fn:=["marks"]) (ix:=[3]) (fun _=>rfl) (show LcOk (jd jG) ["needs","rooms","hours","marks","inside","outside","high","low"] _ ["marks"] [3] from by decide +kernel) (jal (fun _=>rfl) (fun _=>T.vQ) (jm (jb 0) (jm (jb 1) jD))) (jb3 (Jd (i:=0) (fun _=>show List.Nodup (["need","share","marks"]:List Str) from by decide +kernel) rfl (by decide) ‹"a"› ‹"i"› (Jd (i:=1) (fun _=>show List.Nodup (["need","share","marks"]:List Str) from by decide +kernel) rfl (by decide) ‹"a"› ‹"i"› jcV))) jS (j4 (fun _=>jgq T) ‹"F"› (fun _=>rfl) (fun _=>T.rb) (fun _=>T.vw.kp) (fun _=>T.rf) (je (jo 0) (je (jo 1) (je (jo 2) ju)))))
   (jg (jdF (i:=5) (fun _=>tM.nd) rfl (fun _=>rfl) (sc:=jd jG) (Lc:=["need","many"]) (Fn:=[]) (ix:=[]) (fun _=>rfl) (show LcOk (jd jG) ["needs","rooms","hours","marks","inside","outside","high","low"] _ [] [] from by decide +kernel) (jal (fun _=>rfl) (fun _=>T.vQ) (jm (jb 0) (jm (jb 4) jD))) (jb3 (Jd (i:=0) (fun _=>show List.Nodup (["need","many"]:List Str) from by decide +kernel) rfl (by decide) ‹"a"› ‹"i"› (Jd (i:=1) (fun _=>show List.Nodup (["need","many"]:List Str) from by decide +kernel) rfl (by decide) ‹"a"› ‹"i"› jcV))) jS (zq (jb 0) (jb 1)))
   (jg (jH (i:=6) (j4 (fun _=>h) ‹"F"› (fun _=>rfl) (fun _=>T.vx) (fun _=>T.u3.kp) (fun _=>T.vK) (je (jo 4) ‹"aB"›)) (fun _=>tM.nd) rfl ‹"a"› ‹"a"›)
   (jg (jH (i:=7) (j4 (fun _=>h) ‹"F"› (fun _=>rfl) (fun _=>T.vx) (fun _=>T.u3.kp) (fun _=>T.vK) (je (jo 5) ‹"aB"›)) (fun _=>tM.nd) rfl ‹"a"› ‹"a"›)
   (jn (Jp (JV (sc:=jd jG) (Lc:=["marked","others"]) (Fn:=["marks"]) (ix:=[3]) (fun _=>rfl) (show LcOk (jd jG) ["needs","rooms","hours","marks","inside","outside","high","low"] _ ["marks"] [3] from by decide +kernel) (jal (fun _=>rfl) (fun _=>T.vQ) (jm (jb 6) (jm (jb 7) jD))) (jb3 (Jd (i:=0) (fun _=>show List.Nodup (["marked","others","marks"]:List Str) from by decide +kernel) rfl (by decide) (fun _=>Or.inl rfl) (fun _=>Or.inr rfl) (Jd (i:=1) (fun _=>show List.Nodup (["marked","others","marks"]:List Str) from by decide +kernel) rfl (by decide) (fun _=>Or.inl rfl) (fun _=>Or.inr rfl) jcV))) jS (WO.toE (qI (fun _=>jjd T) (fun _=>hr.mono (by omega)) (fun _=>rfl) (fun _=>T.rP) (fun _=>T.wB.kp) (fun _=>T.rK) (je (jo 0) (je (jo 1) (je (jo 2) ju))))))))))))
theorem Zp (T:Txt K mg A):∀k,FnOk P w K mg base JC (3+2*k) A.uD A.uH ["needs","rooms","hours"] (@spS ⟨K⟩ (zc k))
 | 0=>jpt
 | k+1=>FnOk.mono (j:=3+2*k+1+1) (zo (m:=ja4 (Je 4 8 (qy (zc k)))) T.u3 uK rfl rfl fun cdv Ar outer s H E hr=>
   (jg (jH (i:=3) (jaQ (eh ‹"aq"›) (eh (zm tN (fun _=>rfl) (fun _=>T.tN) KF (jm (jb 2) jD)))) (fun _=>uK.nd) rfl ‹"i"› ‹"a"›)
     (jg (jH (i:=4) (j4 (fun _=>jdU T) ‹"F"› (fun _=>rfl) (fun _=>T.wz) (fun _=>T.vv.kp) (fun _=>T.wD) (je (jo 0) (je (jo 1) (je (WO.toE (JV (sc:=jd zC) (Lc:=["many"]) (Fn:=["level"]) (ix:=[3]) (fun _=>rfl) (show LcOk (jd zC) ["needs","rooms","hours","level","floor","full"] _ ["level"] [3] from by decide +kernel) (j2 (jb 2)) ‹"aM"› jS (JL (jb 1) (jb 0)))) (je (WO.toE (qI (fun _=>jem T) ‹"F"› (fun _=>rfl) (fun _=>T.wx) (fun _=>T.vg.kp) (fun _=>T.wA) (je (jo 1) ju))) ju))))) (fun _=>uK.nd) rfl ‹"a"› ‹"a"›)
     (jg (zP (zI jdq (eh (jR (jb 4) (eh (qo (fun _=>rfl) (fun _=>T.rH))))) (eh (JL (jb 3) (eh (zm tN (fun _=>rfl) (fun _=>T.tN) KF (jm (jb 2) jD))))))
     (jn (j3 (WO.toE (qI (fun _=>QO T k (Zp T k)) (fun _=>hr.mono (by omega)) (fun _=>rfl) (fun _=>T.uG) (fun _=>T.uh.kp) (fun _=>T.uB) (je (jo 0) (je (jo 1) (je (jo 2) (je (jR (jb 4) (eh (qo (fun _=>rfl) (fun _=>T.rq)))) ju)))))))) qu)
     (jg (jH (i:=5) (j4 (fun _=>jdU T) ‹"F"› (fun _=>rfl) (fun _=>T.wz) (fun _=>T.vv.kp) (fun _=>T.wD) (je (jo 0) (je (jo 1) (je (WO.toE (JV (sc:=jd zC) (Lc:=["many"]) (Fn:=["level"]) (ix:=[3]) (fun _=>rfl) (show LcOk (jd zC) ["needs","rooms","hours","level","floor","full"] _ ["level"] [3] from by decide +kernel) (j2 (jb 2)) ‹"aM"› jS (JL (eh (zK (jb 1) (eh jy))) (jb 0)))) (je (jR (jb 4) (eh (qo (fun _=>rfl) (fun _=>T.rR)))) ju))))) (fun _=>uK.nd) rfl ‹"a"› ‹"a"›)
     (jg (zP (zI jdq (eh (jR (jb 5) (eh (qo (fun _=>rfl) (fun _=>T.rH))))) (eh ‹"aq"›))
     (jn (j3 (WO.toE (qI (fun _=>QO T k (Zp T k)) (fun _=>hr.mono (by omega)) (fun _=>rfl) (fun _=>T.uG) (fun _=>T.uh.kp) (fun _=>T.uB) (je (jo 0) (je (jo 1) (je (jo 2) (je (jR (jb 5) (eh (qo (fun _=>rfl) (fun _=>T.rq)))) ju)))))))) qu)
     (jn (j3 (jR (jb 5) (eh (qo (fun _=>rfl) (fun _=>T.rR)))))))))))) (by omega)
theorem jjh (T:Txt K mg A):FnOk P w K mg base JC (37) A.uD A.uH ["needs","rooms","hours"] (@spS ⟨K⟩ f_evened):=Zp T 17
theorem jgj (T:Txt K mg A):FnOk P w K mg base JC 1 A.uO A.uN ["fleet"] (@spO ⟨K⟩ Qw):=
 Ze (m:=Qr) T.vM jfl rfl rfl fun cdv Ar outer s H E hr=>(jn (Jp (JV (sc:=jd zb) (Lc:=["ship"]) (Fn:=[]) (ix:=[]) (fun _=>rfl) (show LcOk (jd zb) ["fleet"] _ [] [] from by decide +kernel) (j2 (jb 0)) ‹"aU"› jS (jR (jb 0) (eh (qo (fun _=>rfl) (fun _=>T.rT)))))))
theorem jjt (T:Txt K mg A):FnOk P w K mg base JC 1 A.vI A.vD ["fleet"] (@spO ⟨K⟩ jcz):=
 Ze (m:=jaR) T.wt u7 rfl rfl fun cdv Ar outer s H E hr=>
  (jg (jdF (i:=1) (fun _=>u7.nd) rfl (fun _=>rfl) (sc:=jd zu) (Lc:=["ship"]) (Fn:=[]) (ix:=[]) (fun _=>rfl) (show LcOk (jd zu) ["fleet","begins","ends"] _ [] [] from by decide +kernel) (j2 (jb 0)) ‹"aU"› jS (jR (jb 0) (eh (qo (fun _=>rfl) (fun _=>T.v7)))))
   (jg (jdF (i:=2) (fun _=>u7.nd) rfl (fun _=>rfl) (sc:=jd zu) (Lc:=["ship"]) (Fn:=[]) (ix:=[]) (fun _=>rfl) (show LcOk (jd zu) ["fleet","begins","ends"] _ [] [] from by decide +kernel) (j2 (jb 0)) ‹"aU"› jS (jR (jb 0) (eh (qo (fun _=>rfl) (fun _=>T.rE)))))
   (jn (Jp (jpq (fun _=>rfl) (fun _=>T.rF) (fun _=>rfl) (fun _=>T.sC) (jm (eh (WO.toE (jh1 (jb 1) (jb 2)))) jD) (sub:=fun _ _=>⟨rfl,rfl⟩) (j0:=()))))))
theorem Qp (T:Txt K mg A):FnOk P w K mg base JC 2 A.uE A.uF ["fleet"] (@spO ⟨K⟩ Jh):=
 Ze (m:=J0) T.ui u6 rfl rfl fun cdv Ar outer s H E hr=>
  (jg (jH (i:=1) (WO.toE (qI (fun _=>jjt T) ‹"g"› (fun _=>rfl) (fun _=>T.rO) (fun _=>T.wt.kp) (fun _=>T.rS) (je (jo 0) ju))) (fun _=>u6.nd) rfl ‹"a"› ‹"a"›)
   (jn (Jp (jsj (fun _=>rfl) (fun _=>T.ue) (fun _=>rfl) (fun _=>T.vQ) (jm (jb 1) (jm (eh (WO.toE (jph (jb 1) (jhZ (eh jy)) jnR))) jD))))))
theorem ja9 (T:Txt K mg A):FnOk P w K mg base JC 1 A.vH A.vA ["stretch"] (@spS ⟨K⟩ Qj):=
 zo (m:=jc5) T.uZ jiI rfl rfl fun cdv Ar outer s H E hr=>(jn (j3 (zq (eh (jR (jb 0) (eh (qo (fun _=>rfl) (fun _=>T.sj))))) (eh (jR (jb 0) ‹"ax"›)))))
theorem jmg (T:Txt K mg A):FnOk P w K mg base JC 2 A.w5 A.wZ ["ship","stretch"] (@spS ⟨K⟩ jeM):=
 zo (m:=jgR) T.rD jmP rfl rfl fun cdv Ar outer s H E hr=>
  (jg (zP (WW.toC (jhz (zI jlI (eh (jR (jb 0) (eh (qo (fun _=>rfl) (fun _=>T.v7))))) (eh (jR (jb 1) ‹"ax"›))) (jg7 (zI jlI (eh (jR (jb 1) (eh (qo (fun _=>rfl) (fun _=>T.sj))))) (eh (jR (jb 0) (eh (qo (fun _=>rfl) (fun _=>T.rE)))))))))
   (jn (j3 (JL (eh (jR (jb 0) (eh (qo (fun _=>rfl) (fun _=>T.w6))))) (eh (j4 (fun _=>ja9 T) (fun _=>hr.mono (by decide)) (fun _=>rfl) (fun _=>T.vy) (fun _=>T.uZ.kp) (fun _=>T.vz) (je (jo 1) ju)))))) qu)
   (jn (j3 jy)))
theorem jfJ (T:Txt K mg A):FnOk P w K mg base JC 3 A.uT A.uY ["fleet"] (@spO ⟨K⟩ jag):=
 Ze (m:=QC) T.vk ve rfl rfl fun cdv Ar outer s H E hr=>
  (jg (jH (i:=1) ‹"aD"› (fun _=>ve.nd) rfl ‹"i"› ‹"a"›)
   (jn (Jp (JV (sc:=jd qK) (Lc:=["ship"]) (Fn:=["spans"]) (ix:=[1]) (fun _=>rfl) (show LcOk (jd qK) ["fleet","spans"] _ ["spans"] [1] from by decide +kernel) (j2 (jb 0)) (jY (i:=0) (fun _=>show List.Nodup (["ship","spans"]:List Str) from by decide +kernel) rfl (by decide) (fun _=>Or.inr rfl) (fun _=>Or.inl rfl)) jS (WO.toE (jra (sc:=jd qK) (Lc:=["span"]) (Fn:=["ship"]) (ix:=[0]) (fun _=>rfl) (show LcOk (jly (jd qK) _) ["ship","spans"] _ ["ship"] [0] from by decide +kernel) (j2 (jb 1)) (jY (i:=0) (fun _=>show List.Nodup (["span","ship"]:List Str) from by decide +kernel) rfl (by decide) (fun _=>Or.inl rfl) (fun _=>Or.inr rfl)) jS (j4 (fun _=>jmg T) (fun _=>hr.mono (by decide)) (fun _=>rfl) (fun _=>T.su) (fun _=>T.rD.kp) (fun _=>T.sk) (je (jo 1) (je (jo 0) ju)))))))))
theorem jdy (T:Txt K mg A):FnOk P w K mg base JC 3 A.uv A.uu ["fleet"] (@spO ⟨K⟩ Ju):=
 Ze (m:=Jr) T.u5 jdl rfl rfl fun cdv Ar outer s H E hr=>(jn (Jp (JV (sc:=jd qJ) (Lc:=["span"]) (Fn:=[]) (ix:=[]) (fun _=>rfl) (show LcOk (jd qJ) ["fleet"] _ [] [] from by decide +kernel) (j2 (eh ‹"aD"›)) (jY (i:=0) (fun _=>show List.Nodup (["span"]:List Str) from by decide +kernel) rfl (by decide) ‹"a"› ‹"i"›) jS (j4 (fun _=>ja9 T) ‹"g"› (fun _=>rfl) (fun _=>T.vy) (fun _=>T.uZ.kp) (fun _=>T.vz) (je (jo 0) ju)))))
theorem jl1 (T:Txt K mg A):FnOk P w K mg base JC 38 A.wX A.wW ["fleet"] (@spS ⟨K⟩ jd8):=
 zo (m:=jgZ) T.rJ jnb rfl rfl fun cdv Ar outer s H E hr=>
  (jg (jml (eh (j4 (fun _=>jbf T) ‹"g"› (fun _=>rfl) (fun _=>T.vi) (fun _=>T.uw.kp) (fun _=>T.vh) (je (jo 0) ju))))
   (jg (zP (zI (jkc fun _=>hr.units) (jb 0) (eh (WO.toE (J4 ju))))
   (jn (j3 (WO.toE (J4 ju)))) qu)
   (jn (j3 (j4 (fun _=>jjh T) (fun _=>hr.mono (by decide)) (fun _=>rfl) (fun _=>T.vx) (fun _=>T.u3.kp) (fun _=>T.vK) (je (WO.toE (qI (fun _=>jgj T) (fun _=>hr.mono (by decide)) (fun _=>rfl) (fun _=>T.wM) (fun _=>T.vM.kp) (fun _=>T.wK) (je (jo 0) ju))) (je (WO.toE (qI (fun _=>jfJ T) (fun _=>hr.mono (by decide)) (fun _=>rfl) (fun _=>T.wN) (fun _=>T.vk.kp) (fun _=>T.wR) (je (jo 0) ju))) (je (WO.toE (qI (fun _=>jdy T) (fun _=>hr.mono (by decide)) (fun _=>rfl) (fun _=>T.vV) (fun _=>T.u5.kp) (fun _=>T.we) (je (jo 0) ju))) ju))))))))
theorem jdk (T:Txt K mg A):FnOk P w K mg base JC 1 A.uo A.ur ["ship","cells","start"] (@spO ⟨K⟩ Jv):=
 Ze (m:=Qx) T.u0 tG rfl rfl fun cdv Ar outer s H E hr=>
  (jg (joI (jo 0) (Q1 (qr (jT (i:=3) (fun _=>tG.nd) rfl ‹"a"› ‹"a"›) (qr (jT (i:=4) (fun _=>tG.nd) rfl ‹"a"› ‹"a"›) (qr (jT (i:=5) (fun _=>tG.nd) rfl ‹"a"› ‹"a"›) (qr (jT (i:=6) (fun _=>tG.nd) rfl ‹"a"› ‹"a"›) Q5))))))
   (jg (jH (i:=7) (jo 5) (fun _=>tG.nd) rfl ‹"a"› ‹"a"›)
   (jg (ZD (i:=8) (J4 ju) (fun _=>tG.nd) rfl ‹"a"› ‹"a"›)
   (jg (zO (JW (fun _=>rfl) (fun _=>T.tZ) (jm (eh (zq (jb 4) (jb 3))) jD)) (jT (i:=9) (fun _=>tG.nd) rfl ‹"a"› ‹"a"›)
   (jg (jH (i:=10) (jR (jb 1) (eh (zL (eh (zK (jb 2) (jb 9))) (eh (zm tP (fun _=>rfl) (fun _=>T.tP) yv (jm (jb 1) jD)))))) (fun _=>tG.nd) rfl ‹"a"› ‹"a"›)
   (jg (jH (i:=11) (jR (eh (WO.toE (J4 (je jy (je (jo 6) (je (zL (eh (jaQ (jb 10) (eh jy))) (eh (zK (jb 6) (eh jy)))) (je (jaQ (jb 6) (eh jy)) ju))))))) (eh (zL (jb 10) (eh jy)))) (fun _=>tG.nd) rfl ‹"a"› ‹"a"›)
   (jg (Z1 (i:=8) rfl ‹"a"› (zm jeD (fun _=>rfl) (fun _=>T.vR) boot_min (jm (jb 7) (jm (jb 11) jD))))
   (jn (jH (i:=7) (zq (jb 7) (eh (jR (jb 8) (jb 9)))) (fun _=>tG.nd) rfl (fun _=>Or.inl rfl) (fun _=>Or.inl rfl)))))))
   (jg (zO (JW (fun _=>rfl) (fun _=>T.tZ) (jm (eh (zq (jb 4) (jb 3))) jD)) (jT (i:=9) (fun _=>tG.nd) rfl ‹"a"› ‹"a"›)
   (jg (jH (i:=12) (zL (eh (zK (jb 9) (eh (jR (jb 1) (eh (zL (jb 2) (eh (zm tP (fun _=>rfl) (fun _=>T.tP) yv (jm (jb 1) jD))))))))) (eh (zq (jb 4) (jb 3)))) (fun _=>tG.nd) rfl ‹"a"› ‹"a"›)
   (jg (jH (i:=13) (zm jeD (fun _=>rfl) (fun _=>T.vR) boot_min (jm (jb 7) (jm (eh (zq (jb 6) (eh (jR (jb 8) (jb 12))))) jD))) (fun _=>tG.nd) rfl ‹"a"› ‹"a"›)
   (jg (jk7 (i:=8) rfl ‹"a"› (jo 12) (zK (eh (jR (jb 8) (jb 12))) (jb 13)))
   (jn (jH (i:=7) (zq (jb 7) (jb 13)) (fun _=>tG.nd) rfl (fun _=>Or.inl rfl) (fun _=>Or.inl rfl)))))))
   (jn (jin 8)))))))
theorem jf2 (T:Txt K mg A):FnOk P w K mg base JC 1 A.uX A.uM ["spans","hour"] (@spS ⟨K⟩ Z6):=
 zo (m:=QJ) T.vJ uy rfl rfl fun cdv Ar outer s H E hr=>
  (jg (zO (jaw (fun _=>rfl) (fun _=>T.tU) (je (jo 0) ju)) (Q1 (qr (jT (i:=2) (fun _=>uy.nd) rfl ‹"a"› ‹"a"›) (qr (jT (i:=3) (fun _=>uy.nd) rfl ‹"a"› ‹"a"›) Q5)))
   (jn (zP (jlU jlI jdq (eh (jR (jb 3) ‹"ax"›)) (jb 1) (eh (jR (jb 3) (eh (qo (fun _=>rfl) (fun _=>T.sj))))))
   (jn (j3 (jo 2))) qu)))
   (jn (j3 jio)))
theorem jgA (T:Txt K mg A):FnOk P w K mg base JC 2 A.vb A.vc ["many","span","hour"] (@spS ⟨K⟩ jbm):=
 zo (m:=ZA) T.vT uQ rfl rfl fun cdv Ar outer s H E hr=>
  (jg (jH (i:=3) (j4 (fun _=>ja9 T) ‹"g"› (fun _=>rfl) (fun _=>T.vy) (fun _=>T.uZ.kp) (fun _=>T.vz) (je (jo 1) ju)) (fun _=>uQ.nd) rfl ‹"a"› ‹"a"›)
   (jg (jH (i:=4) (jpy (zI jdq (eh (zq (jb 2) (eh (jR (jb 1) ‹"ax"›)))) (eh (zL (jb 0) (jb 3)))) jy jy) (fun _=>uQ.nd) rfl ‹"a"› ‹"a"›)
   (jn (j3 (zK (eh (jaQ (jb 0) (jb 3))) (jb 4))))))
theorem jlP (T:Txt K mg A):FnOk P w K mg base JC 3 A.rg A.ra ["fleet","plan","hour"] (@spS ⟨K⟩ jg8):=
 zo (m:=jd7) T.rV wb rfl rfl fun cdv Ar outer s H E hr=>
  (jg (jH (i:=3) ‹"aD"› (fun _=>wb.nd) rfl ‹"a"› ‹"a"›)
   (jg (jH (i:=4) (j4 (fun _=>jf2 T) ‹"g"› (fun _=>rfl) (fun _=>T.wO) (fun _=>T.vJ.kp) (fun _=>T.wY) (je (jo 3) (je (jo 2) ju))) (fun _=>wb.nd) rfl ‹"a"› ‹"a"›)
   (jg (zP (jqu (jb 4))
   (jn (j3 jy)) qu)
   (jn (j3 (j4 (fun _=>jgA T) (fun _=>hr.mono (by decide)) (fun _=>rfl) (fun _=>T.rC) (fun _=>T.vT.kp) (fun _=>T.rB) (je (j4 (fun _=>jcT T) (fun _=>hr.mono (by decide)) (fun _=>rfl) (fun _=>T.vX) (fun _=>T.vj.kp) (fun _=>T.wm) (je (jo 1) (je (jo 4) ju))) (je (jR (jb 3) (jb 4)) (je (jo 2) ju)))))))))
theorem jeX (T:Txt K mg A):FnOk P w K mg base JC 1 A.uz A.uI ["one","two","kind"] (@spS ⟨K⟩ zd):=
 zo (m:=JZ) T.vf tK rfl rfl fun cdv Ar outer s H E hr=>
  (jg ‹"aT"›
   (jg (jH (i:=4) (zK (eh (zK (jb 3) (eh jy))) (eh (zL (eh (jaQ (jb 0) (eh jy))) (eh jy)))) (fun _=>tK.nd) rfl ‹"a"› ‹"a"›)
   (jg (zP (zI (jkc fun _=>hr.units) (jb 2) (eh jy))
   (jg ‹"aT"›
   (jn (jH (i:=4) (zK (eh (zK (jb 3) (eh jy))) (eh (zL (eh (jaQ (jb 0) (eh jy))) (eh jy)))) (fun _=>tK.nd) rfl (fun _=>Or.inl rfl) (fun _=>Or.inl rfl)))) qu)
   (jg (zP (zI (jkc fun _=>hr.units) (jb 2) (eh jy))
   (jg (jH (i:=3) (JL (eh (zq (eh (zL (eh (JL (jb 0) (eh jy))) (eh jy))) (eh (jh9 (eh jy) (eh jy))))) (eh (jh9 (eh jy) (eh jy)))) (fun _=>tK.nd) rfl ‹"a"› ‹"a"›)
   (jn (jH (i:=4) (zK (eh (zK (jb 3) (eh jy))) (eh (JL (eh (zL (eh (JL (jb 0) (eh jy))) (eh jy))) (eh (jh9 (eh jy) (eh jy)))))) (fun _=>tK.nd) rfl (fun _=>Or.inl rfl) (fun _=>Or.inl rfl)))) qu)
   (jg (jH (i:=5) (jR (eh (WO.toE (J4 (je jy (je jy (je jy (je jy (je (jh9 (eh jy) (eh jy)) (je (zK (eh jy) (eh (zL (eh (jaQ (jb 1) (eh jy))) (eh jy)))) (je jy (je jy ju))))))))))) (eh (zL (jb 1) (eh jy)))) (fun _=>tK.nd) rfl ‹"a"› ‹"a"›)
   (jg (jH (i:=6) (zL (eh (JL (jb 1) (eh jy))) (eh jy)) (fun _=>tK.nd) rfl ‹"a"› ‹"a"›)
   (jg (jH (i:=7) (JL (jb 5) (eh (zq (jb 4) (jb 3)))) (fun _=>tK.nd) rfl ‹"a"› ‹"a"›)
   (jg (jH (i:=8) (jR (eh (WO.toE (J4 (je (jaQ (eh (JL (jb 7) (eh (zL (jb 6) (eh jy))))) (eh jy)) (je (zL (jb 6) (eh (zK (jb 7) (eh jy)))) (je (zm jeD (fun _=>rfl) (fun _=>T.vR) boot_min (jm (jb 7) (jm (eh (zL (jb 6) (eh jy))) jD))) (je (jo 7) ju))))))) (eh (zL (eh (jaQ (jb 6) (eh jy))) (eh jy)))) (fun _=>tK.nd) rfl ‹"a"› ‹"a"›)
   (jn (j3 (jik (je (jo 3) (je (jo 4) (je (jo 8) (je (jo 5) ju)))))))))))))))
theorem jo4 (T:Txt K mg A):FnOk P w K mg base JC 39 A.rn A.rh ["script"] (@spS ⟨K⟩ jni):=
 zo (m:=jhO) T.sy tQ rfl rfl fun cdv Ar outer s H E hr=>
  (jg (jH (i:=1) (j4 (fun _=>Jj T) ‹"g"› (fun _=>rfl) (fun _=>T.uf) (fun _=>T.tR.kp) (fun _=>T.uc) (je (jo 0) (je jy ju))) (fun _=>tQ.nd) rfl ‹"a"› ‹"a"›)
   (jg (ZD (i:=2) (J4 ju) (fun _=>tQ.nd) rfl ‹"i"› ‹"a"›)
   (jg (zO (JW (fun _=>rfl) (fun _=>T.tZ) (jm (eh (zK (eh jy) (eh (zL (jb 1) (eh jy))))) jD)) (jT (i:=3) (fun _=>tQ.nd) rfl ‹"i"› ‹"a"›)
   (jn (Z1 (i:=2) rfl (fun _=>Or.inr (Or.inl rfl)) (j4 (fun _=>jeX T) (fun _=>hr.mono (by decide)) (fun _=>rfl) (fun _=>T.wC) (fun _=>T.vf.kp) (fun _=>T.wq) (je (j4 (fun _=>Jj T) (fun _=>hr.mono (by decide)) (fun _=>rfl) (fun _=>T.uf) (fun _=>T.tR.kp) (fun _=>T.uc) (je (jo 0) (je (zK (eh jy) (eh (JL (eh jy) (jb 3)))) ju))) (je (j4 (fun _=>Jj T) (fun _=>hr.mono (by decide)) (fun _=>rfl) (fun _=>T.uf) (fun _=>T.tR.kp) (fun _=>T.uc) (je (jo 0) (je (zK (eh jy) (eh (JL (eh jy) (jb 3)))) ju))) (je jy ju)))))))
   (jg (jH (i:=4) (WO.toE (jh1 (eh (WO.toE (jph (jb 0) (jhZ (eh jy)) (jhZ (eh jy))))) (eh (WO.toE (J4 (je jy ju)))))) (fun _=>tQ.nd) rfl ‹"a"› ‹"a"›)
   (jg (jH (i:=5) (zm jk6 (fun _=>rfl) (fun _=>T.vR) boot_min ‹"aC"›) (fun _=>tQ.nd) rfl ‹"a"› ‹"a"›)
   (jg (jH (i:=6) (zm jpu (fun _=>rfl) (fun _=>T.rp) boot_max ‹"aC"›) (fun _=>tQ.nd) rfl ‹"a"› ‹"a"›)
   (jg (jou (i:=7) (fun _=>tQ.nd) rfl (fun _=>rfl) (sc:=jd zM) (Lc:=["h"]) (Fn:=[]) (ix:=[]) (fun _=>rfl) (show LcOk (jd zM) ["script","cell","fleet","k","cells","first","last","drawn","i","row","h","at","plan","told"] _ [] [] from by decide +kernel) (WI.toT (JW (fun _=>rfl) (fun _=>T.tZ) (jm (eh (zq (jb 6) (jb 5))) jD))) (jY (i:=0) (fun _=>show List.Nodup (["h"]:List Str) from by decide +kernel) rfl (by decide) ‹"a"› ‹"i"›) jS jy)
   (jg (zO (JW (fun _=>rfl) (fun _=>T.tZ) (jm (eh (zm tP (fun _=>rfl) (fun _=>T.tP) yv (jm (jb 2) jD))) jD)) (jT (i:=8) (fun _=>tQ.nd) rfl ‹"a"› ‹"a"›)
   (jg (jH (i:=9) (WO.toE (qI (fun _=>jdk T) ‹"g"› (fun _=>rfl) (fun _=>T.vY) (fun _=>T.u0.kp) (fun _=>T.v9) (je (jR (jb 2) (jb 8)) (je (jo 4) (je (JL (eh jy) (jb 8)) ju))))) (fun _=>tQ.nd) rfl ‹"a"› ‹"a"›)
   (jn (zO (JW (fun _=>rfl) (fun _=>T.tZ) (jm (eh (zm tP (fun _=>rfl) (fun _=>T.tP) yv (jm (jb 9) jD))) jD)) (jT (i:=10) (fun _=>tQ.nd) rfl ‹"a"› ‹"a"›)
   (jg (jH (i:=11) (zK (eh (zq (eh (jR (eh (jR (jb 2) (jb 8))) (eh jy))) (jb 5))) (jb 10)) (fun _=>tQ.nd) rfl ‹"a"› ‹"a"›)
   (jn (jk7 (i:=7) rfl (fun _=>Or.inl rfl) (jo 11) (zK (eh (jR (jb 7) (jb 11))) (eh (jR (jb 9) (jb 10)))))))))))
   (jg (jH (i:=12) (j4 (fun _=>jl1 T) ‹"g"› (fun _=>rfl) (fun _=>T.sr) (fun _=>T.rJ.kp) (fun _=>T.si) (je (WO.toE (jih ue (fun _=>rfl) (fun _=>T.ue) kd (jm (jb 2) jD))) ju)) (fun _=>tQ.nd) rfl ‹"i"› ‹"a"›)
   (jg (jjQ 2 (jdF (i:=13) (fun _=>tQ.nd) rfl (fun _=>rfl) (sc:=jd zM) (Lc:=["hour"]) (Fn:=["plan","fleet"]) (ix:=[12,2]) (fun _=>rfl) (show LcOk (jd zM) ["script","cell","fleet","k","cells","first","last","drawn","i","row","h","at","plan","told"] _ ["plan","fleet"] [12,2] from by decide +kernel) (WI.toT (jmR (fun _=>rfl) (fun _=>T.tZ) (jm (jb 5) (jm (jb 6) jD)))) (jY (i:=0) (fun _=>show List.Nodup (["hour","plan","fleet"]:List Str) from by decide +kernel) rfl (by decide) ‹"a"› ‹"i"›) jS (j4 (fun _=>jlP T) ‹"g"› (fun _=>rfl) (fun _=>T.se) (fun _=>T.rV.kp) (fun _=>T.sx) (je (WO.toE (jih ue (fun _=>rfl) (fun _=>T.ue) kd (jm (jb 2) jD))) (je (jo 1) (je (jo 0) ju))))))
   (jg (zO (jeZ (WO.toE (jh1 (eh (WO.toE (jh1 (eh (WO.toE (J4 (je jy ju)))) (jb 7)))) (eh (WO.toE (JV (sc:=jd zM) (Lc:=["many"]) (Fn:=[]) (ix:=[]) (fun _=>rfl) (show LcOk (jd zM) ["script","cell","fleet","k","cells","first","last","drawn","i","row","h","at","plan","told"] _ [] [] from by decide +kernel) (j2 (jb 7)) (jY (i:=0) (fun _=>show List.Nodup (["many"]:List Str) from by decide +kernel) rfl (by decide) ‹"a"› ‹"i"›) jS (zK (jb 0) (eh jy)))))))) (jT (i:=3) (fun _=>tQ.nd) rfl ‹"i"› ‹"a"›)
   (jn (zP (zI jo8 (eh (zm tN (fun _=>rfl) (fun _=>T.tN) KF (jm (eh (WO.toE (JV (sc:=jd zM) (Lc:=["many"]) (Fn:=["k"]) (ix:=[3]) (fun _=>rfl) (show LcOk (jd zM) ["script","cell","fleet","k","cells","first","last","drawn","i","row","h","at","plan","told"] _ ["k"] [3] from by decide +kernel) (j2 (jb 13)) ‹"aN"› jS ‹"ay"›))) jD))) (eh (zm tN (fun _=>rfl) (fun _=>T.tN) KF (jm (eh (WO.toE (JV (sc:=jd zM) (Lc:=["many"]) (Fn:=["k"]) (ix:=[3]) (fun _=>rfl) (show LcOk (jd zM) ["script","cell","fleet","k","cells","first","last","drawn","i","row","h","at","plan","told"] _ ["k"] [3] from by decide +kernel) (j2 (jb 7)) ‹"aN"› jS ‹"ay"›))) jD))))
   (jn (j3 jeQ)) qu)))
   (jn (j3 jeQ)))))))))))))
end
def jhv (K:PySem.W.Frag):Sp:=fun vs H Q _=>∃(a:Addr) (ns:List Int),vs=[.ref a]/\Jc K H a (ns.map V.int)/\ns.length<=63/\∀H',Q (.bl true) H'
theorem jl9 {P:Program} {w:World} {K:PySem.W.Frag} {mg:Str → Option Value} {base:Heap} {A:Adr} (T:Txt K mg A):FnOk P w K mg base JC 39 A.rn A.rh ["script"] (jhv K):=by
 letI:Fr:=⟨K⟩
 refine (jo4 T).imp fun vs H Q E h=>?_;obtain ⟨a,ns,rfl,hs,hl,q⟩:=h;exact ⟨H,[.scr ns],.bl true,.refl _,.cons (.scr hs) .nil,jlw ns hl,fun v G' H' x r=>by cases r;exact q _⟩
set_option maxHeartbeats 4000000 in
abbrev ya (K:PySem.W.Frag) (x:Str) (f:Addr):Prop:=PySem.W.nsIn K mainGlobals x=some (some (.ref f))
abbrev yb (K:PySem.W.Frag) (x:Str) (st:Stmt) (f:Addr) (oc) (od) (kV) (dc) (pm) (an) (cd) (ct) (sl):=K.lookup f=some ⟨oc,od,.func (PySem.W.fnOf x x (jK st) (jF st) (jd st) .none kV dc pm an cd ct),sl⟩
abbrev yc (K:PySem.W.Frag) (cd) (x:Str):=PySem.W.codeIn K cd x=true
abbrev yd (K:PySem.W.Frag) (f:Addr):Prop:=PySem.W.keepIn K (.ref f)=true
theorem jpC {l:PySem.W.OpenLaw} {w:World} {K:PySem.W.Frag} {h:Heap} {mg:Str → Option Value} {fa:Addr} (X:K.In h) (G:h.Ns mainGlobals mg) (hfa:mg "law"=some (.ref fa))
 {f0 f1 f2 f3 f4 f5 f6 f7 f8 f9 f10 f11 f12 f13 f14 f15 f16 f17 f18 f19 f20 f21 f22 f23 f24 f25 f26 f27 f28 f29 f30 f31 f32:Addr}
 {od0 od1 od2 od3 od4 od5 od6 od7 od8 od9 od10 od11 od12 od13 od14 od15 od16 od17 od18 od19 od20 od21 od22 od23 od24 od25 od26 od27 od28 od29 od30 od31 od32:Option Addr}
 {an0 an1 an2 an3 an4 an5 an6 an7 an8 an9 an10 an11 an12 an13 an14 an15 an16 an17 an18 an19 an20 an21 an22 an23 an24 an25 an26 an27 an28 an29 an30 an31 an32:Option Addr}
 {sl0 sl1 sl2 sl3 sl4 sl5 sl6 sl7 sl8 sl9 sl10 sl11 sl12 sl13 sl14 sl15 sl16 sl17 sl18 sl19 sl20 sl21 sl22 sl23 sl24 sl25 sl26 sl27 sl28 sl29 sl30 sl31 sl32:Array (Option Value)}
 {oc0 oc1 oc2 oc3 oc4 oc5 oc6 oc7 oc8 oc9 oc10 oc11 oc12 oc13 oc14 oc15 oc16 oc17 oc18 oc19 oc20 oc21 oc22 oc23 oc24 oc25 oc26 oc27 oc28 oc29 oc30 oc31 oc32:Value}
 {kV0 kV1 kV2 kV3 kV4 kV5 kV6 kV7 kV8 kV9 kV10 kV11 kV12 kV13 kV14 kV15 kV16 kV17 kV18 kV19 kV20 kV21 kV22 kV23 kV24 kV25 kV26 kV27 kV28 kV29 kV30 kV31 kV32:Value}
 {dc0 dc1 dc2 dc3 dc4 dc5 dc6 dc7 dc8 dc9 dc10 dc11 dc12 dc13 dc14 dc15 dc16 dc17 dc18 dc19 dc20 dc21 dc22 dc23 dc24 dc25 dc26 dc27 dc28 dc29 dc30 dc31 dc32:Value}
 {pm0 pm1 pm2 pm3 pm4 pm5 pm6 pm7 pm8 pm9 pm10 pm11 pm12 pm13 pm14 pm15 pm16 pm17 pm18 pm19 pm20 pm21 pm22 pm23 pm24 pm25 pm26 pm27 pm28 pm29 pm30 pm31 pm32:Value}
 {cd0 cd1 cd2 cd3 cd4 cd5 cd6 cd7 cd8 cd9 cd10 cd11 cd12 cd13 cd14 cd15 cd16 cd17 cd18 cd19 cd20 cd21 cd22 cd23 cd24 cd25 cd26 cd27 cd28 cd29 cd30 cd31 cd32:Value}
 {ct0 ct1 ct2 ct3 ct4 ct5 ct6 ct7 ct8 ct9 ct10 ct11 ct12 ct13 ct14 ct15 ct16 ct17 ct18 ct19 ct20 ct21 ct22 ct23 ct24 ct25 ct26 ct27 ct28 ct29 ct30 ct31 ct32:Value}
 {t0:Tok}
 {t1:Tok}
 {t2:Tok}
 {t3:Tok}
 {t4:Tok}
 {t5:Tok}
 {t6:Tok}
 {t7:Tok}
 {t8:Tok}
 {t9:Tok}
 {t10:Tok}
 (a0:ya K "_law_cell_at" f0) (l0:yb K "_law_cell_at" qN f0 oc0 od0 kV0 dc0 pm0 an0 cd0 ct0 sl0) (c0:yc K cd0 "_law_cell_at") (k0:yd K f0)
 (a1:ya K "is_whole" f1) (l1:yb K "is_whole" Ja f1 oc1 od1 kV1 dc1 pm1 an1 cd1 ct1 sl1) (c1:yc K cd1 "is_whole") (k1:yd K f1)
 (a2:ya K "is_ship" f2) (l2:yb K "is_ship" zJ f2 oc2 od2 kV2 dc2 pm2 an2 cd2 ct2 sl2) (c2:yc K cd2 "is_ship") (k2:yd K f2)
 (a3:ya K "is_fleet" f3) (l3:yb K "is_fleet" za f3 oc3 od3 kV3 dc3 pm3 an3 cd3 ct3 sl3) (c3:yc K cd3 "is_fleet") (k3:yd K f3)
 (a4:ya K "must_be_fleet" f4) (l4:yb K "must_be_fleet" qF f4 oc4 od4 kV4 dc4 pm4 an4 cd4 ct4 sl4) (c4:yc K cd4 "must_be_fleet") (k4:yd K f4)
 (a5:ya K "bound_in" f5) (l5:yb K "bound_in" qZ f5 oc5 od5 kV5 dc5 pm5 an5 cd5 ct5 sl5) (c5:yc K cd5 "bound_in") (k5:yd K f5)
 (a6:ya K "kept" f6) (l6:yb K "kept" Zm f6 oc6 od6 kV6 dc6 pm6 an6 cd6 ct6 sl6) (c6:yc K cd6 "kept") (k6:yd K f6)
 (a7:ya K "joined" f7) (l7:yb K "joined" Qg f7 oc7 od7 kV7 dc7 pm7 an7 cd7 ct7 sl7) (c7:yc K cd7 "joined") (k7:yd K f7)
 (a8:ya K "mover" f8) (l8:yb K "mover" Zu f8 oc8 od8 kV8 dc8 pm8 an8 cd8 ct8 sl8) (c8:yc K cd8 "mover") (k8:yd K f8)
 (a9:ya K "reach" f9) (l9:yb K "reach" Zv f9 oc9 od9 kV9 dc9 pm9 an9 cd9 ct9 sl9) (c9:yc K cd9 "reach") (k9:yd K f9)
 (a10:ya K "way_to" f10) (l10:yb K "way_to" Qi f10 oc10 od10 kV10 dc10 pm10 an10 cd10 ct10 sl10) (c10:yc K cd10 "way_to") (k10:yd K f10)
 (a11:ya K "behind" f11) (l11:yb K "behind" Jf f11 oc11 od11 kV11 dc11 pm11 an11 cd11 ct11 sl11) (c11:yc K cd11 "behind") (k11:yd K f11)
 (a12:ya K "put_in" f12) (l12:yb K "put_in" Qh f12 oc12 od12 kV12 dc12 pm12 an12 cd12 ct12 sl12) (c12:yc K cd12 "put_in") (k12:yd K f12)
 (a13:ya K "total" f13) (l13:yb K "total" JY f13 oc13 od13 kV13 dc13 pm13 an13 cd13 ct13 sl13) (c13:yc K cd13 "total") (k13:yd K f13)
 (a14:ya K "most_along" f14) (l14:yb K "most_along" zj f14 oc14 od14 kV14 dc14 pm14 an14 cd14 ct14 sl14) (c14:yc K cd14 "most_along") (k14:yd K f14)
 (a15:ya K "filled" f15) (l15:yb K "filled" qT f15 oc15 od15 kV15 dc15 pm15 an15 cd15 ct15 sl15) (c15:yc K cd15 "filled") (k15:yd K f15)
 (a16:ya K "no_cranes" f16) (l16:yb K "no_cranes" qP f16 oc16 od16 kV16 dc16 pm16 an16 cd16 ct16 sl16) (c16:yc K cd16 "no_cranes") (k16:yd K f16)
 (a17:ya K "evened_apart" f17) (l17:yb K "evened_apart" jG f17 oc17 od17 kV17 dc17 pm17 an17 cd17 ct17 sl17) (c17:yc K cd17 "evened_apart") (k17:yd K f17)
 (a18:ya K "evened" f18) (l18:yb K "evened" zC f18 oc18 od18 kV18 dc18 pm18 an18 cd18 ct18 sl18) (c18:yc K cd18 "evened") (k18:yd K f18)
 (a19:ya K "needs_of" f19) (l19:yb K "needs_of" zb f19 oc19 od19 kV19 dc19 pm19 an19 cd19 ct19 sl19) (c19:yc K cd19 "needs_of") (k19:yd K f19)
 (a20:ya K "bounds" f20) (l20:yb K "bounds" zu f20 oc20 od20 kV20 dc20 pm20 an20 cd20 ct20 sl20) (c20:yc K cd20 "bounds") (k20:yd K f20)
 (a21:ya K "stretches" f21) (l21:yb K "stretches" zF f21 oc21 od21 kV21 dc21 pm21 an21 cd21 ct21 sl21) (c21:yc K cd21 "stretches") (k21:yd K f21)
 (a22:ya K "length" f22) (l22:yb K "length" Qd f22 oc22 od22 kV22 dc22 pm22 an22 cd22 ct22 sl22) (c22:yc K cd22 "length") (k22:yd K f22)
 (a23:ya K "room" f23) (l23:yb K "room" ja8 f23 oc23 od23 kV23 dc23 pm23 an23 cd23 ct23 sl23) (c23:yc K cd23 "room") (k23:yd K f23)
 (a24:ya K "rooms_of" f24) (l24:yb K "rooms_of" qK f24 oc24 od24 kV24 dc24 pm24 an24 cd24 ct24 sl24) (c24:yc K cd24 "rooms_of") (k24:yd K f24)
 (a25:ya K "lengths_of" f25) (l25:yb K "lengths_of" qJ f25 oc25 od25 kV25 dc25 pm25 an25 cd25 ct25 sl25) (c25:yc K cd25 "lengths_of") (k25:yd K f25)
 (a26:ya K "even" f26) (l26:yb K "even" jbb f26 oc26 od26 kV26 dc26 pm26 an26 cd26 ct26 sl26) (c26:yc K cd26 "even") (k26:yd K f26)
 (a27:ya K "_law_hours" f27) (l27:yb K "_law_hours" zg f27 oc27 od27 kV27 dc27 pm27 an27 cd27 ct27 sl27) (c27:yc K cd27 "_law_hours") (k27:yd K f27)
 (a28:ya K "place_of" f28) (l28:yb K "place_of" zZ f28 oc28 od28 kV28 dc28 pm28 an28 cd28 ct28 sl28) (c28:yc K cd28 "place_of") (k28:yd K f28)
 (a29:ya K "falling" f29) (l29:yb K "falling" Jz f29 oc29 od29 kV29 dc29 pm29 an29 cd29 ct29 sl29) (c29:yc K cd29 "falling") (k29:yd K f29)
 (a30:ya K "load" f30) (l30:yb K "load" jbi f30 oc30 od30 kV30 dc30 pm30 an30 cd30 ct30 sl30) (c30:yc K cd30 "load") (k30:yd K f30)
 (a31:ya K "_law_ship" f31) (l31:yb K "_law_ship" zN f31 oc31 od31 kV31 dc31 pm31 an31 cd31 ct31 sl31) (c31:yc K cd31 "_law_ship") (k31:yd K f31)
 (a32:ya K "law" f32) (l32:yb K "law" zM f32 oc32 od32 kV32 dc32 pm32 an32 cd32 ct32 sl32) (c32:yc K cd32 "law") (k32:yd K f32)
 (cst0:PySem.W.nsIn K mainGlobals "NEED"=some (some (.int 2 t0)))
 (cst1:PySem.W.nsIn K mainGlobals "MOST"=some (some (.int 3 t1)))
 (cst2:PySem.W.nsIn K mainGlobals "END"=some (some (.int 1 t2)))
 (cst3:PySem.W.nsIn K mainGlobals "BEGIN"=some (some (.int 0 t3)))
 (cst4:PySem.W.nsIn K mainGlobals "OFF"=some (some (.int 1 t4)))
 (cst5:PySem.W.nsIn K mainGlobals "SHIP"=some (some (.int 0 t5)))
 (cst6:PySem.W.nsIn K mainGlobals "PART"=some (some (.int 1 t6)))
 (cst7:PySem.W.nsIn K mainGlobals "MANY"=some (some (.int 0 t7)))
 (cst8:PySem.W.nsIn K mainGlobals "MARKS"=some (some (.int 2 t8)))
 (cst9:PySem.W.nsIn K mainGlobals "TO"=some (some (.int 1 t9)))
 (cst10:PySem.W.nsIn K mainGlobals "FROM"=some (some (.int 0 t10)))
 (z0:PySem.W.nsIn K mainGlobals "len"=some none)
 (z1:PySem.W.nsIn K mainGlobals "isinstance"=some none)
 (z2:PySem.W.nsIn K mainGlobals "bool"=some none)
 (z3:PySem.W.nsIn K mainGlobals "int"=some none)
 (z4:PySem.W.nsIn K mainGlobals "all"=some none)
 (z5:PySem.W.nsIn K mainGlobals "tuple"=some none)
 (z6:PySem.W.nsIn K mainGlobals "list"=some none)
 (z7:PySem.W.nsIn K mainGlobals "max"=some none)
 (z8:PySem.W.nsIn K mainGlobals "sum"=some none)
 (z9:PySem.W.nsIn K mainGlobals "zip"=some none)
 (z10:PySem.W.nsIn K mainGlobals "enumerate"=some none)
 (z11:PySem.W.nsIn K mainGlobals "range"=some none)
 (z12:PySem.W.nsIn K mainGlobals "dict"=some none)
 (z13:PySem.W.nsIn K mainGlobals "reversed"=some none)
 (z14:PySem.W.nsIn K mainGlobals "min"=some none)
 (z15:PySem.W.nsIn K mainGlobals "sorted"=some none)
 (z16:PySem.W.nsIn K mainGlobals "set"=some none) :
 ∃fd:FuncData,(∀(s:Shared) (v:Value),BindsTo s fd ⟨[v],[]⟩ [("script",v)]) ∧ ∀base:Heap,K.In base → base.Ns mainGlobals mg → FnOk l.prog w K mg base JC 39 fa fd ["script"] (jhv K):=by
 have e:=hfa.symm.trans (Yp X G a32);have e':f32=fa:=by injection (Option.some.inj e) with z;exact z.symm
 subst e';have F0:=jU (st:=qN) l0 c0 k0;have b0:=F0.binds (ps:=["script","k"]) fun _ _ _ _ _ _=>ar2 fun _ _=>rfl;have F1:=jU (st:=Ja) l1 c1 k1;have b1:=F1.binds (ps:=["thing"]) fun _ _ _ _ _ _=>ar1 fun _=>rfl;have F2:=jU (st:=zJ) l2 c2 k2;have b2:=F2.binds (ps:=["thing"]) fun _ _ _ _ _ _=>ar1 fun _=>rfl;have F3:=jU (st:=za) l3 c3 k3;have b3:=F3.binds (ps:=["thing"]) fun _ _ _ _ _ _=>ar1 fun _=>rfl;have F4:=jU (st:=qF) l4 c4 k4;have b4:=F4.binds (ps:=["thing"]) fun _ _ _ _ _ _=>ar1 fun _=>rfl;have F5:=jU (st:=qZ) l5 c5 k5;have b5:=F5.binds (ps:=["need","rooms","marks"]) fun _ _ _ _ _ _=>ar3 fun _ _ _=>rfl;have F6:=jU (st:=Zm) l6 c6 k6;have b6:=F6.binds (ps:=["numbers","marks","mark"]) fun _ _ _ _ _ _=>ar3 fun _ _ _=>rfl;have F7:=jU (st:=Qg) l7 c7 k7;have b7:=F7.binds (ps:=["marked","others","marks"]) fun _ _ _ _ _ _=>ar3 fun _ _ _=>rfl;have F8:=jU (st:=Zu) l8 c8 k8;have b8:=F8.binds (ps:=["rooms","part","off","on"]) fun _ _ _ _ _ _=>ar4 fun _ _ _ _=>rfl;have F9:=jU (st:=Zv) l9 c9 k9;have b9:=F9.binds (ps:=["rooms","part","begun"]) fun _ _ _ _ _ _=>ar3 fun _ _ _=>rfl;have F10:=jU (st:=Qi) l10 c10 k10;have b10:=F10.binds (ps:=["moves","end"]) fun _ _ _ _ _ _=>ar2 fun _ _=>rfl;have F11:=jU (st:=Jf) l11 c11 k11;have b11:=F11.binds (ps:=["part","way","many"]) fun _ _ _ _ _ _=>ar3 fun _ _ _=>rfl;have F12:=jU (st:=Qh) l12 c12 k12;have b12:=F12.binds (ps:=["needs","rooms","part"]) fun _ _ _ _ _ _=>ar3 fun _ _ _=>rfl;have F13:=jU (st:=JY) l13 c13 k13;have b13:=F13.binds (ps:=["plan","place"]) fun _ _ _ _ _ _=>ar2 fun _ _=>rfl;have F14:=jU (st:=zj) l14 c14 k14;have b14:=F14.binds (ps:=["needs","rooms","part","way"]) fun _ _ _ _ _ _=>ar4 fun _ _ _ _=>rfl;have F15:=jU (st:=qT) l15 c15 k15;have b15:=F15.binds (ps:=["needs","rooms","tops","part"]) fun _ _ _ _ _ _=>ar4 fun _ _ _ _=>rfl;have F16:=jU (st:=qP) l16 c16 k16;have b16:=F16.binds (ps:=["rooms"]) fun _ _ _ _ _ _=>ar1 fun _=>rfl;have F17:=jU (st:=jG) l17 c17 k17;have b17:=F17.binds (ps:=["needs","rooms","hours","marks"]) fun _ _ _ _ _ _=>ar4 fun _ _ _ _=>rfl;have F18:=jU (st:=zC) l18 c18 k18;have b18:=F18.binds (ps:=["needs","rooms","hours"]) fun _ _ _ _ _ _=>ar3 fun _ _ _=>rfl;have F19:=jU (st:=zb) l19 c19 k19;have b19:=F19.binds (ps:=["fleet"]) fun _ _ _ _ _ _=>ar1 fun _=>rfl;have F20:=jU (st:=zu) l20 c20 k20;have b20:=F20.binds (ps:=["fleet"]) fun _ _ _ _ _ _=>ar1 fun _=>rfl;have F21:=jU (st:=zF) l21 c21 k21;have b21:=F21.binds (ps:=["fleet"]) fun _ _ _ _ _ _=>ar1 fun _=>rfl;have F22:=jU (st:=Qd) l22 c22 k22;have b22:=F22.binds (ps:=["stretch"]) fun _ _ _ _ _ _=>ar1 fun _=>rfl;have F23:=jU (st:=ja8) l23 c23 k23;have b23:=F23.binds (ps:=["ship","stretch"]) fun _ _ _ _ _ _=>ar2 fun _ _=>rfl;have F24:=jU (st:=qK) l24 c24 k24;have b24:=F24.binds (ps:=["fleet"]) fun _ _ _ _ _ _=>ar1 fun _=>rfl;have F25:=jU (st:=qJ) l25 c25 k25;have b25:=F25.binds (ps:=["fleet"]) fun _ _ _ _ _ _=>ar1 fun _=>rfl;have F26:=jU (st:=jbb) l26 c26 k26;have b26:=F26.binds (ps:=["fleet"]) fun _ _ _ _ _ _=>ar1 fun _=>rfl;have F27:=jU (st:=zg) l27 c27 k27;have b27:=F27.binds (ps:=["ship","cells","start"]) fun _ _ _ _ _ _=>ar3 fun _ _ _=>rfl;have F28:=jU (st:=zZ) l28 c28 k28;have b28:=F28.binds (ps:=["spans","hour"]) fun _ _ _ _ _ _=>ar2 fun _ _=>rfl;have F29:=jU (st:=Jz) l29 c29 k29;have b29:=F29.binds (ps:=["many","span","hour"]) fun _ _ _ _ _ _=>ar3 fun _ _ _=>rfl;have F30:=jU (st:=jbi) l30 c30 k30;have b30:=F30.binds (ps:=["fleet","plan","hour"]) fun _ _ _ _ _ _=>ar3 fun _ _ _=>rfl;have F31:=jU (st:=zN) l31 c31 k31;have b31:=F31.binds (ps:=["one","two","kind"]) fun _ _ _ _ _ _=>ar3 fun _ _ _=>rfl;have F32:=jU (st:=zM) l32 c32 k32;have b32:=F32.binds (ps:=["script"]) fun _ _ _ _ _ _=>ar1 fun _=>rfl;have T:Txt K mg ⟨f0,_,f1,_,f2,_,f3,_,f4,_,f5,_,f6,_,f7,_,f8,_,f9,_,f10,_,f11,_,f12,_,f13,_,f14,_,f15,_,f16,_,f17,_,f18,_,f19,_,f20,_,f21,_,f22,_,f23,_,f24,_,f25,_,f26,_,f27,_,f28,_,f29,_,f30,_,f31,_,f32,_,t0,t1,t2,t3,t4,t5,t6,t7,t8,t9,t10⟩:=⟨F0,b0,Yp X G a0,F1,b1,Yp X G a1,F2,b2,Yp X G a2,F3,b3,Yp X G a3,F4,b4,Yp X G a4,F5,b5,Yp X G a5,F6,b6,Yp X G a6,F7,b7,Yp X G a7,F8,b8,Yp X G a8,F9,b9,Yp X G a9,F10,b10,Yp X G a10,F11,b11,Yp X G a11,F12,b12,Yp X G a12,F13,b13,Yp X G a13,F14,b14,Yp X G a14,F15,b15,Yp X G a15,F16,b16,Yp X G a16,F17,b17,Yp X G a17,F18,b18,Yp X G a18,F19,b19,Yp X G a19,F20,b20,Yp X G a20,F21,b21,Yp X G a21,F22,b22,Yp X G a22,F23,b23,Yp X G a23,F24,b24,Yp X G a24,F25,b25,Yp X G a25,F26,b26,Yp X G a26,F27,b27,Yp X G a27,F28,b28,Yp X G a28,F29,b29,Yp X G a29,F30,b30,Yp X G a30,F31,b31,Yp X G a31,F32,b32,Yp X G a32,Yp X G cst0,Yp X G cst1,Yp X G cst2,Yp X G cst3,Yp X G cst4,Yp X G cst5,Yp X G cst6,Yp X G cst7,Yp X G cst8,Yp X G cst9,Yp X G cst10,YI X G z0,YI X G z1,YI X G z2,YI X G z3,YI X G z4,YI X G z5,YI X G z6,YI X G z7,YI X G z8,YI X G z9,YI X G z10,YI X G z11,YI X G z12,YI X G z13,YI X G z14,YI X G z15,YI X G z16⟩;exact ⟨_,fun s v=>.of_eq rfl,fun base _ _=>jl9 T⟩
theorem jr3 {l:PySem.W.OpenLaw} {q:Program} {loose:List Str} {XP:(Str->Option Value)->Heap->Prop} {YP:World->Heap->Prop} {d:DefRec} {K:Params->PySem.W.Frag} (hn:l.most=some 63) (hdf:d.params.defaults=[])
 (hY:∀(w:World) (h:Heap),YP w h->(K w.params).In h)
 (F:∀(w:World) (mg:Str->Option Value) (fa:Addr) (h:Heap),(K w.params).In h->h.Ns mainGlobals mg->mg d.name=some (.ref fa)->
  ∃fd:FuncData,(∀(s:Shared) (u:Value),BindsTo s fd ⟨[u],[]⟩ [("script",u)]) ∧ ∀base:Heap,(K w.params).In base → base.Ns mainGlobals mg → FnOk l.prog w (K w.params) mg base JC 39 fa fd ["script"] (jhv (K w.params))) :
 PySem.W.WalkO q loose XP YP l.row.toRowW d [] (fun f vs=>PySem.call f vs):=
 L2.jm8 (n:=63) (k:=39) (x := "script") (CX:=fun _=>JC) (sp:=fun w=>jhv (K w.params)) hn (by decide) hdf ⟨rfl,by decide,by decide⟩ hY F (fun _ _ a ns hl _ hS=>⟨a,ns,rfl,hS,hl,fun _=>rfl⟩) fun _ _ _ _ _ z=>z
end Q
end
open PySem PySem.W PyProof.Rows
set_option maxRecDepth 100000 in
set_option maxHeartbeats 0 in
theorem PySem.Challenge.cw_evenquay_k42_whole_no_hours_are_evener_holds : PySem.Challenge.rw_evenquay_k42_whole_no_hours_are_evener.Holds := by
 w_on;o_law;k_head;(case hw=>w_witness2)
 k_fill
 refine Q.jr3 (l:=PySem.Challenge.rw_evenquay_k42_whole_no_hours_are_evener) rfl rfl (fun w h Y=>PySem.W.kIn_of Y) ?F
 case F=>
  intro w mg fa h KX G hmg
  refine' Q.jpC KX G hmg ?a0 ?l0 ?c0 ?k0 ?a1 ?l1 ?c1 ?k1 ?a2 ?l2 ?c2 ?k2 ?a3 ?l3 ?c3 ?k3 ?a4 ?l4 ?c4 ?k4 ?a5 ?l5 ?c5 ?k5 ?a6 ?l6 ?c6 ?k6 ?a7 ?l7 ?c7 ?k7 ?a8 ?l8 ?c8 ?k8 ?a9 ?l9 ?c9 ?k9 ?a10 ?l10 ?c10 ?k10 ?a11 ?l11 ?c11 ?k11 ?a12 ?l12 ?c12 ?k12 ?a13 ?l13 ?c13 ?k13 ?a14 ?l14 ?c14 ?k14 ?a15 ?l15 ?c15 ?k15 ?a16 ?l16 ?c16 ?k16 ?a17 ?l17 ?c17 ?k17 ?a18 ?l18 ?c18 ?k18 ?a19 ?l19 ?c19 ?k19 ?a20 ?l20 ?c20 ?k20 ?a21 ?l21 ?c21 ?k21 ?a22 ?l22 ?c22 ?k22 ?a23 ?l23 ?c23 ?k23 ?a24 ?l24 ?c24 ?k24 ?a25 ?l25 ?c25 ?k25 ?a26 ?l26 ?c26 ?k26 ?a27 ?l27 ?c27 ?k27 ?a28 ?l28 ?c28 ?k28 ?a29 ?l29 ?c29 ?k29 ?a30 ?l30 ?c30 ?k30 ?a31 ?l31 ?c31 ?k31 ?a32 ?l32 ?c32 ?k32 ?cst0 ?cst1 ?cst2 ?cst3 ?cst4 ?cst5 ?cst6 ?cst7 ?cst8 ?cst9 ?cst10 ?z0 ?z1 ?z2 ?z3 ?z4 ?z5 ?z6 ?z7 ?z8 ?z9 ?z10 ?z11 ?z12 ?z13 ?z14 ?z15 ?z16
  any_goals (show _=_;k_is)
