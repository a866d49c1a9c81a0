import PyProof.Rows.All
import Wide.All
import OpenK.AllK
import Wide.FinOn
import Lean
import PyProof.EqAt
import PyProof.EqKinds
import PyProof.TupleCall
import PySem.SetOps
import PyProof.ZipIter
import PyProof.CollectWalk
import PyProof.Rows.SetFrom
import PyProof.Rows.SortShell
import KE.KRevIter
import PyProof.MaxThree
import KE.KDictList
import PyProof.Rows.Chain
import PyProof.Rows.CountFlat
import KE.KSortAsk
import KE.KItemsList
import KE.KSortTup
import PyProof.Rows.SortRev
import PyProof.Rows.SortWalk
import PyProof.Rows.CallKwBuiltin
import PyProof.WalkInts
import KE.KMinBuiltin
import PySem.Challenge.RW_evenquay_k91_whole_chains_lead_to_even
-- CHANGE: your row's module here, as the last of these rows
set_option compiler.extract_closed false
def PySem.W.Fast.tw14346056979551012085:=()
def PySem.W.Fast.tw12470022868691256824:=()
def PySem.W.Fast.tw9256448524614439632:=()
def PySem.W.Fast.tw8972750286798562496:=()
def PySem.W.Fast.tw14260640655600265201:=()
def PySem.W.Fast.tw11620427942462955997:=()
def PySem.W.Fast.tw4733239857828764924:=()
def PySem.W.Fast.tw45731532242710150:=()
def PySem.W.Fast.tw8942726298482176015:=()
def PySem.W.Fast.tw13088408294564090414:=()
def PySem.W.Fast.tw42869525212456000:=()
def PySem.W.Fast.tw3807641047406136755:=()
def PySem.W.Fast.tw7256516718497674378:=()
def PySem.W.Fast.tw6257207740667870922:=()
def PySem.W.Fast.tw16399322978896097896:=()
def PySem.W.Fast.tw14564327844183306255:=()
def PySem.W.Fast.tw5036195148434088435:=()
def PySem.W.Fast.tw7640153460311934978:=()
def PySem.W.Fast.tw8791164932622267450:=()
namespace QA
theorem a0 (h:True:=by first | exact .inl rfl | exact .inr rfl | assumption):True:=h
theorem a1 (h:True:=by decide):True:=h
theorem a2 (h:True:=by first | exact nobehind _ (by decide) (by decide) | rfl):True:=h
theorem a3 (h:True:=by intro _;rfl):True:=h
theorem a4 (h:True:=by rfl):True:=h
theorem a5 (h:True:=by intros;rfl):True:=h
theorem a6 (h:True:=by with_unfolding_all rfl):True:=h
theorem a7 (h:True:=by first | exact fun _=>Or.inl rfl | exact fun _=>Or.inr (Or.inl rfl) | exact fun _=>Or.inr (Or.inr rfl)):True:=h
theorem a8 (h:True:=by exact fun _ _=>rfl):True:=h
theorem a9 (h:True:=by first | exact nomark _ | rfl):True:=h
theorem a10 (h:True:=by intro _ _;rfl):True:=h
theorem a11 (h:True:=by exact fun _=>PassesOwn.never):True:=h
theorem a12 (h:True:=by first | exact fun _ _=>rfl | intros;rfl):True:=h
end QA
set_option genInjectivity false
local macro_rules | `(tactic| omega)=>`(tactic| first | lia | omega (config:={}))
set_option Elab.async false
set_option linter.all false
set_option maxRecDepth 100000
noncomputable section
section
open PySem PySem.Spec PySem.W PySem.Calls PyProof.Rows PyProof.V
abbrev Ya:=@List.getElem?_eq_getElem
abbrev Yb:=@List.getD_eq_getElem?_getD
abbrev Yc:=@wpAny_bind
abbrev Yd:=@List.length_map
abbrev Ye:=@Option.bind_some
abbrev Yf:=@List.mem_cons_self
abbrev Yg:=@List.getElem?_cons_zero
abbrev Yh:=@Bool.false_ne_true
abbrev Yi:=@Option.map_some
abbrev Yj:=@Heap.get?_push_of_some
abbrev Yk:=@wpAny_pure
abbrev Yl:=@List.getElem?_cons_succ
abbrev Ym:=@List.mem_cons_of_mem
abbrev Yn:=@Nat.lt_of_lt_of_le
abbrev Yo:=@List.getElem?_eq_some_iff
abbrev Yp:=@PySem.W.mg_of
abbrev Yq:=@Int.toNat_natCast
abbrev Yr:=@List.mem_cons
abbrev Ys:=@Nat.le_refl
abbrev Yu:=@List.mem_singleton
abbrev Yv:=@Nat.ne_of_lt
abbrev Yw:=@List.set_cons_succ
abbrev Yx:=@List.mem_append_left
abbrev Yy:=@Heap.lt_size
abbrev Yz:=@List.getElem?_append_right
abbrev YA:=@Heap.get?_push_size
abbrev YB:=@List.set_cons_zero
abbrev YC:=@List.getElem?_append_left
abbrev YD:=@List.pairwise_cons
abbrev YE:=@List.getElem?_eq_none
abbrev YF:=@List.mem_of_getElem?
abbrev YG:=@List.not_mem_nil
abbrev YH:=@List.length_cons
abbrev YI:=@List.size_toArray
abbrev YJ:=@List.map_map
abbrev YK:=@Array.getElem?_eq_getElem
abbrev YL:=@List.mem_append_right
abbrev YM:=@PySem.W.mg_none_of
abbrev YN:=@PySem.boot_len
abbrev YO:=@Int.mul_le_mul_of_nonneg_right
abbrev YQ:=@List.length_append
abbrev YR:=@List.getElem?_set_ne
abbrev YS:=@List.lookup_cons
abbrev YT:=@List.getElem?_zip_eq_some
abbrev YU:=@decide_eq_true
abbrev YV:=@List.mem_append
abbrev YW:=@List.map_append
abbrev YX:=@Nat.lt_or_ge
abbrev YY:=@List.getElem?_eq_none_iff
abbrev YZ:=@Heap.get?_update_self
abbrev Y0:=@Bool.false_eq_true
abbrev Y1:=@decide_eq_false
abbrev Y2:=@PyProof.Rows.callWith_type1
abbrev Y3:=@List.length_nil
abbrev Y4:=@List.getElem?_set_self
abbrev Y5:=@Nat.le_trans
abbrev Y6:=@List.mem_map
abbrev Y7:=@Nat.lt_irrefl
abbrev Y8:=@List.replicate_succ
abbrev Y9:=@List.getElem_of_mem
abbrev ye:=@Array.length_toList
abbrev yf:=@List.filter_cons
abbrev yg:=@Int.le_of_lt
abbrev yh:=@Int.emod_lt_of_pos
abbrev yi:=@Heap.size_push
abbrev yj:=@wpAny_setState_of
abbrev yn:=@wpAny_holding
abbrev yo:=@if_true
abbrev yp:=@Nat.ne_of_gt
abbrev yq:=@wpAny_mono
abbrev yr:=@Array.getElem?_eq_none
abbrev yt:=@PySem.W.kia_one
abbrev yu:=@List.nodup_cons
abbrev yv:=@Int.emod_nonneg
abbrev yw:=@List.getElem?_range
abbrev yx:=@if_false
abbrev yy:=@wpAny_setField_rec
abbrev yz:=@Nat.lt_of_le_of_lt
abbrev yA:=@List.length_zip
abbrev yB:=@wpAny_call_entry
abbrev yC:=@Nat.le_add_right
abbrev yD:=@List.map_nil
abbrev yE:=@Nat.zero_le
abbrev yF:=@wpAny_updateSeq
abbrev yG:=@List.of_mem_zip
abbrev yH:=@List.append_nil
abbrev yI:=@Array.getElem?_toList
abbrev yJ:=@Around.under_plainId
abbrev yK:=@PyProof.Rows.F.plain_set_update_loop
abbrev yL:=@Nat.lt_trans
abbrev yM:=@Nat.le_of_lt
abbrev yN:=@wpAny_truthy_bool
abbrev yO:=@of_decide_eq_true
abbrev yP:=@Nat.lt_succ_of_lt
abbrev yQ:=@wpAny_specialOf
abbrev yR:=@PySem.F.slot_enumerate_iter
abbrev yS:=@List.replicate_zero
abbrev yT:=@Nat.lt_succ_self
abbrev yU:=@plainId_quiet
abbrev yV:=@builtinLookup_eq_fast
abbrev yW:=@List.zip_cons_cons
abbrev yX:=@PySem.F.plain_extend_loop
abbrev yY:=@Int.le_refl
abbrev yZ:=@wpAny_passesOwn
abbrev Ka:=@wpAny_ite_split
abbrev Kc:=@codeAny_builtin
abbrev Kd:=@List.ext_getElem?
abbrev Ke:=@List.append_assoc
abbrev Kf:=@wpAny_callSpecial?_slot
abbrev Kg:=@PySem.mem_of_lookup
abbrev Kh:=@List.map_congr_left
abbrev Ki:=@List.filterMap_cons
abbrev Kj:=@Int.one_mul
abbrev Kk:=@List.cons_append
abbrev Kl:=@Int.mul_nonneg
abbrev Km:=@tupleKind_room_in1
abbrev Kn:=@decide_false
abbrev Ko:=@boot_list
abbrev Kp:=@PySem.F.slot_dict_get
abbrev Kq:=@Nat.zero_add
abbrev Kr:=@Nat.sub_self
abbrev Ks:=@Nat.not_lt_zero
abbrev Kt:=@List.nil_append
abbrev Ku:=@List.mem_filter
abbrev Kv:=@List.find?_cons
abbrev Kw:=@Array.getD_eq_getD_getElem?
abbrev Kx:=@wpAny_newObj_type
abbrev Ky:=@or_false
abbrev Kz:=@List.getElem?_nil
abbrev KA:=@List.flatten_cons
abbrev KB:=@wpAny_seqItems
abbrev KC:=@PyProof.Rows.F.entry_set_update_loop
abbrev KD:=@List.pairwise_iff_getElem
abbrev KF:=@List.mem_range
abbrev KG:=@List.drop_eq_getElem_cons
abbrev KH:=@List.getElem_mem
abbrev KI:=@Bool.and_eq_true
abbrev KJ:=@beq_eq_false_iff_ne
abbrev KL:=@Int.add_mul
abbrev KM:=@Array.getElem?_push
abbrev KN:=@Int.le_trans
abbrev KO:=@typeLookup_type
abbrev KP:=@boot_sum
abbrev KQ:=@PySem.F.args_dict_get_2
abbrev KR:=@Calls.spliced_cons
abbrev KS:=@wpAny_nextOf_list_item
abbrev KU:=@PySem.F.entry_dict_get
abbrev KW:=@List.range_succ_eq_map
abbrev KY:=@List.drop_eq_nil_of_le
abbrev KZ:=@decide_true
abbrev K0:=@Calls.spliced_nil
abbrev K1:=@Int.add_zero
abbrev K2:=@wpAny_isInstance
abbrev K3:=@wpAny_askSetting
abbrev K4:=@Option.getD_some
abbrev K5:=@List.length_take
abbrev K6:=@wpAny_field
abbrev K7:=@wpAny_execs_nil
abbrev K8:=@pushCells_keeps
abbrev K9:=@Nat.le_succ
abbrev ka:=@List.mem_map_of_mem
abbrev kb:=@F.slot_zip_next
abbrev kc:=@F.plain_extend_loop
abbrev kd:=@Bool.eq_iff_iff
abbrev kj:=@codeAny_mono
abbrev kl:=@Nat.min_self
abbrev km:=@Int.zero_add
abbrev kn:=@Int.sub_zero
end
set_option hygiene false
local macro_rules | `(‹"a"›)=>`(fun _=>Or.inl rfl)
local macro_rules | `(‹"b"›)=>`(fun _=>hr.mono (by decide))
local macro_rules | `(‹"c"›)=>`(.lst (fl.map jr))
local macro_rules | `(‹"d"›)=>`(jG 10 (jq jO (jH (zx (jb (eC (.int 0)) (jb (jq jO (ja 5) (ja 8)) (jb (jq J4 (jq qS (jq jO (ja 5) (ja 8)) (jq qK (jq J4 (ja 9) (eC (.int 4))) (eC (.int 9)))) (eC (.int 8))) (jb (jq qK (jq J4 (ja 9) (eC (.int 4))) (jq qL (jq jO (ja 5) (ja 8)) (eC (.int 1)))) jk)))))) (jq qK (ja 9) (eC (.int 4)))))
local macro_rules | `(‹"e"›)=>`(X.blk (Lc++F) scope C s H fp)
local macro_rules | `(‹"f"›)=>`(model X.prog X.w)
local macro_rules | `(‹"g"›)=>`(.lst (P.map jh))
local macro_rules | `(‹"h"›)=>`(.lst (tm.map jh))
local macro_rules | `(‹"i"›)=>`(fun _=>Or.inr rfl)
local macro_rules | `(‹"j"›)=>`(.lst ((jj fl).map jC))
local macro_rules | `(‹"k"›)=>`(.lst (tu.map D.int))
local macro_rules | `(‹"l"›)=>`(fun _=>some true)
local macro_rules | `(‹"m"›)=>`(.lst ((zI P (jj fl).length).map D.int))
local macro_rules | `(‹"n"›)=>`(eg (qH tH (fun _=>rfl) (fun _=>T.tH) YN (jl (jc 0) jB)))
local macro_rules | `(‹"o"›)=>`(.lst (tw.map jh))
local macro_rules | `(‹"p"›)=>`(.lst (cells.map D.int))
local macro_rules | `(‹"q"›)=>`((zI P (jj fl).length).zip (qp fl))
local macro_rules | `(‹"r"›)=>`(.ListComp elt [⟨tg,iter,ifs,0⟩] scope pos)
local macro_rules | `(‹"s"›)=>`(jy (jy rfl rfl (zc (by decide) (by decide))) rfl (j5 (by decide)))
local macro_rules | `(‹"t"›)=>`(fun _=>show List.Nodup (["ship"]:List Str) from by decide +kernel)
local macro_rules | `(‹"u"›)=>`(x == ("__debug__":Str))
local macro_rules | `(‹"v"›)=>`(fun i=>tu.getD i 0)
local macro_rules | `(‹"w"›)=>`(jg3 (Jz 4 (jR (jz 4) (jR (jz 5) (jR (jz 6) (jR (jz 7) JJ))))) (jg J0 (jb (jg jT (jb (jm 0) (jb (jq qL (eC (.int 4)) (jq qS (eC (.int 2)) (ja 3))) jk))) (jb (jg jT (jb (jm 0) (jb (jq qL (eC (.int 5)) (jq qS (eC (.int 2)) (ja 3))) jk))) (jb (eC (.int 0)) jk)))))
local macro_rules | `(‹"x"›)=>`([.sh (jr s),.sh (.lst (S.map jC)),.sh (.lst (r.map D.int))])
local macro_rules | `(‹"y"›)=>`(Nat×Option Nat×Nat)
local macro_rules | `(‹"z"›)=>`(.lst ([0,1,x].map D.int))
local macro_rules | `(‹"A"›)=>`(.int (j2 (need-jw (fun j=>if M.getD j false=true then 0 else rs.getD j 0) rs.length)))
local macro_rules | `(‹"B"›)=>`([.sh (jh A),.sh (jh B),.sh (qA M),.ow (((List.range j).map (jv M A B)).map D.int),.sh (.int j),.sh (.bl (M.getD j false)),z])
local macro_rules | `(‹"C"›)=>`(k == NameKind.free && env.scope.kind == .function && env.kindOf n == some .cell)
local macro_rules | `(‹"D"›)=>`(.lst (Mo.map D.int))
local macro_rules | `(‹"E"›)=>`(ZK (qQ (ja 6)) (ZK (qQ (jq dLt (ja 8) (jq jO (jq jO (ja 1) (ja 4)) (ja 7)))) (qQ (jq (jbc true) (ja 7) (ja 3)))))
local macro_rules | `(‹"F"›)=>`(fun _=>show List.Nodup (["many","length"]:List Str) from by decide +kernel)
local macro_rules | `(‹"G"›)=>`(.tup [.int (zD P0 n),.lst (P0.map jh),.lst (M0.map D.bl)])
local macro_rules | `(‹"H"›)=>`(jG 11 (jq qK (jq qL (ja 8) (jq jO (ja 1) (jq qK (ja 4) (jg qG (jb (ja 1) jk))))) (jg qG (jb (ja 2) jk))))
local macro_rules | `(‹"I"›)=>`(jG 9 (jq jO (ja 1) (jq qK (jq qL (jq qS (ja 4) (jg qG (jb (ja 2) jk))) (ja 8)) (jg qG (jb (ja 1) jk)))))
local macro_rules | `(‹"J"›)=>`(eg (qH tH (fun _=>rfl) (fun _=>T.tH) YN (jl (jc 2) jB)))
local macro_rules | `(‹"K"›)=>`(.dic (kI ks) ds)
local macro_rules | `(‹"L"›)=>`(qj I q (by simp))
local macro_rules | `(‹"M"›)=>`(fun s=>tD.getD s 0)
local macro_rules | `(‹"N"›)=>`(pushCells (G.push { cls:=.type "dict",data:=.dict #[] }) scope.names)
local macro_rules | `(‹"O"›)=>`(.ListComp e [⟨tg,iter,ifs,0⟩] scope pos)
local macro_rules | `(‹"P"›)=>`(X.fn x=true\/X.env.scope.names.lookup x=some .local)
local macro_rules | `(‹"Q"›)=>`(.Call (.Name x p) (e::es) [] pos)
local macro_rules | `(‹"R"›)=>`(jR (jz 0) (jR (jz 1) JJ))
local macro_rules | `(‹"S"›)=>`(JV (jb (jq jO (jH (zx (jb (eC (.int 3)) (jb (eC (.int 4)) (jb (eC (.int 2)) (jb (eC (.int 3)) (jb (eC (.int 1)) (jb (eC (.int 0)) jk)))))))) (jq qK (ja 1) (eC (.int 6)))) jk))
local macro_rules | `(‹"T"›)=>`(fun _=>hr.mono (by omega))
local macro_rules | `(‹"U"›)=>`(jG 12 (jg QJ (jb (ja 6) (jb (jq zp (jq jO (ja 5) (ja 11)) (jq jO (ja 7) (ja 11))) jk))))
local macro_rules | `(‹"V"›)=>`(jG 3 (jq qS (jq zp (jq qK (jq qS (ja 0) (eC (.int 1103515245))) (eC (.int 2147483647))) (jq jaz (eC (.int 10)) (eC (.int 9)))) (jq jaz (eC (.int 10)) (eC (.int 5)))))
local macro_rules | `(‹"W"›)=>`(.lst (tF.map D.int))
local macro_rules | `(‹"X"›)=>`(.lst ((qo fl).map jh))
local macro_rules | `(‹"Y"›)=>`(fun s=>tE.getD s false)
local macro_rules | `(‹"Z"›)=>`(jg Zp (jb (jm 0) (jb (jm 1) (jb (jm 6) (jb (jm 7) jk)))))
local macro_rules | `(‹"0"›)=>`(s.heap.push { cls:=.type "range",data:=.fields #[.int lo t,.int hi u,.int 1 v] })
local macro_rules | `(‹"1"›)=>`(eg (qH tH (fun _=>rfl) (fun _=>T.tH) YN (jl (jc 1) jB)))
local macro_rules | `(‹"2"›)=>`(.lst (tD.map D.int))
local macro_rules | `(‹"3"›)=>`(s.heap.push { cls:=.type "set",dict:=none,data:=.set #[] 0 (.fresh 0 0 led) })
local macro_rules | `(‹"4"›)=>`(qQ (jq dGe (jq zp (jq jO (ja 1) (ja 2)) (jq jO (ja 3) (ja 0))) (eC (.int 2))))
local macro_rules | `(‹"5"›)=>`(jy rfl rfl (j5 (by decide)))
local macro_rules | `(‹"6"›)=>`(Z1 (by rw [M.hN j];exact hN) (hv j) hd hcd)
local macro_rules | `(‹"7"›)=>`(.lst ((qp fl).map D.int))
local macro_rules | `(‹"8"›)=>`(envOfC qual scope s.heap.objs.size f cd)
local macro_rules | `(‹"9"›)=>`(j3 (jH (jq jcU (ja 10) (jH (zx (jb (eC (.int 2)) (jb (eC (.int 3)) (jb (eC (.int 4)) (jb (eC (.int 5)) (jb (eC (.int 6)) jk))))))))))
local macro_rules | `(‹"aa"›)=>`(PySem.W.fnOf x qual (jK st) (jI st) (je st) .none kV doc pm an cdv ct)
local macro_rules | `(‹"ab"›)=>`(s.heap.push { cls:=.type "list",data:=.seq ([]:List Value).toArray })
local macro_rules | `(‹"ac"›)=>`(JK 7 (jg jcM (jb (ja 6) (jb (jq jO (ja 5) (ja 8)) (jb (ja 10) jk)))))
local macro_rules | `(‹"ad"›)=>`(jq jO (ja 0) (ja 4))
local macro_rules | `(‹"ae"›)=>`(.lst (p.map qm))
local macro_rules | `(‹"af"›)=>`(intKind prog w)
local macro_rules | `(‹"ag"›)=>`(fun q hq=>⟨(ok.ok q hq).1,(ok.ok q hq).2.1,(ok.ok q hq).2.2.1⟩)
local macro_rules | `(‹"ah"›)=>`(fun _=>show List.Nodup (["share"]:List Str) from by decide +kernel)
local macro_rules | `(‹"ai"›)=>`(jg qG (jb (ja 0) jk))
local macro_rules | `(‹"aj"›)=>`(jq jO (ja 0) (eC (.int 0)))
local macro_rules | `(‹"ak"›)=>`(ha tf s σ H _ I h)
local macro_rules | `(‹"al"›)=>`(WO.toE (jdd tN (fun _=>rfl) (fun _=>T.tN) Ko (jl (jc 2) jB)))
local macro_rules | `(‹"am"›)=>`(M.blk (Lc++Fn) scope)
local macro_rules | `(‹"an"›)=>`(JV (jb (jg qG (jb (ja 2) jk)) jk))
local macro_rules | `(‹"ao"›)=>`(wpAny_attempt (Kf (name:=Str.ofString "__next__") hT kb (yB kb hT F.entry_zip_next ?_ (F.args_zip_next_1 _))))
local macro_rules | `(‹"ap"›)=>`(qQ (jq dNe (jg qX (jb (jm 8) (jb (jm 9) (jb (jm 13) jk)))) (jg qX (jb (jm 8) (jb (jm 12) (jb (jm 13) jk))))))
local macro_rules | `(‹"aq"›)=>`(by simpa using hi)
local macro_rules | `(‹"ar"›)=>`(wpAny_attempt (Kf (name:=Str.ofString "__next__") hT slot_setit_next (yB slot_setit_next hT Q9 ?_ (ZD _))))
local macro_rules | `(‹"as"›)=>`(fun s=>if mk s=true then jY P i s else 0)
local macro_rules | `(‹"at"›)=>`(fun s=>if mk s=true then 0 else jY P i s)
local macro_rules | `(‹"au"›)=>`(by simp (disch:=omega) only [Jx,zx,jk,Ye,Y3,j6,yo,Yw,YB])
local macro_rules | `(‹"av"›)=>`(fun i t=>room i (pl (nt M) m t))
local macro_rules | `(‹"aw"›)=>`(SetTable.grown es1.size)
local macro_rules | `(‹"ax"›)=>`(((Q.getD i []).map D.int).set s (.int (g (jY Q i s) v)))
local macro_rules | `(‹"ay"›)=>`(jq jO (ja 0) (eC (.int 1)))
local macro_rules | `(‹"az"›)=>`([.sh (.scr ns),.sh (.int c),.ow (fl.map jr),.sh (.int (j:Int)),z4,z5,z6,z7,.un,.un,.un,.un,.un,.un,.un])
local macro_rules | `(‹"aA"›)=>`(∀a vs G' H',Ext G H G' H'->H a=none->G' a=none->H' a=some (.lst vs)->Reps G' vs ds->Q (.ref a) H')
local macro_rules | `(‹"aB"›)=>`(fun t=>if mk t=true then Jo fl.length (jY P) t else 0)
local macro_rules | `(‹"aC"›)=>`(JH (by simp (disch:=omega) only [jb,jg,ja,Yl,Yg,jk,Yi,Ye,jai];simp only [Yd]) (by omega) (by omega))
local macro_rules | `(‹"aD"›)=>`(A.deeper (envOfC qual (je st) s.heap.objs.size f cdv))
local macro_rules | `(‹"aE"›)=>`(jfD 7 (jm 11) (jq qL (jq jO (ja 7) (ja 11)) (ja 12)))
local macro_rules | `(‹"aF"›)=>`(by decide +kernel)
local macro_rules | `(‹"aG"›)=>`(assignEach es (M.X j).env)
local macro_rules | `(‹"aH"›)=>`(.dic (kI ks0) ds0)
local macro_rules | `(‹"aI"›)=>`((x1.trans x2).trans x3)
local macro_rules | `(‹"aJ"›)=>`(zZ (fun _=>rfl) (fun _=>T.tV) (jl (eg (qH tH (fun _=>rfl) (fun _=>T.tH) YN (jl (jc 3) jB))) jB))
local macro_rules | `(‹"aK"›)=>`(qI (h pos tf s σ H _ I hq) fun us s1 ⟨xs,H1,I1,r,z,q⟩=>⟨by rw [<-r.length];exact z,?_⟩)
local macro_rules | `(‹"aL"›)=>`(jdd tN (fun _=>rfl) (fun _=>T.tN) Ko (jl (jc 0) jB))
local macro_rules | `(‹"aM"›)=>`(fun t=>sqI (jL P t) (qh fl t))
local macro_rules | `(‹"aN"›)=>`(HT.sIx xs.length xs.length hi-HT.sIx xs.length 0 lo)
local macro_rules | `(‹"aO"›)=>`((List.range (min i1.toArray.size i2.toArray.size)).all e && i1.toArray.size == i2.toArray.size)
local macro_rules | `(‹"aP"›)=>`(qH tO (fun _=>rfl) (fun _=>T.tO) KP (jl (jc 0) jB))
local macro_rules | `(‹"aQ"›)=>`(∃P tE,d=.tup [.int (zD P n),.lst (P.map jh),.lst (tE.map D.bl)]/\Fill n m tu tm tF P0 P tE)
local macro_rules | `(‹"aR"›)=>`(jG 4 (jq qL (jq qL (ja 3) (eC (.int 1))) (jq qK (jq J4 (ja 0) (eC (.int 6))) (eC (.int 5)))))
local macro_rules | `(‹"aS"›)=>`(qI (ha pos tf s σ H _ I h) fun us s1 ⟨vs,H1,I1,r1,q1⟩=>hc tf s1 σ H1 vs us Q I1 r1 q1)
local macro_rules | `(‹"aT"›)=>`(jq (jbc false) (ja 7) (ja 3))
local macro_rules | `(‹"aU"›)=>`(fun r s'=>r=.ok (.ret (.bool true))/\OldK s₁.heap s'.heap/\s'.os=s₁.os/\AllBare s'.gens)
local macro_rules | `(‹"aV"›)=>`(Obj.mapSeq fun _=>(#[]:Array Value))
local macro_rules | `(‹"aW"›)=>`(c ρ=some true/\((∃ρ2 k2,B ρ=.next ρ2/\k2<k/\P k2 ρ2)\/∃d,B ρ=.ret d/\R (.ret d)))
local macro_rules | `(‹"aX"›)=>`(fun b hb=>⟨(hf b hb).2.2.2.1,(hf b hb).2.1,(hf b hb).2.2.2.2.1,(hf b hb).2.2.2.2.2⟩)
local macro_rules | `(‹"aY"›)=>`(KS (h1.extBut s1.extBut D.i1z) (hl1.extBut s1.extBut D.l1z) hx fun g2 p2 s2=>Yk (Yk ?_))
local macro_rules | `(‹"aZ"›)=>`(jd (WO.toE (JL (sc:=je jN) (Lc:=["share"]) (Fn:=["marks"]) (ix:=[3]) (fun _=>rfl) (show LcOk (je jN) ["needs","rooms","hours","marks","inside","outside","high","low"] _ ["marks"] [3] from by decide +kernel) (j9 (jc 1)) (j4 (i:=0) (fun _=>show List.Nodup (["share","marks"]:List Str) from by decide +kernel) rfl (by decide) ‹"a"› ‹"i"›) jU (WO.toE (qd (fun _=>jcY T) ‹"T"› (fun _=>rfl) (fun _=>T.wO) (fun _=>T.wu.kp) (fun _=>T.w5) (jd (jn 0) (jd (jn 1) (jd jay jt))))))) (jd (WO.toE (qd (fun _=>jcY T) ‹"T"› (fun _=>rfl) (fun _=>T.wO) (fun _=>T.wu.kp) (fun _=>T.w5) (jd (jn 2) (jd (jn 3) (jd jay jt))))) jt))
local macro_rules | `(‹"a0"›)=>`(WO.toE (JL (sc:=je jaT) (Lc:=["row"]) (Fn:=[]) (ix:=[]) (fun _=>rfl) (show LcOk (je jaT) ["script","cell","fleet","k","begin","end","need","most","parts","plan","levels","moves","beside","level","after"] _ [] [] from by decide +kernel) (j9 (jc 9)) (j4 (i:=0) (fun _=>show List.Nodup (["row"]:List Str) from by decide +kernel) rfl (by decide) ‹"a"› ‹"i"›) jU (WO.toE ‹"aL"›)))
local macro_rules | `(‹"a1"›)=>`(j4 (i:=0) ‹"t"› rfl (by decide) ‹"a"› ‹"i"›)
local macro_rules | `(‹"a2"›)=>`(WO.toE (qd (fun _=>Zv T) ‹"b"› (fun _=>rfl) (fun _=>T.vb) (fun _=>T.uz.kp) (fun _=>T.u4) (jd (jn 0) jt)))
local macro_rules | `(‹"a3"›)=>`([.sh ‹"h"›,.sh ‹"o"›,a,.od (kI ks) ds,.ow (nI ks),t,.sh (.int off),.sh (.int on),x8])
local macro_rules | `(‹"a4"›)=>`([.sh (.scr ns),.sh (.int c),.sh ‹"c"›,.sh (.int (j:Int)),z4,z5,z6,z7,.sh ‹"j"›,.sh (.lst (Q.map jh)),.sh ‹"z"›,.sh (.lst l),y12,z13,.sh (.lst (Q.map jh))])
local macro_rules | `(‹"a5"›)=>`([.sh (.scr ns),.sh (.int c),.sh ‹"c"›,.sh (.int (j:Int)),z4,z5,z6,z7,.sh ‹"j"›,.sh ‹"g"›,.sh ‹"z"›,.sh (.lst l),y12,y13,.sh (.lst (Q.map jh))])
local macro_rules | `(‹"a6"›)=>`(jg Qb (jb (jH (JC (j3 (ja 1)) (jz 0) ‹"l"› (jq jO (ja 0) (ja 1)) 1 [0])) jk))
local macro_rules | `(‹"a7"›)=>`(jQ (fun _=>zB T) ‹"b"› (fun _=>rfl) (fun _=>T.tT) (fun _=>T.tM.kp) (fun _=>T.tS) (jd (jn 0) (jd (zF (eg jx) (eg (zO (eg jx) (jc 3)))) jt)))
local macro_rules | `(‹"a8"›)=>`([.sh ‹"k"›,.sh ‹"h"›,.sh ‹"2"›,.sh (.int lv),.sh ‹"G"›,.un])
local macro_rules | `(‹"a9"›)=>`([.sh ‹"k"›,.sh ‹"h"›,.sh ‹"W"›,.sh ‹"g"›,x4,x5,x6,x7,x8])
local macro_rules | `(‹"ba"›)=>`([.sh ‹"k"›,.sh ‹"h"›,.sh ‹"2"›,.sh (.int lv),.sh ‹"G"›,.sh (.tup [.int (zD P1 n),.lst (P1.map jh),.lst (M1.map D.bl)])])
local macro_rules | `(‹"bb"›)=>`(jH (JC (j3 (ja 9)) (jz 0) ‹"l"› (jH (jg Qc (jb (ja 0) jk))) 1 []))
local macro_rules | `(‹"bc"›)=>`([.sh (.scr ns),.sh (.int c),.sh ‹"c"›,.sh (.int (j:Int)),z4,z5,z6,z7,.sh ‹"j"›,.sh ‹"g"›,.sh ‹"z"›,y11,y12,y13,y14])
local macro_rules | `(‹"bd"›)=>`(eg (jQ (fun _=>JX T) ‹"b"› (fun _=>rfl) (fun _=>T.ug) (fun _=>T.tX.kp) (fun _=>T.uh) (jd (jn 8) (jd (jn 9) (jd (jn 13) jt)))))
local macro_rules | `(‹"be"›)=>`(zZ (fun _=>rfl) (fun _=>T.tV) (jl ‹"n"› jB))
local macro_rules | `(‹"bf"›)=>`(jc2 (eg (jQ (fun _=>ZG T) ‹"b"› (fun _=>rfl) (fun _=>T.u0) (fun _=>T.uu.kp) (fun _=>T.u7) (jd (jn 0) (jd (jn 1) jt)))))
local macro_rules | `(‹"bg"›)=>`(j4 (i:=0) (fun _=>show List.Nodup (["many","level"]:List Str) from by decide +kernel) rfl (by decide) ‹"a"› ‹"i"›)
local macro_rules | `(‹"bh"›)=>`(Zr (qO (i:=0) ‹"F"› rfl (by decide) ‹"a"› ‹"i"› (qO (i:=1) ‹"F"› rfl (by decide) ‹"a"› ‹"i"› Zx)))
local macro_rules | `(‹"bi"›)=>`(WO.toE (qd (fun _=>Z8 T) ‹"b"› (fun _=>rfl) (fun _=>T.vj) (fun _=>T.uC.kp) (fun _=>T.vh) (jd (jn 0) (jd (jn 1) jt))))
local macro_rules | `(‹"bj"›)=>`([z0,.sh ‹"p"›,.sh (.lst parts),z3,.sh (.int i),.sh ‹"D"›,.sh (.int left),.ow (R.map D.int),.sh (.int j),f,g,h,w])
local macro_rules | `(‹"bk"›)=>`(jQ (fun _=>jdP T) ‹"b"› (fun _=>rfl) (fun _=>T.w6) (fun _=>T.vV.kp) (fun _=>T.rj) (jd (jn 1) (jd (jn 0) jt)))
local macro_rules | `(‹"bl"›)=>`(jc2 (eg (jQ (fun _=>Zb T) ‹"b"› (fun _=>rfl) (fun _=>T.uR) (fun _=>T.ue.kp) (fun _=>T.uS) (jd (jn 0) jt))))
local macro_rules | `(‹"bm"›)=>`(fun v s₁=>wpAny ‹"f"› X.A (eval b X.env) (fun u s₂=>wpAny ‹"f"› X.A (f v u) Q X.xe s₂) X.xe s₁)
local macro_rules | `(‹"bn"›)=>`([.sh ‹"K"›,.sh (.int s0),.ow (suf.reverse.map qm),.sh d])
local macro_rules | `(‹"bo"›)=>`(jQ (fun _=>zB T) ‹"b"› (fun _=>rfl) (fun _=>T.tT) (fun _=>T.tM.kp) (fun _=>T.tS) (jd (jn 0) (jd jx jt)))
local macro_rules | `(‹"bp"›)=>`(j4 (i:=0) ‹"ah"› rfl (by decide) ‹"a"› ‹"i"›)
local macro_rules | `(‹"bq"›)=>`(jQ (fun _=>jcz T) ‹"b"› (fun _=>rfl) (fun _=>T.wF) (fun _=>T.vz.kp) (fun _=>T.wJ) (jd (jn 0) jt))
local macro_rules | `(‹"br"›)=>`([.sh ‹"k"›,.sh ‹"h"›,.sh ‹"W"›,.sh ‹"g"›,.sh ‹"K"›,.sh (.lst (nI fr)),x6,x7,x8])
local macro_rules | `(‹"bs"›)=>`([.sh ‹"h"›,.sh ‹"o"›,.sh ‹"aH"›,.od (kI ks) ds,.ow (nI ks),.sh (.int (t:Int)),x6,x7,x8])
local macro_rules | `(‹"bt"›)=>`(.lst (S.map jC))
local macro_rules | `(‹"bu"›)=>`(‹"q"›.map fun q=>(q.1+q.2-1)/q.2)
local macro_rules | `(‹"bv"›)=>`(j8 (jy (jy rfl rfl j1) ‹"s"› j1))
local macro_rules | `(‹"bw"›)=>`(‹"q"›.map fun q=>q.1/q.2)
local macro_rules | `(‹"bx"›)=>`([.sh ‹"k"›,.sh ‹"h"›,.sh ‹"o"›,.sh ‹"ae"›,.sh (.int i0),.un,.un,.un,.un])
local macro_rules | `(‹"by"›)=>`(jD (i:=3) (Jh (eg (zN (jc 0) (eg jx))) (eg jx)) (fun _=>tJ.nd) rfl ‹"a"› ‹"a"›)
local macro_rules | `(‹"bz"›)=>`(eg (WO.toE (JL (sc:=je qe) (Lc:=["ship"]) (Fn:=[]) (ix:=[]) (fun _=>rfl) (show LcOk (je qe) ["fleet","hours"] _ [] [] from by decide +kernel) (j9 (jc 0)) ‹"a1"› jU (jP (jc 0) (eg jx)))))
namespace L2
open PySem PySem.Spec PyProof.Rows
abbrev zV:=Sum Int Str
def ZV:zV->Value->Bool
 | .inl k,v=>Value.isInt k v
 | .inr x,v=>Value.isStrOf x v
def jrF (w:World):zV->Int
 | .inl k=>hashInt k
 | .inr x=>hashStr w x
theorem qg:∀{k:zV} {v:Value},ZV k v=true->(∃i t,k=Sum.inl i/\v=Value.int i t)\/(∃x t,k=Sum.inr x/\v=Value.str x t)
 | .inl i,v,h=>by obtain ⟨t,e⟩:=Value.isInt_shape (k:=i) (v:=v) h;exact .inl ⟨i,t,rfl,e⟩
 | .inr x,v,h=>by obtain ⟨t,e⟩:=Value.isStrOf_shape (x:=x) (v:=v) h;exact .inr ⟨x,t,rfl,e⟩
theorem jkq (i:Int) (t:Tok):ZV (.inl i) (.int i t)=true:=by simp [ZV,Value.isInt]
theorem jkC (x:Str) (t:Tok):ZV (.inr x) (.str x t)=true:=by simp [ZV,Value.isStrOf]
theorem jpe (a b:Int):decide ((Sum.inl a:zV)=Sum.inl b)=(a == b):=by
 by_cases e:a=b
 . subst e;simp
 . have h:¬(Sum.inl a:zV)=Sum.inl b:=fun q=>e (Sum.inl.inj q);rw [Y1 h];exact (KJ.mpr e).symm
theorem jpk (a b:Str):decide ((Sum.inr a:zV)=Sum.inr b)=decide (a=b):=by
 by_cases e:a=b
 . subst e;simp
 . have h:¬(Sum.inr a:zV)=Sum.inr b:=fun q=>e (Sum.inr.inj q);rw [Y1 h,Y1 e]
theorem jqI (a:Int) (b:Str):decide ((Sum.inl a:zV)=Sum.inr b)=false:=Y1 (fun q=>nomatch q)
theorem jqD (a:Str) (b:Int):decide ((Sum.inr a:zV)=Sum.inl b)=false:=Y1 (fun q=>nomatch q)
def qf (prog:Program) (w:World):PySem.KeyKind prog w zV where
 is:=ZV
 hash:=jrF w
 inj:=fun v a b ha hb=>by
   rcases qg ha with ⟨i,t,rfl,rfl⟩ | ⟨x,t,rfl,rfl⟩
   . rcases qg hb with ⟨j,u,rfl,e⟩ | ⟨y,u,rfl,e⟩
     . injection e with e1 _;rw [e1]
     . exact nomatch e
   . rcases qg hb with ⟨j,u,rfl,e⟩ | ⟨y,u,rfl,e⟩
     . exact nomatch e
     . injection e with e1 _;rw [e1]
 byValue:=fun k v h=>by rcases qg h with ⟨i,t,rfl,rfl⟩ | ⟨x,t,rfl,rfl⟩ <;> rfl
 pyHash:=fun hv h=>by
   rcases qg hv with ⟨i,t,rfl,rfl⟩ | ⟨x,t,rfl,rfl⟩
   . exact wpAny_pyHash_int h
   . exact wpAny_pyHash_str h
 eqBool:=fun hu hv h=>by
   rcases qg hu with ⟨i,t,rfl,rfl⟩ | ⟨x,t,rfl,rfl⟩
   . rcases qg hv with ⟨j,u,rfl,rfl⟩ | ⟨y,u,rfl,rfl⟩
     . rw [jpe] at h;exact wpAny_eqBool_int h
     . rw [jqI] at h;exact SeqAt.EqAt.int_str i t y u _ _ _ _ h
   . rcases qg hv with ⟨j,u,rfl,rfl⟩ | ⟨y,u,rfl,rfl⟩
     . rw [jqD] at h;exact SeqAt.EqAt.str_int x t j u _ _ _ _ h
     . rw [jpk] at h;exact wpAny_eqBool_str h
 «strs»:=fun k x t v h=>by
   rcases qg h with ⟨i,u,rfl,e⟩ | ⟨y,u,rfl,e⟩
   . exact nomatch e
   . injection e with e1 _;subst e1;cases v <;> rfl
theorem jgI (prog:Program) (w:World) (i:Int) (t:Tok):(qf prog w).is (.inl i) (.int i t)=true:=jkq i t
theorem jg2 (prog:Program) (w:World) (x:Str) (t:Tok):(qf prog w).is (.inr x) (.str x t)=true:=jkC x t
end L2
namespace L2
open PySem PySem.Spec PyProof.Rows
set_option genInjectivity true in
inductive V where
 | non | bl (b:Bool) | int (i:Int) | str (x:Str) | byt (b:Array UInt8) | flt (b:UInt64) | ref (a:Addr) | ty (n:String)
 deriving DecidableEq
def RelV:V->Value->Prop
 | .non,u=>u=Value.none
 | .bl b,u=>u=Value.bool b
 | .int i,u=>∃t,u=Value.int i t
 | .str x,u=>∃t,u=Value.str x t
 | .byt b,u=>∃t,u=Value.bytes b t
 | .flt b,u=>∃t,u=Value.float b t
 | .ref a,u=>u=Value.ref a
 | .ty n,u=>u=Value.type n
abbrev Vals:List V->List Value->Prop:=Paired RelV
theorem Vals.length {xs:List V} {us:List Value} (r:Vals xs us):xs.length=us.length:=Paired.length r
theorem Vals.get:∀{xs:List V} {us:List Value} {i:Nat} {x:V},Vals xs us->xs[i]?=some x->∃u,us[i]?=some u/\RelV x u
 | _,_,_,_,.nil,e=>by simp at e
 | _,_,0,_,.cons r _,e=>by simp at e;subst e;exact ⟨_,rfl,r⟩
 | _,_,i+1,x,.cons _ t,e=>by obtain ⟨u,h1,h2⟩:=Vals.get (i:=i) (x:=x) t (by simpa using e);exact ⟨u,by simpa using h1,h2⟩
theorem Vals.set {x:V} {u:Value} (r:RelV x u):∀{xs:List V} {us:List Value} (i:Nat),Vals xs us->Vals (xs.set i x) (us.set i u)
 | _,_,_,.nil=>.nil
 | _,_,0,.cons _ t=>.cons r t
 | _,_,i+1,.cons q t=>.cons q (Vals.set r i t)
theorem Vals.append:∀{xs ys:List V} {us ws:List Value},Vals xs us->Vals ys ws->Vals (xs++ys) (us++ws):=fun h s=>by
 induction h with
 | nil=>exact s
 | cons r _ ih=>exact .cons r ih
theorem Vals.take:∀{xs:List V} {us:List Value} (n:Nat),Vals xs us->Vals (xs.take n) (us.take n)
 | _,_,0,_=>.nil
 | _,_,_+1,.nil=>.nil
 | _,_,n+1,.cons r t=>.cons r (Vals.take n t)
theorem Vals.drop:∀{xs:List V} {us:List Value} (n:Nat),Vals xs us->Vals (xs.drop n) (us.drop n)
 | _,_,0,r=>r
 | _,_,_+1,.nil=>.nil
 | _,_,n+1,.cons _ t=>Vals.drop n t
def RelO:Option V->Option Value->Prop
 | some v,some u=>RelV v u
 | none,none=>True
 | _,_=>False
def KV {κ:Type}:List (κ×V)->List (κ×Value)->Prop:=Paired fun (p:κ×V) (q:κ×Value)=>p.1=q.1/\RelV p.2 q.2
def kV:zV->V
 | .inl i=>.int i
 | .inr x=>.str x
set_option genInjectivity true in
inductive HO where
 /-- a list -/
 | lst (xs:List V)
 /-- a tuple (never changes) -/
 | tup (xs:List V)
 /-- a dict whose keys are ints and texts; one whose keys are tuples of ints and texts (the empty one is both) -/
 | dK (kvs:List (zV×V)) | dT (kvs:List (List zV×V))
 /-- a set of ints: its members, its size -/
 | set (S:Int->Bool) (n:Nat)
 /-- an instance of the class at C, its dict at dx, its attributes -/
 | ins (C dx:Addr) (fs:List (Str×V))
 /-- the dict of the instance at x -/
 | own (x:Addr)
 /-- the dict of an exception -/
 | xd (fs:List (Str×V))
 /-- a bound method, f of x -/
 | met (f x:Addr)
 /-- a range object lo, lo + 1, .. below hi -/
 | rng (lo hi:Int)
 /-- a thing that is known to the object (the script; a dict while a loop walks it): read, never written while it is so -/
 | frz (o:Obj) (u:HO)
 /-- a code object's table -/
 | tbl (ps:Array Value)
 /-- any other thing, by what is true of its one object (a def of one's own: SetO a S n := HO.ext fun h => ..) -/
 | ext (φ:Heap->Prop)
abbrev Hp:=Addr->Option HO
def upd (H:Hp) (a:Addr) (o:HO):Hp:=fun b=>if b=a then some o else H b
theorem jE {H:Hp} {a:Addr} {o:HO}:upd H a o a=some o:=by unfold upd;rw [if_pos rfl]
theorem jF {H:Hp} {a b:Addr} {o:HO} (h:b≠a):upd H a o b=H b:=by unfold upd;rw [if_neg h]
theorem jrO {H:Hp} {a b:Addr} {o u:HO} (h:H a=some o) (h':H b=some u) (d:o≠u):a≠b:=by intro e;subst e;rw [h] at h';exact d (Option.some.inj h')
theorem jM {H:Hp} {a b:Addr} {o:HO} (h:H a=some o) (h':H b=none):a≠b:=by intro e;subst e;rw [h] at h';cases h'
section
variable (P:Program) (w:World)
def ObjOk (H:Hp) (h:Heap) (a:Addr):HO->Prop
 | .lst xs=>xs.length ≤ sizeLine ∧ ∃(its:List Value) (n:Nat),Vals xs its ∧ h.get? a=some { cls:=.type "list",data:=.seq its.toArray n }
 | .tup xs=>xs.length<=sizeLine/\∃its:List Value,Vals xs its/\IsTup h a its.toArray
 | .dK kvs=>kvs.length<=sizeLine/\(a == sysModules)=false/\∃vs,KV kvs vs/\h.DictOf (qf P w) a vs
 | .dT kvs=>kvs.length<=sizeLine/\(a == sysModules)=false/\∃xs:List (List zV×Addr×Value),
  Paired (fun (p:List zV×V) (q:List zV×Addr×Value)=>p.1=q.1/\H q.2.1=some (.tup (p.1.map kV))/\RelV p.2 q.2.2) kvs xs /\
  ∃o es ep,h.get? a=some o/\o.ExactDict/\o.data=.dict es ep/\es.toList=xs.map (entryOfKey (tupleKind (qf P w)))/\(xs.map (·.1)).Nodup
 | .set S n=>h.SetOf (intKind P w) a S n
 | .ins C dx fs=>H dx=some (.own a)/\fs.length<=1000/\dx≠a/\h.get? a=some (PySem.W.instObj C dx) /\
  ∃mA,h.Ns1 dx mA/\(∀f,RelO (fs.lookup f) (mA f))/\PySem.Within mA (fs.map (·.1))
 | .own _=>∃o,h.get? a=some o
 | .xd fs=>∃mA,h.Ns1 a mA/\∀f,RelO (fs.lookup f) (mA f)
 | .rng lo hi=>∃t u v,h.get? a=some { cls:=.type "range",data:=.fields #[.int lo t,.int hi u,.int 1 v] }
 | .frz o u=>h.get? a=some o/\ObjOk H h a u
 | .tbl ps=>h.get? a=some { cls:=.none,data:=.fields ps }
 | .met f x=>h.get? a=some (PySem.W.methodObj (.ref f) (.ref x))
 | .ext φ=>φ h/\(∃o,h.get? a=some o)/\∀h1 h2:Heap,φ h1->(∀o,h1.get? a=some o->h2.get? a=some o)->φ h2
def HOk (H:Hp) (h:Heap):Prop:=∀a o,H a=some o->ObjOk P w H h a o
end
section
variable {P:Program} {w:World} {H H':Hp} {h h':Heap} {a:Addr} {o:HO}
theorem ObjOk.lt (x:ObjOk P w H h a o):a<h.objs.size:=by
 cases o with
 | lst xs=>obtain ⟨_,_,_,_,e⟩:=x;exact Yy e
 | tup xs=>obtain ⟨_,_,_,p⟩:=x;exact p.lt
 | dK kvs=>obtain ⟨_,_,_,_,o,_,_,e,_⟩:=x;exact Yy e
 | dT kvs=>obtain ⟨_,_,_,_,o,_,_,e,_⟩:=x;exact Yy e
 | set S n=>obtain ⟨o,_,_,_,e,_⟩:=x;exact Yy e
 | ins C dx fs=>obtain ⟨_,_,_,e,_⟩:=x;exact Yy e
 | own y=>obtain ⟨_,e⟩:=x;exact Yy e
 | xd fs=>obtain ⟨_,⟨_,_,_,e,_⟩,_⟩:=x;exact Yy e
 | rng lo hi=>obtain ⟨_,_,_,e⟩:=x;exact Yy e
 | frz ob u=>obtain ⟨e,_⟩:=x;exact Yy e
 | tbl ps=>exact Yy (show h.get? a=some _ from x)
 | met f y=>exact Yy (show h.get? a=some _ from x)
 | ext φ=>obtain ⟨_,⟨_,e⟩,_⟩:=x;exact Yy e
theorem Paired.mapP {α β:Type} {F G:α->β->Prop}:∀{l₁:List α} {l₂:List β},Paired F l₁ l₂->(∀a b,F a b->G a b)->Paired G l₁ l₂:=fun h f=>by
 induction h with
 | nil=>exact .nil
 | cons r _ ih=>exact .cons (f _ _ r) ih
theorem ObjOk.stay (x:ObjOk P w H h a o) (k:∀b u,(b=a\/H b=some (.own a))->h.get? b=some u->h'.get? b=some u)
 (ho:∀b,H b=some (.own a)->H' b=some (.own a)) (ht:∀b xs,H b=some (.tup xs)->H' b=some (.tup xs)):ObjOk P w H' h' a o:=by
 induction o with
 | lst xs=>obtain ⟨z,its,n,r,e⟩:=x;exact ⟨z,its,n,r,k _ _ (.inl rfl) e⟩
 | tup xs=>obtain ⟨z,its,r,ob,e,c⟩:=x;exact ⟨z,its,r,ob,k _ _ (.inl rfl) e,c⟩
 | dK kvs=>obtain ⟨z,y,vs,r,ob,es,ep,e,c⟩:=x;exact ⟨z,y,vs,r,ob,es,ep,k _ _ (.inl rfl) e,c⟩
 | dT kvs=>obtain ⟨z,y,xs,r,ob,es,ep,e,c⟩:=x;exact ⟨z,y,xs,Paired.mapP r fun p q z=>⟨z.1,ht _ _ z.2.1,z.2.2⟩,ob,es,ep,k _ _ (.inl rfl) e,c⟩
 | set S n=>obtain ⟨ob,es,ep,t,e,c⟩:=x;exact ⟨ob,es,ep,t,k _ _ (.inl rfl) e,c⟩
 | ins C dx fs=>obtain ⟨d,z,ne,e,mA,⟨od,es,ep,e2,c⟩,r⟩:=x;exact ⟨ho _ d,z,ne,k _ _ (.inl rfl) e,mA,⟨od,es,ep,k _ _ (.inr d) e2,c⟩,r⟩
 | own y=>obtain ⟨ob,e⟩:=x;exact ⟨ob,k _ _ (.inl rfl) e⟩
 | xd fs=>obtain ⟨mA,⟨od,es,ep,e,c⟩,r⟩:=x;exact ⟨mA,⟨od,es,ep,k _ _ (.inl rfl) e,c⟩,r⟩
 | rng lo hi=>obtain ⟨t,u,v,e⟩:=x;exact ⟨t,u,v,k _ _ (.inl rfl) e⟩
 | frz ob u ih=>obtain ⟨e,q⟩:=x;exact ⟨k _ _ (.inl rfl) e,ih q⟩
 | tbl ps=>have e:h.get? a=some { cls:=.none,data:=.fields ps }:=x;show h'.get? a=some { cls:=.none,data:=.fields ps };exact k a _ (.inl rfl) e
 | met f y=>have e:h.get? a=some (PySem.W.methodObj (.ref f) (.ref y)):=x;show h'.get? a=some (PySem.W.methodObj (.ref f) (.ref y));exact k a _ (.inl rfl) e
 | ext φ=>obtain ⟨p,⟨o,e⟩,st⟩:=x;exact ⟨st _ _ p fun o q=>k _ _ (.inl rfl) q,⟨o,k _ _ (.inl rfl) e⟩,st⟩
theorem HOk.lt (x:HOk P w H h) (e:H a=some o):a<h.objs.size:=(x a o e).lt
theorem HOk.fresh (x:HOk P w H h) (e:h.objs.size<=a):H a=none:=by
 cases q:H a with
 | none=>rfl
 | some u=>exact absurd (Yn (x.lt q) e) (Y7 _)
theorem HOk.kept (x:HOk P w H h) (k:∀b u,h.get? b=some u->h'.get? b=some u):HOk P w H h':=fun a o e=>(x a o e).stay (fun b u _ q=>k b u q) (fun _ q=>q) fun _ _ q=>q
theorem HOk.laid (x:HOk P w H h) (k:∀b u,h.get? b=some u->h'.get? b=some u) (hp:h.objs.size<=a) (new:ObjOk P w (upd H a o) h' a o):HOk P w (upd H a o) h':=fun b u e=>by
 have hn:=x.fresh hp;by_cases hb:b=a
 . subst hb;rw [jE] at e;cases e;exact new
 . rw [jF hb] at e;exact (x b u e).stay (fun c v _ q=>k c v q) (fun c q=>by rw [jF (jM q hn)];exact q) fun c xs q=>by rw [jF (jM q hn)];exact q
end
def Rd (H:Hp) (a:Addr) (u:HO):Prop:=H a=some u\/∃o,H a=some (.frz o u)
theorem Rd.ok {P:Program} {w:World} {H:Hp} {h:Heap} {a:Addr} {u:HO} (r:Rd H a u) (x:HOk P w H h):ObjOk P w H h a u:=by
 rcases r with r | ⟨o,r⟩
 . exact x a u r
 . obtain ⟨_,q⟩:=x a _ r;exact q
def Mut:Option HO->Prop
 | some (.lst _)=>True
 | some (.dK _)=>True
 | some (.dT _)=>True
 | some (.set _ _)=>True
 | some (.ins _ _ _)=>True
 | some (.ext _)=>True
 | _=>False
section
variable {P:Program} {w:World} {H:Hp} {h h':Heap} {x e:Addr} {o':HO}
theorem HOk.write (ok:HOk P w H h) (mu:Mut (H x)) (he:e=x\/H e=some (.own x)) (k:∀b u,b≠e->h.get? b=some u->h'.get? b=some u) (heo:∃u,h'.get? e=some u)
 (new:ObjOk P w (upd H x o') h' x o'):HOk P w (upd H x o') h':=fun b u q=>by
 have nown:∀c y,H c=some (.own y)->c≠x:=fun c y r z=>by subst z;rw [r] at mu;exact mu
 have ntup:∀c xs,H c=some (.tup xs)->c≠x:=fun c xs r z=>by subst z;rw [r] at mu;exact mu
 by_cases hb:b=x
 . subst hb;rw [jE] at q;cases q;exact new
 . rw [jF hb] at q;by_cases hbe:b=e
   . have q':H b=some (.own x):=by
       rcases he with z | z
       . exact absurd (hbe.trans z) hb
       . rw [hbe];exact z
     rw [q] at q';cases q';obtain ⟨v,hv⟩:=heo;exact ⟨v,by rw [hbe];exact hv⟩
   . refine (ok b u q).stay (fun c v hc r=>k c v ?_ r) (fun c r=>by rw [jF (nown c b r)];exact r) fun c xs r=>by rw [jF (ntup c xs r)];exact r
     rcases hc with rfl | hc
     . exact hbe
     . rintro rfl;rcases he with z | z
       . exact nown c b hc z
       . rw [hc] at z;cases z;exact hb rfl
end
structure Un (fs ex:List Addr) (H H':Hp) (h h':Heap):Prop where
 keep:∀b o,h.get? b=some o->H b=none->b∉fs->b∉ex->h'.get? b=some o
 slot:∀b o,h.get? b=some o->H b=none->b∈fs->b∉ex->∃sl,h'.get? b=some { o with slots:=sl }
 free:∀b o,h.get? b=some o->H b=none->b∉ex->H' b=none
 there:∀b o,h.get? b=some o->b∉ex->∃o',h'.get? b=some o'
 tups:∀b xs,H b=some (.tup xs)->H' b=some (.tup xs)
 frzs:∀b o u,H b=some (.frz o u)->H' b=some (.frz o u)
 tbls:∀b ps,H b=some (.tbl ps)->∃more,H' b=some (.tbl (ps++more))
section
variable {fs fs' ex ex':List Addr} {H H1 H2:Hp} {h h1 h2 h':Heap} {a x e:Addr} {o:HO}
theorem Un.any (u:Un fs ex H H1 h h1) {b:Addr} {ob:Obj} (q:h.get? b=some ob) (n:H b=none) (hx:b∉ex):∃sl,h1.get? b=some { ob with slots:=sl }:=by
 by_cases hb:b∈fs
 . exact u.slot b ob q n hb hx
 . exact ⟨ob.slots,u.keep b ob q n hb hx⟩
theorem Un.trans (a:Un fs ex H H1 h h1) (b:Un fs ex H1 H2 h1 h2):Un fs ex H H2 h h2 where
 keep:=fun c ob q n hc hx=>b.keep c ob (a.keep c ob q n hc hx) (a.free c ob q n hx) hc hx
 slot:=fun c ob q n hc hx=>by obtain ⟨sl,e1⟩:=a.slot c ob q n hc hx;obtain ⟨sl',e2⟩:=b.slot c _ e1 (a.free c ob q n hx) hc hx;exact ⟨sl',e2⟩
 free:=fun c ob q n hx=>by obtain ⟨o',e1⟩:=a.there c ob q hx;exact b.free c o' e1 (a.free c ob q n hx) hx
 there:=fun c ob q hx=>by obtain ⟨o',e1⟩:=a.there c ob q hx;exact b.there c o' e1 hx
 tups:=fun c xs q=>b.tups c xs (a.tups c xs q)
 frzs:=fun c ob xs q=>b.frzs c ob xs (a.frzs c ob xs q)
 tbls:=fun c ps q=>by obtain ⟨m1,e1⟩:=a.tbls c ps q;obtain ⟨m2,e2⟩:=b.tbls c _ e1;exact ⟨m1++m2,by rw [e2,Array.append_assoc]⟩
theorem Un.kept (k:∀b u,h.get? b=some u->h'.get? b=some u):Un fs ex H H h h':=⟨fun b ob q _ _ _=>k b ob q,fun b ob q _ _ _=>⟨ob.slots,k b ob q⟩,fun _ _ _ n _=>n,fun b ob q _=>⟨ob,k b ob q⟩,fun _ _ q=>q,fun _ _ _ q=>q,fun _ ps q=>⟨#[],by rw [q];simp⟩⟩
theorem Un.refl:Un fs ex H H h h:=Un.kept fun _ _ q=>q
theorem Un.laid (k:∀b u,h.get? b=some u->h'.get? b=some u) (hp:h.objs.size<=a) (hn:H a=none):Un fs ex H (upd H a o) h h' where
 keep:=fun b u q _ _ _=>k b u q
 slot:=fun b u q _ _ _=>⟨u.slots,k b u q⟩
 free:=fun b u q n _=>by rw [jF (Yv (Yn (Yy q) hp))];exact n
 there:=fun b u q _=>⟨u,k b u q⟩
 tups:=fun b xs q=>by rw [jF (jM q hn)];exact q
 frzs:=fun b u xs q=>by rw [jF (jM q hn)];exact q
 tbls:=fun b ps q=>⟨#[],by rw [jF (jM q hn),q];simp⟩
theorem Un.write (mu:Mut (H x)) (he:e=x\/H e=some (.own x)) (k:∀b u,b≠e->h.get? b=some u->h'.get? b=some u) (heo:∃u,h'.get? e=some u):Un fs ex H (upd H x o) h h':=by
 have hx:∀b,H b=none->b≠x:=fun b n z=>by subst z;rw [n] at mu;exact mu
 have hb:∀b,H b=none->b≠e:=fun b n z=>by
  subst z;rcases he with r | r
  . exact hx b n r
  . rw [n] at r;cases r
 have hm:∀b u,H b=some u->¬Mut (some u)->b≠x:=fun b u q nm z=>by subst z;rw [q] at mu;exact nm mu
 refine ⟨fun b u q n _ _=>k b u (hb b n) q,fun b u q n _ _=>⟨u.slots,k b u (hb b n) q⟩,fun b u q n _=>by rw [jF (hx b n)];exact n,fun b u q _=>?_,
  fun b xs q=>by rw [jF (hm b _ q fun z=>z)];exact q,fun b u xs q=>by rw [jF (hm b _ q fun z=>z)];exact q,fun b ps q=>⟨#[],by rw [jF (hm b _ q fun z=>z),q];simp⟩⟩
 by_cases hbe:b=e
 . subst hbe;exact heo
 . exact ⟨u,k b u hbe q⟩
end
def trk (h:Heap) (H:Hp):List Addr:=(List.range h.objs.size).filter fun a=>(H a).isSome
def jfG (h:Heap) (H:Hp):Heap:=PySem.W.hideAll h (trk h H)
theorem jkt (h:Heap) (H:Hp):(jfG h H).objs.size=h.objs.size:=PySem.W.hideAll_size _ _
theorem jmq {h:Heap} {H:Hp} {b:Addr} {o:Obj} (e:h.get? b=some o) (n:H b=none):(jfG h H).get? b=some o:=
 PySem.W.hideAll_get _ e fun hm=>by have q:(H b).isSome=true:=(Ku.mp hm).2;rw [n] at q;simp at q
theorem jnw {h:Heap} {H:Hp} {b:Addr} {o:Obj} (e:(jfG h H).get? b=some o):h.get? b=some o/\H b=none:=by
 have e':h.get? b=some o:=PySem.W.of_hideAll (trk h H) e;refine ⟨e',?_⟩;cases q:H b with
 | none=>rfl
 | some x=>have hm:b∈trk h H:=Ku.mpr ⟨KF.mpr (Yy e'),by simp [q]⟩;have z:(jfG h H).get? b=none:=PySem.W.hideAll_none (trk h H) hm;rw [z] at e;cases e
def jnp (g h:Heap) (L:Addr):List (Addr×Obj):=(List.range h.objs.size).filterMap fun a=>if a=L\/(g.get? a).isSome=true then none else (h.get? a).map fun o=>(a,o)
def rest (g h:Heap) (L d:Addr):List (Addr×Obj):=(jnp g h L).filter fun p=>decide (p.1≠d)
end L2
namespace L2
open PySem PySem.Spec PyProof.Rows
structure Mod (K:PySem.W.Frag) (mg:Str->Option Value) (base:Heap):Prop where
 kin:K.In base
 glob:base.Ns mainGlobals mg
 blt:∃mb,base.Ns builtinsNs mb ∧ ∀x:Str,x ≠ "__name__" → mb x=bootBuiltins x
 nolimit:base.NoLimit
/-- the context: a def's body (or a comprehension's block) running. base: fixed through the whole law; s₀, H₀: the entry; outer: the frames whose slots others may change (a def's callers); stack: all frames that run;
 ex: iterators that were made ahead of the entry and are walked here (a comprehension's);fn: the names whose cells were made at the entry (a def: all;a comprehension's block: its own);calm: not within an except suite;pn: tf that every state bears;xe: what is wanted of an exception that leaves the code -/
structure Cx where
 prog:Program
 w:World
 K:PySem.W.Frag
 mg:Str->Option Value
 base:Heap
 A:Around
 N:List Str
 s₀:Shared
 H₀:Hp
 env:Env
 outer:List Env
 stack:List Env
 ex:List Addr
 fn:Str->Bool
 calm:Bool
 pn:List (Addr×Obj)
 xe:Value->Shared->Prop
def frs (l:List Env):List Addr:=l.filterMap (·.frame)
abbrev Cx.fs (X:Cx):List Addr:=frs X.outer
def Vis (sc:Scope) (x:Str):Prop:=sc.names.lookup x=some .local\/sc.names.lookup x=some .cell\/sc.names.lookup x=some .free
def Loc (sc:Scope) (x:Str):Prop:=sc.names.lookup x=some .local\/sc.names.lookup x=some .cell
def js6 (env:Env) (h:Heap) (m:Str->Option Value) (x:Str) (u:Value):Prop:=(env.kindOf x=some .local/\m x=some u)\/((env.kindOf x=some .cell\/env.kindOf x=some .free)/\∃c,env.cells.lookup x=some c/\h.IsCell c (some u))
structure Cx.Ok (X:Cx):Prop where
 mod:Mod X.K X.mg X.base
 kind:X.env.scope.kind=.function
 glob:X.env.globals=mainGlobals
 blt:X.env.builtins=builtinsNs
 above:X.s₀.heap.objs.size<=X.env.locals
 inj:∀x y c,X.env.cells.lookup x=some c->X.env.cells.lookup y=some c->x=y
 has:∀x,(X.env.kindOf x=some .cell\/X.env.kindOf x=some .free)->∃c,X.env.cells.lookup x=some c
 cab:∀x c,X.fn x=true->X.env.cells.lookup x=some c->X.s₀.heap.objs.size<=c
 hd:X.calm=true->X.A.handled=none
 frames:X.A.frames=some X.stack
 stk:X.stack=X.outer\/(X.stack=X.env::X.outer/\X.env.frame=some X.env.locals)
 exf:∀b∈X.ex,b≠X.env.locals/\∀x c,X.env.cells.lookup x=some c->c≠b
 bs:∀b o,X.base.get? b=some o->X.s₀.heap.get? b=some o/\X.H₀ b=none
 bsz:X.base.objs.size<=X.s₀.heap.objs.size
 noex:∀b o,X.base.get? b=some o->b∉X.ex
 exfs:∀b∈X.ex,b∉X.fs
 funs:X.s₀.heap.FunFrames X.base X.outer
 frf:∀b∈X.fs,X.H₀ b=none
structure Inv (X:Cx) (tf:List (Addr×Obj)) (σ:List (Option V)) (H:Hp) (s:Shared):Prop where
 ok:X.Ok
 os:s.os=X.s₀.os
 bare:AllBare s.gens
 base:Un X.fs X.ex X.H₀ H X.s₀.heap s.heap
 loc:∃m,s.heap.Ns X.env.locals m/\∀(i:Nat) (x:Str) (v:V),X.N[i]?=some x->σ[i]?=some (some v)->Vis X.env.scope x->∃u,RelV v u/\js6 X.env s.heap m x u
 cell:∀x c,X.env.cells.lookup x=some c->∃v,s.heap.IsCell c v
 free:H X.env.locals=none
 freeC:∀x c,X.env.cells.lookup x=some c->H c=none
 pin:∀p∈X.pn++tf,s.heap.get? p.1=some p.2/\H p.1=none/\p.1≠X.env.locals/\p.1∉X.fs/\∀v,p.2.data≠.cell v
 hok:HOk X.prog X.w H s.heap
 len:σ.length=X.N.length
section
variable {X:Cx} {tf:List (Addr×Obj)} {σ:List (Option V)} {H H':Hp} {s:Shared} {h':Heap}
theorem Cx.Ok.nofr (ok:X.Ok) {b:Addr} {o:Obj} (e:X.base.get? b=some o):b∉X.fs:=fun hb=>by have:=(ok.funs.mem hb).1;rw [e] at this;cases this
theorem Inv.bs (I:Inv X tf σ H s):∀b o,X.base.get? b=some o->s.heap.get? b=some o/\H b=none:=fun b o e=>⟨I.base.keep b o (I.ok.bs b o e).1 (I.ok.bs b o e).2 (I.ok.nofr e) (I.ok.noex b o e),I.base.free b o (I.ok.bs b o e).1 (I.ok.bs b o e).2 (I.ok.noex b o e)⟩
theorem Inv.bk (I:Inv X tf σ H s):∀b o,X.base.get? b=some o->s.heap.get? b=some o:=fun b o e=>(I.bs b o e).1
theorem Inv.mod (I:Inv X tf σ H s):Mod X.K X.mg X.base:=I.ok.mod
theorem Inv.kIn (I:Inv X tf σ H s):X.K.In s.heap:=I.ok.mod.kin.keeps I.bk
theorem Inv.fr (I:Inv X tf σ H s):∃m,Fr X.base X.env.locals s.heap m:=
 let ⟨m,hn,_⟩:=I.loc
 ⟨m,hn,I.bk,Y5 I.ok.bsz I.ok.above⟩
theorem Inv.lt (I:Inv X tf σ H s):X.env.locals<s.heap.objs.size:=let ⟨_,hn,_⟩:=I.loc;hn.lt
theorem Inv.sz (I:Inv X tf σ H s):X.s₀.heap.objs.size<=s.heap.objs.size:=Y5 I.ok.above (yM I.lt)
theorem Inv.nofs (I:Inv X tf σ H s) {a:Addr} (h:s.heap.objs.size<=a):a∉X.fs:=fun hb=>by obtain ⟨_,o,ho,_⟩:=I.ok.funs.mem hb;exact absurd (Yn (Yy ho) (Y5 I.sz h)) (Y7 _)
theorem Inv.cne (I:Inv X tf σ H s):∀x c,X.env.cells.lookup x=some c->c≠X.env.locals:=fun x c e z=>by obtain ⟨v,o,ho,hd⟩:=I.cell x c e;obtain ⟨m,⟨o',es,ep,ho',hd',_⟩,_⟩:=I.loc;rw [z,ho'] at ho;cases ho;rw [hd'] at hd;cases hd
theorem Inv.funs (I:Inv X tf σ H s):s.heap.FunFrames X.base X.outer:=by
 have all:∀(l:List Env),(∀b∈frs l,b∈X.fs)->X.s₀.heap.FunFrames X.base l->s.heap.FunFrames X.base l:=by
  intro l;induction l with
  | nil=>intro _ _;trivial
  | cons env r ih=>intro hs hl;obtain ⟨hk,⟨L,o,hf,hn,ho,hd⟩,hr⟩:=hl;have hL:L∈X.fs:=hs L (by unfold frs;rw [Ki,hf];exact Yf);obtain ⟨sl,e⟩:=I.base.slot L o ho (I.ok.frf L hL) hL fun z=>I.ok.exfs L z hL;exact ⟨hk,⟨L,_,hf,hn,e,hd⟩,ih (fun b hb=>hs b (by unfold frs;rw [Ki,hf];exact Ym _ hb)) hr⟩
 exact all X.outer (fun _ hb=>hb) I.ok.funs
theorem Inv.stack (I:Inv X tf σ H s):s.heap.FunFrames X.base X.stack:=by
 rcases I.ok.stk with e | ⟨e,hf⟩
 . rw [e];exact I.funs
 . rw [e];obtain ⟨m,hn,_⟩:=I.loc;refine .cons (by rw [I.ok.kind];decide) hf hn ?_ I.funs;exact Heap.get?_none_of_le (Y5 I.ok.bsz I.ok.above)
theorem Inv.stkSub (I:Inv X tf σ H s):∀b∈frs X.stack,b∈X.env.locals::X.fs:=fun b hb=>by
 rcases I.ok.stk with e | ⟨e,hf⟩
 . rw [e] at hb;exact Ym _ hb
 . rw [e] at hb;unfold frs at hb;rw [Ki,hf] at hb;exact hb
theorem Inv.stkFree (I:Inv X tf σ H s):∀b∈frs X.stack,H b=none:=fun b hb=>by
 rcases Yr.mp (I.stkSub b hb) with e | hb
 . rw [e];exact I.free
 . obtain ⟨_,o,ho,_⟩:=I.ok.funs.mem hb;exact I.base.free b o ho (I.ok.frf b hb) fun z=>I.ok.exfs b z hb
theorem Inv.step {g':Array GenState} {t':Nat} {d':Drawn} {ch:List Addr} (I:Inv X tf σ H s)
 (hch:∀b∈ch,(b∈X.ex\/X.s₀.heap.objs.size<=b)/\b≠X.env.locals/\(∀x c,X.env.cells.lookup x=some c->c≠b)/\∀p∈X.pn++tf,p.1≠b)
 (keep:∀b o,b≠X.env.locals->b∉X.fs->b∉ch->s.heap.get? b=some o->H b=none->h'.get? b=some o)
 (slot:∀b o,b≠X.env.locals->b∈X.fs->b∉ch->s.heap.get? b=some o->H b=none->∃sl,h'.get? b=some { o with slots:=sl }) (free:∀b o,b∉ch->s.heap.get? b=some o->H b=none->H' b=none)
 (there:∀b o,b∉ch->s.heap.get? b=some o->∃o',h'.get? b=some o')
 (tups:∀b xs,H b=some (.tup xs)->H' b=some (.tup xs)) (frzs:∀b o u,H b=some (.frz o u)->H' b=some (.frz o u)) (tbls:∀b ps,H b=some (.tbl ps)->∃more,H' b=some (.tbl (ps++more)))
 (ns:∀m,s.heap.Ns X.env.locals m->h'.Ns X.env.locals m) (hok:HOk X.prog X.w H' h') (hg:AllBare g') :
 Inv X tf σ H' { s with heap:=h',gens:=g',drawn:=d',toks:=t' }:=by
 have neL:∀b o,X.s₀.heap.get? b=some o->b≠X.env.locals:=fun b o e=>Yv (Yn (Yy e) I.ok.above);have neC:∀b o,X.s₀.heap.get? b=some o->b∉X.ex->b∉ch:=fun b o e hx hb=>by
  rcases (hch b hb).1 with z | z
  . exact hx z
  . exact absurd (Yn (Yy e) z) (Y7 _)
 have cellK:∀x c,X.env.cells.lookup x=some c->∀v,s.heap.IsCell c v->h'.IsCell c v:=fun x c e v ⟨o,ho,hd⟩=>by
  have nch:c∉ch:=fun z=>(hch c z).2.2.1 x c e rfl;by_cases hc:c∈X.fs
  . obtain ⟨sl,q⟩:=slot c o (I.cne x c e) hc nch ho (I.freeC x c e);exact ⟨_,q,hd⟩
  . exact ⟨o,keep c o (I.cne x c e) hc nch ho (I.freeC x c e),hd⟩
 refine ⟨I.ok,I.os,hg,⟨fun b o e n hb hx=>?_,fun b o e n hb hx=>?_,fun b o e n hx=>?_,fun b o e hx=>?_,fun b xs e=>tups b xs (I.base.tups b xs e),fun b o xs e=>frzs b o xs (I.base.frzs b o xs e),fun b ps e=>?_⟩,?_,fun x c e=>?_,?_,fun x c e=>?_,fun p hp=>?_,hok,I.len⟩
 . exact keep b o (neL b o e) hb (neC b o e hx) (I.base.keep b o e n hb hx) (I.base.free b o e n hx)
 . obtain ⟨sl,e1⟩:=I.base.slot b o e n hb hx;obtain ⟨sl',e2⟩:=slot b _ (neL b o e) hb (neC b o e hx) e1 (I.base.free b o e n hx);exact ⟨sl',e2⟩
 . obtain ⟨o',e1⟩:=I.base.there b o e hx;exact free b o' (neC b o e hx) e1 (I.base.free b o e n hx)
 . obtain ⟨o',e1⟩:=I.base.there b o e hx;exact there b o' (neC b o e hx) e1
 . obtain ⟨m1,e1⟩:=I.base.tbls b ps e;obtain ⟨m2,e2⟩:=tbls b _ e1;exact ⟨m1++m2,by rw [e2,Array.append_assoc]⟩
 . obtain ⟨m,hn,hl⟩:=I.loc;refine ⟨m,ns m hn,fun i x v e1 e2 e3=>?_⟩;obtain ⟨u,r,l⟩:=hl i x v e1 e2 e3;refine ⟨u,r,?_⟩;rcases l with l | ⟨k,c,e,z⟩
   . exact .inl l
   . exact .inr ⟨k,c,e,cellK x c e _ z⟩
 . obtain ⟨v,z⟩:=I.cell x c e;exact ⟨v,cellK x c e v z⟩
 . obtain ⟨m,⟨o,_,_,ho,_⟩,_⟩:=I.loc;exact free _ o (fun z=>(hch _ z).2.1 rfl) ho I.free
 . obtain ⟨v,o,ho,hd⟩:=I.cell x c e;exact free c o (fun z=>(hch c z).2.2.1 x c e rfl) ho (I.freeC x c e)
 . obtain ⟨e,n,ne,nf,d⟩:=I.pin p hp;have nch:p.1∉ch:=fun z=>(hch p.1 z).2.2.2 p hp rfl;exact ⟨keep p.1 p.2 ne nf nch e n,free p.1 p.2 nch e n,ne,nf,d⟩
theorem Inv.un {t':Nat} (I:Inv X tf σ H s) (u:Un X.fs [] H H' s.heap h') (hok:HOk X.prog X.w H' h'):Inv X tf σ H' { s with heap:=h',toks:=t' }:=by
 obtain ⟨m,⟨o,es,ep,ho,r⟩,_⟩:=id I.loc;obtain ⟨sl,hL⟩:=u.any ho I.free (by simp);exact I.step (g':=s.gens) (d':=s.drawn) (ch:=[]) (fun _ z=>nomatch z) (fun b o _ hb _ e n=>u.keep b o e n hb (by simp)) (fun b o _ hb _ e n=>u.slot b o e n hb (by simp)) (fun b o _ e n=>u.free b o e n (by simp)) (fun b o _ e=>u.there b o e (by simp)) u.tups u.frzs u.tbls (fun m' hm=>by obtain ⟨o',es',ep',ho',r'⟩:=hm;rw [ho] at ho';cases ho';exact ⟨_,es',ep',hL,r'⟩) hok I.bare
theorem Inv.call {g':Array GenState} {t':Nat} {d':Drawn} {ch:List Addr} (I:Inv X tf σ H s) (u:Un (frs X.stack) ch H H' s.heap h') (hok:HOk X.prog X.w H' h') (hg:AllBare g')
 (hch:∀b∈ch,(b∈X.ex\/X.s₀.heap.objs.size<=b)/\b≠X.env.locals/\(∀x c,X.env.cells.lookup x=some c->c≠b)/\∀p∈X.pn++tf,p.1≠b) :
 Inv X tf σ H' { s with heap:=h',gens:=g',drawn:=d',toks:=t' }:=by
 obtain ⟨m,⟨o,es,ep,ho,r⟩,_⟩:=id I.loc;obtain ⟨sl,hL⟩:=u.any ho I.free fun z=>(hch _ z).2.1 rfl;exact I.step (ch:=ch) hch (fun b o hL hb hc e n=>u.keep b o e n (fun z=>(Yr.mp (I.stkSub b z)).elim hL hb) hc) (fun b o _ _ hc e n=>u.any e n hc) (fun b o hc e n=>u.free b o e n hc) (fun b o hc e=>u.there b o e hc) u.tups u.frzs u.tbls (fun m' hm=>by obtain ⟨o',es',ep',ho',r'⟩:=hm;rw [ho] at ho';cases ho';exact ⟨_,es',ep',hL,r'⟩) hok hg
theorem Inv.turned {t':Nat} {it:Addr} (I:Inv X tf σ H s) (k:∀b o,b≠it->s.heap.get? b=some o->h'.get? b=some o) (hn:H it=none) (hL:it≠X.env.locals)
 (h1:it∈X.ex\/X.s₀.heap.objs.size<=it) (h2:∀x c,X.env.cells.lookup x=some c->c≠it) (h3:∀p∈X.pn++tf,p.1≠it):Inv X tf σ H { s with heap:=h',toks:=t' }:=by
 have nit:∀b u,H b=some u->b≠it:=fun b u e z=>by rw [z,hn] at e;cases e
 refine I.step (g':=s.gens) (d':=s.drawn) (ch:=[it]) (fun b hb=>?_) (fun b o _ _ hc e _=>k b o (fun z=>hc (by simp [z])) e) (fun b o _ _ hc e _=>⟨o.slots,k b o (fun z=>hc (by simp [z])) e⟩) (fun _ _ _ _ n=>n)
  (fun b o hc e=>⟨o,k b o (fun z=>hc (by simp [z])) e⟩) (fun _ _ e=>e) (fun _ _ _ e=>e) (fun b ps e=>⟨#[],by rw [e];simp⟩) (fun m hm=>?_) (fun b u e=>?_) I.bare
 . have e:b=it:=by simpa using hb
   subst e;exact ⟨h1,hL,h2,h3⟩
 . obtain ⟨o,es,ep,ho,r⟩:=hm;exact ⟨o,es,ep,k _ o (Ne.symm hL) ho,r⟩
 . refine (I.hok b u e).stay (fun c v hc q=>k c v ?_ q) (fun _ q=>q) fun _ _ q=>q;rcases hc with z | z
   . rw [z];exact nit b u e
   . exact nit c _ z
theorem Inv.tok (I:Inv X tf σ H s) (t:Nat):Inv X tf σ H { s with toks:=t }:=I.un (h':=s.heap) (t':=t) Un.refl I.hok
theorem Inv.kept {t':Nat} (I:Inv X tf σ H s) (k:∀b u,s.heap.get? b=some u->h'.get? b=some u):Inv X tf σ H { s with heap:=h',toks:=t' }:=I.un (Un.kept k) (I.hok.kept k)
theorem Inv.laid {a:Addr} {o:HO} {t':Nat} (I:Inv X tf σ H s) (k:∀b u,s.heap.get? b=some u->h'.get? b=some u) (hp:s.heap.objs.size<=a) (new:ObjOk X.prog X.w (upd H a o) h' a o) :
 Inv X tf σ (upd H a o) { s with heap:=h',toks:=t' }:=I.un (Un.laid k hp (I.hok.fresh hp)) (I.hok.laid k hp new)
theorem Inv.write {x e:Addr} {o:HO} {t':Nat} (I:Inv X tf σ H s) (mu:Mut (H x)) (he:e=x\/H e=some (.own x)) (k:∀b u,b≠e->s.heap.get? b=some u->h'.get? b=some u) (heo:∃u,h'.get? e=some u)
 (new:ObjOk X.prog X.w (upd H x o) h' x o):Inv X tf σ (upd H x o) { s with heap:=h',toks:=t' }:=I.un (Un.write mu he k heo) (I.hok.write mu he k heo new)
theorem Inv.weak {σ':List (Option V)} (I:Inv X tf σ H s) (hl:σ'.length=σ.length) (w:∀(i:Nat) v,σ'[i]?=some (some v)->σ[i]?=some (some v)):Inv X tf σ' H s:=⟨I.ok,I.os,I.bare,I.base,let ⟨m,hn,hl'⟩:=I.loc;⟨m,hn,fun i x v e1 e2 e3=>hl' i x v e1 (w i v e2) e3⟩,I.cell,I.free,I.freeC,I.pin,I.hok,hl.trans I.len⟩
theorem Inv.pins_of {pins':List (Addr×Obj)} (I:Inv X tf σ H s) (h:∀p∈pins',s.heap.get? p.1=some p.2/\H p.1=none/\p.1≠X.env.locals/\p.1∉X.fs/\∀v,p.2.data≠.cell v):Inv X pins' σ H s:=⟨I.ok,I.os,I.bare,I.base,I.loc,I.cell,I.free,I.freeC,fun p hp=>(YV.mp hp).elim (fun z=>I.pin p (Yx _ z)) (h p),I.hok,I.len⟩
theorem Q7 {N:List Str} (hN:N.Nodup) {i j:Nat} {x:Str} (a:N[i]?=some x) (b:N[j]?=some x):i=j:=by obtain ⟨h1,e1⟩:=Yo.mp a;obtain ⟨h2,e2⟩:=Yo.mp b;exact (List.getElem_inj hN).mp (e1.trans e2.symm)
theorem jeO {M:Model} {A:Around} {E:Value->Shared->Prop} {i:Nat} {x:Str} {v:V} {u:Value} {Q:Unit->Shared->Prop} (I:Inv X tf σ H s) (hN:X.N.Nodup) (hi:X.N[i]?=some x) (hx:Loc X.env.scope x) (r:RelV v u)
 (h:∀s',Inv X tf (σ.set i (some v)) H s'->(∃a,Heap.SameBut a s.heap s'.heap/\(a=X.env.locals\/X.env.cells.lookup x=some a))->Q () s') (hf:autoParam ‹"P"› QA.a0._auto_1):wpAny M A (storeName X.env x u) Q E s:=by
 obtain ⟨m,hn,hl⟩:=id I.loc;have hcls:(X.env.scope.kind == .class || (X.env.scope.kind == .module && X.env.locals != X.env.globals))=false:=by rw [I.ok.kind];rfl
 have hiσ:i<σ.length:=by rw [I.len];exact (Yo.mp hi).1
 have cne:=I.cne;have tracked:∀{a:Addr} {h':Heap},(∃o,s.heap.get? a=some o/\H a=none)->Heap.SameBut a s.heap h'->HOk X.prog X.w H h':=fun {a h'} ha hs b ob e=>by
  obtain ⟨_,_,hfree⟩:=ha;refine (I.hok b ob e).stay (fun c w' hc q=>(hs.2 c ?_).trans q) (fun _ q=>q) fun _ _ q=>q;rintro rfl;rcases hc with rfl | hc
  . rw [hfree] at e;cases e
  . rw [hfree] at hc;cases hc
 rcases hx with hk | hk
 . refine wpAny_storeName_local hk hn (fun h' hn' hs=>?_) hcls;obtain ⟨oL,_,_,hoL,_⟩:=id hn;refine h _ ⟨I.ok,I.os,I.bare,⟨fun b o e n hb hx=>?_,fun b o e n hb hx=>?_,I.base.free,fun b o e hx=>?_,I.base.tups,I.base.frzs,I.base.tbls⟩,⟨_,hn',fun j y v' e1 e2 e3=>?_⟩,fun y c e=>?_,I.free,I.freeC,fun p hp=>?_,tracked ⟨oL,hoL,I.free⟩ hs,by simpa using I.len⟩ ⟨_,hs,.inl rfl⟩
   . exact (hs.2 b (Yv (Yn (Yy e) I.ok.above))).trans (I.base.keep b o e n hb hx)
   . obtain ⟨sl,e1⟩:=I.base.slot b o e n hb hx;exact ⟨sl,(hs.2 b (Yv (Yn (Yy e) I.ok.above))).trans e1⟩
   . obtain ⟨o',e1⟩:=I.base.there b o e hx;exact ⟨o',(hs.2 b (Yv (Yn (Yy e) I.ok.above))).trans e1⟩
   . by_cases hj:j=i
     . subst hj;rw [hi] at e1;cases e1;rw [Y4 hiσ] at e2;cases e2;exact ⟨u,r,.inl ⟨hk,by simp⟩⟩
     . rw [YR (Ne.symm hj)] at e2;obtain ⟨u',r',q⟩:=hl j y v' e1 e2 e3;refine ⟨u',r',?_⟩;rcases q with ⟨k,e⟩ | ⟨k,c,e,z⟩
       . refine .inl ⟨k,?_⟩;have:y≠x:=fun e=>hj (Q7 hN e1 (e ▸ hi));simp [this,e]
       . exact .inr ⟨k,c,e,z.sameBut hs (cne y c e)⟩
   . obtain ⟨w',z⟩:=I.cell y c e;exact ⟨w',z.sameBut hs (cne y c e)⟩
   . obtain ⟨e,n,ne,nf,d⟩:=I.pin p hp;exact ⟨(hs.2 p.1 ne).trans e,n,ne,nf,d⟩
 . have hfn:X.fn x=true:=by
    rcases hf with z | z
    . exact z
    . rw [z] at hk;cases hk
   obtain ⟨c,hc⟩:=I.ok.has x (.inl hk);obtain ⟨w',z⟩:=I.cell x c hc;refine wpAny_storeName_cell I.ok.kind hk hc z (fun h' hc' hs=>?_);obtain ⟨oc,hoc,hocd⟩:=id z;refine h { s with heap:=h' } ⟨I.ok,I.os,I.bare,⟨fun b o e n hb hx=>?_,fun b o e n hb hx=>?_,I.base.free,fun b o e hx=>?_,I.base.tups,I.base.frzs,I.base.tbls⟩,⟨m,hn.sameBut hs (Ne.symm (cne x c hc)),fun j y v' e1 e2 e3=>?_⟩,fun y c' e=>?_,I.free,I.freeC,fun p hp=>?_,tracked ⟨oc,hoc,I.freeC x c hc⟩ hs,by simpa using I.len⟩ ⟨c,hs,.inr hc⟩
   . exact (hs.2 b (Yv (Yn (Yy e) (I.ok.cab x c hfn hc)))).trans (I.base.keep b o e n hb hx)
   . obtain ⟨sl,e1⟩:=I.base.slot b o e n hb hx;exact ⟨sl,(hs.2 b (Yv (Yn (Yy e) (I.ok.cab x c hfn hc)))).trans e1⟩
   . obtain ⟨o',e1⟩:=I.base.there b o e hx;exact ⟨o',(hs.2 b (Yv (Yn (Yy e) (I.ok.cab x c hfn hc)))).trans e1⟩
   . by_cases hj:j=i
     . subst hj;rw [hi] at e1;cases e1;rw [Y4 hiσ] at e2;cases e2;exact ⟨u,r,.inr ⟨.inl hk,c,hc,hc'⟩⟩
     . rw [YR (Ne.symm hj)] at e2;obtain ⟨u',r',q⟩:=hl j y v' e1 e2 e3;refine ⟨u',r',?_⟩;rcases q with q | ⟨k,c',e,z'⟩
       . exact .inl q
       . refine .inr ⟨k,c',e,z'.sameBut hs ?_⟩;rintro rfl;exact hj (Q7 hN e1 (I.ok.inj _ _ _ e hc ▸ hi))
   . by_cases hcc:c'=c
     . subst hcc;exact ⟨_,hc'⟩
     . obtain ⟨w2,z2⟩:=I.cell y c' e;exact ⟨w2,z2.sameBut hs hcc⟩
   . obtain ⟨e,n,ne,nf,d⟩:=I.pin p hp;refine ⟨(hs.2 p.1 ?_).trans e,n,ne,nf,d⟩;intro q;rw [q,hoc] at e;have q':oc=p.2:=Option.some.inj e;exact d w' (by rw [<-q'];exact hocd)
theorem jdr {M:Model} {A:Around} {E:Value->Shared->Prop} {i:Nat} {x:Str} {v:V} {u:Value} {Q:Unit->Shared->Prop} (I:Inv X tf σ H s) (hN:X.N.Nodup) (hi:X.N[i]?=some x) (hx:Loc X.env.scope x) (r:RelV v u)
 (h:∀s',Inv X tf (σ.set i (some v)) H s'->Q () s') (hf:autoParam ‹"P"› QA.a0._auto_1):wpAny M A (storeName X.env x u) Q E s:=
 jeO I hN hi hx r (fun s' I' _=>h s' I') hf
theorem Inv.call' {s':Shared} {ch:List Addr} (I:Inv X tf σ H s) (ho:s'.os=s.os) (u:Un (frs X.stack) ch H H' s.heap s'.heap) (hok:HOk X.prog X.w H' s'.heap) (hg:AllBare s'.gens)
 (hch:∀b∈ch,(b∈X.ex\/X.s₀.heap.objs.size<=b)/\b≠X.env.locals/\(∀x c,X.env.cells.lookup x=some c->c≠b)/\∀p∈X.pn++tf,p.1≠b):Inv X tf σ H' s':=by
 obtain ⟨h',g',d',t',o'⟩:=s';have e:o'=s.os:=ho;subst e;exact I.call (g':=g') (t':=t') (d':=d') u hok hg hch
end
abbrev XK:=Value->Option Addr->Hp->Prop
abbrev St:=List (Option V)
abbrev VK:=V->Hp->Prop
abbrev TE:=St->Hp->VK->Prop
abbrev TT:=St->Hp->(Bool->Hp->Prop)->Prop
abbrev TA:=St->Hp->(List V->Hp->Prop)->Prop
structure Ends where
 nx:St->Hp->Prop
 rt:VK
 bk:St->Hp->Prop:=fun _ _=>False
 ct:St->Hp->Prop:=fun _ _=>False
abbrev TS:=Ends->St->Hp->Prop
def EP (X:Cx) (tf:List (Addr×Obj)) (σ:St) (Q:VK) (u:Value) (s':Shared):Prop:=∃v H',Inv X tf σ H' s'/\RelV v u/\Q v H'
def TP (X:Cx) (tf:List (Addr×Obj)) (σ:St) (Q:Bool->Hp->Prop) (b:Bool) (s':Shared):Prop:=∃H',Inv X tf σ H' s'/\Q b H'
def AP (X:Cx) (tf:List (Addr×Obj)) (σ:St) (Q:List V->Hp->Prop) (us:List Value) (s':Shared):Prop:=∃vs H',Inv X tf σ H' s'/\Vals vs us/\Q vs H'
def SP (X:Cx) (tf:List (Addr×Obj)) (D:Ends) (f:Flow) (s':Shared):Prop:=
 match f with
 | .next=>∃σ' H',Inv X tf σ' H' s'/\D.nx σ' H'
 | .brk=>∃σ' H',Inv X tf σ' H' s'/\D.bk σ' H'
 | .cont=>∃σ' H',Inv X tf σ' H' s'/\D.ct σ' H'
 | .ret u=>∃v σ' H',Inv X tf σ' H' s'/\RelV v u/\D.rt v H'
def PE (X:Cx) (e:Expr) (t:TE):Prop:=∀(tf:List (Addr×Obj)) (s:Shared) (σ:St) (H:Hp) (Q:VK),Inv X tf σ H s->t σ H Q->wpAny ‹"f"› X.A (eval e X.env) (EP X tf σ Q) X.xe s
def PT (X:Cx) (e:Expr) (t:TT):Prop:=∀(tf:List (Addr×Obj)) (s:Shared) (σ:St) (H:Hp) (Q:Bool->Hp->Prop),Inv X tf σ H s->t σ H Q->wpAny ‹"f"› X.A (isTrue e X.env (eval e X.env)) (TP X tf σ Q) X.xe s
def PW (X:Cx) (e:Expr) (t:TT):Prop:=∀(whole:Sem Value) (tf:List (Addr×Obj)) (s:Shared) (σ:St) (H:Hp) (Q:Bool->Hp->Prop),Inv X tf σ H s->t σ H Q->wpAny ‹"f"› X.A (isTrue e X.env whole) (TP X tf σ Q) X.xe s
theorem PW.pt {X:Cx} {e:Expr} {t:TT} (h:PW X e t):PT X e t:=h _
def PA (X:Cx) (es:List Expr) (t:TA):Prop:=∀(pos:Pos) (tf:List (Addr×Obj)) (s:Shared) (σ:St) (H:Hp) (Q:List V->Hp->Prop),Inv X tf σ H s->t σ H Q->wpAny ‹"f"› X.A (spliced (backTo pos (starEach es X.env))) (AP X tf σ Q) X.xe s
def PS (X:Cx) (st:Stmt) (t:TS):Prop:=∀(tf:List (Addr×Obj)) (s:Shared) (σ:St) (H:Hp) (D:Ends),Inv X tf σ H s->t D σ H->wpAny ‹"f"› X.A (exec st X.env) (SP X tf D) X.xe s
def PSs (X:Cx) (st:List Stmt) (t:TS):Prop:=∀(tf:List (Addr×Obj)) (s:Shared) (σ:St) (H:Hp) (D:Ends),Inv X tf σ H s->t D σ H->wpAny ‹"f"› X.A (execs st X.env) (SP X tf D) X.xe s
theorem qI {α:Type} {t:Sem α} {Q Q':α->Shared->Prop} {M:Model} {A:Around} {E:Value->Shared->Prop} {s:Shared} (h:wpAny M A t Q E s) (hQ:∀a s,Q a s->Q' a s):wpAny M A t Q' E s:=yq h hQ fun _ _ x=>x
end L2
namespace L2
open PySem PySem.Spec PyProof.Rows
section
variable {X:Cx}
theorem bin {a b:Expr} {ta tb:TE} (ha:PE X a ta) (hb:PE X b tb) {tf:List (Addr×Obj)} {s:Shared} {σ:St} {H:Hp} {R:V->V->Hp->Prop} (I:Inv X tf σ H s) (h:ta σ H fun x H1=>tb σ H1 fun y H2=>R x y H2)
 {α:Type} {Q:α->Shared->Prop} {f:Value->Value->Sem α}
 (hf:∀v u s2 x y H2,Inv X tf σ H2 s2->RelV x v->RelV y u->R x y H2->wpAny ‹"f"› X.A (f v u) Q X.xe s2) :
 wpAny ‹"f"› X.A (eval a X.env) ‹"bm"› X.xe s:=by
 refine qI ‹"ak"› fun v s1 zz=>?_;obtain ⟨x,H1,I1,r1,q1⟩:=zz;refine qI (hb tf s1 σ H1 _ I1 q1) fun u s2 zz=>?_;obtain ⟨y,H2,I2,r2,q2⟩:=zz;exact hf v u s2 x y H2 I2 r1 r2 q2
def jfT (i:Nat):TE:=fun σ H Q=>∃v,σ[i]?=some (some v)/\Q v H
def tC (v:V):TE:=fun _ H Q=>Q v H
theorem Z1 {i:Nat} {x:Str} {pos:Pos} (hN:X.N[i]?=some x) (hv:Vis X.env.scope x) (hd:‹"u"›=false:=by decide) (hcd:(x == ("__classdict__":Str))=false:=by decide):PE X (.Name x pos) (jfT i):=by
 intro tf s σ H Q I h;obtain ⟨v,e,h⟩:=h;obtain ⟨m,hn,hl⟩:=I.loc;obtain ⟨u,r,l⟩:=hl i x v hN e hv;have fin:EP X tf σ Q u s:=⟨v,H,I,r,h⟩;rcases l with ⟨hk,hm⟩ | ⟨hk,c,hc,hcell⟩
 . exact wpAny_Name (wpAny_loadName_local I.ok.kind hk hn hm fin) hd
 . rcases hk with hk | hk
   . exact wpAny_Name (wpAny_loadName_cell I.ok.kind hk hc hcell fin) hd
   . exact wpAny_Name (wpAny_loadName_free I.ok.kind hk hc hcell fin hcd) hd
theorem jqP {i j pos}:PE X (.Constant (.int i) j pos) (tC (.int i)):=fun _ _ _ H _ I h=>wpAny_Constant_int ⟨.int i,H,I.tok _,⟨_,rfl⟩,h⟩
theorem jrK {b j pos}:PE X (.Constant (.bool b) j pos) (tC (.bl b)):=fun _ _ _ H _ I h=>Constant_bool ⟨.bl b,H,I,rfl,h⟩
theorem jpM {j pos}:PE X (.Constant .none j pos) (tC .non):=fun _ _ _ H _ I h=>Constant_none ⟨.non,H,I,rfl,h⟩
def Gl (X:Cx) (x:Str):Prop:=X.env.kindOf x=some .globalImplicit
theorem jjl {E:Value->Shared->Prop} {tf:List (Addr×Obj)} {s:Shared} {σ:St} {H:Hp} {x:Str} {u:Value} {pos:Pos} {Q:Value->Shared->Prop} (I:Inv X tf σ H s) (hg:Gl X x) (hm:X.mg x=some u) (h:Q u s)
 (hd:‹"u"›=false:=by decide):wpAny ‹"f"› X.A (eval (.Name x pos) X.env) Q E s:=
 Calls.Name_function_global I.ok.kind hg (Calls.loadGlobal_global (by rw [I.ok.glob];exact I.mod.glob.keeps I.bk) hm h) hd
theorem QQ {E:Value->Shared->Prop} {tf:List (Addr×Obj)} {s:Shared} {σ:St} {H:Hp} {x:Str} {u:Value} {pos:Pos} {Q:Value->Shared->Prop} (I:Inv X tf σ H s) (hg:Gl X x) (hm:X.mg x=none) (hv:bootBuiltins x=some u) (h:Q u s)
 (hn:x ≠ "__name__":=by decide) (hd:‹"u"›=false:=by decide):wpAny ‹"f"› X.A (eval (.Name x pos) X.env) Q E s:=by
 obtain ⟨mb,h1,h2⟩:=I.mod.blt;exact Calls.Name_function_global I.ok.kind hg (Calls.loadGlobal_builtin (by rw [I.ok.glob];exact I.mod.glob.keeps I.bk) hm (by rw [I.ok.blt];exact h1.keeps I.bk) ((h2 x hn).trans hv) h) hd
theorem joa {x:Str} {v:V} {u:Value} {pos:Pos} (hg:Gl X x) (hm:X.mg x=some u) (r:RelV v u) (hd:‹"u"›=false:=by decide):PE X (.Name x pos) (tC v):=fun _ _ _ H _ I h=>jjl I hg hm ⟨v,H,I,r,h⟩ hd
theorem jn7 {x:Str} {v:V} {u:Value} {pos:Pos} (hg:Gl X x) (hm:X.mg x=none) (hv:bootBuiltins x=some u) (r:RelV v u) (hn:x ≠ "__name__":=by decide) (hd:‹"u"›=false:=by decide):PE X (.Name x pos) (tC v):=fun _ _ _ H _ I h=>QQ I hg hm hv ⟨v,H,I,r,h⟩ hn hd
variable {a b:Expr} {ta tb:TE} {pos:Pos}
def PC (X:Cx) (op:CmpOp) (a b:Expr) (t:TE):Prop:=
 ∀(tf:List (Addr×Obj)) (s:Shared) (σ:St) (H:Hp) (Q:VK),Inv X tf σ H s->t σ H Q->
   wpAny ‹"f"› X.A (eval a X.env) (fun v s₁=>wpAny ‹"f"› X.A (eval b X.env) (fun u s₂=>wpAny ‹"f"› X.A (compareOp op v u) (EP X tf σ Q) X.xe s₂) X.xe s₁) X.xe s
theorem nobehind (b:Expr) {op:CmpOp} (h:op≠.In) (h2:op≠.NotIn):behindInMarks op b=false:=by
 have e1:(op == CmpOp.In)=false:=by cases op <;> first | rfl | exact absurd rfl h
 have e2:(op == CmpOp.NotIn)=false:=by cases op <;> first | rfl | exact absurd rfl h2
 cases b <;> simp [behindInMarks,e1,e2]
def jst (ta:TE):TE:=fun σ H Q=>ta σ H fun x H1=>Q (.bl (decide (x=.non))) H1
def joh (ta:TE):TE:=fun σ H Q=>ta σ H fun x H1=>Q (.bl (!decide (x=.non))) H1
theorem RelV.none_iff {x:V} {v:Value} (r:RelV x v):(v == Value.none)=decide (x=.non):=by
 cases x with
 | non=>cases r;rfl
 | bl _=>cases r;rfl
 | int _=>obtain ⟨t,rfl⟩:=r;rfl
 | str _=>obtain ⟨t,rfl⟩:=r;rfl
 | byt _=>obtain ⟨t,rfl⟩:=r;rfl
 | flt _=>obtain ⟨t,rfl⟩:=r;rfl
 | ref _=>cases r;rfl
 | ty _=>cases r;rfl
theorem jpx {j pos'} (ha:PE X a ta):PC X .Is a (.Constant .none j pos') (jst ta):=by intro tf s σ H Q I h;refine qI ‹"ak"› fun v s1 zz=>?_;obtain ⟨x,H1,I1,r1,q1⟩:=zz;exact Constant_none (is_none_gen ⟨.bl _,H1,I1,by rw [r1.none_iff];rfl,q1⟩)
theorem jn4 {j pos'} (ha:PE X a ta):PC X .IsNot a (.Constant .none j pos') (joh ta):=by intro tf s σ H Q I h;refine qI ‹"ak"› fun v s1 zz=>?_;obtain ⟨x,H1,I1,r1,q1⟩:=zz;exact Constant_none (isnot_none_gen ⟨.bl _,H1,I1,by rw [r1.none_iff];rfl,q1⟩)
def tB (t:TE):TT:=fun σ H Q=>t σ H fun x H1=>∃c,x=.bl c/\Q c H1
theorem jmH {op:CmpOp} {t:TE} (h:PC X op a b t) (h1:autoParam (behindInMarks op b=false) QA.a2._auto_1):PT X (.Compare a [op] [b] pos) (tB t):=by intro tf s σ H Q I hw;refine wpAny_isTrue_Compare1 (qI (h tf s σ H _ I hw) fun v s1 h1=>qI h1 fun u s2 h2=>qI h2 fun c s3 zz=>?_) h1;obtain ⟨x,H1,I1,r1,q1⟩:=zz;obtain ⟨d,rfl,q⟩:=q1;cases r1;exact yN ⟨H1,I1,q⟩
theorem jp3 {e:Expr} {t:TE} (h:PE X e t) (he:∀whole,isTrue e X.env whole=(do let v <- whole;standAt e.pos;holding [v] (truthy v)):=by intro _;rfl):PT X e (tB t):=by intro tf s σ H Q I hw;refine isTrue_plain (qI (h tf s σ H _ I hw) fun v s1 zz=>?_) (he _);obtain ⟨x,H1,I1,r1,q1⟩:=zz;obtain ⟨d,rfl,q⟩:=q1;cases r1;exact yN ⟨H1,I1,q⟩
variable {tA tB':TT} {rest:List Expr}
def jse (t u:TT):TT:=fun σ H Q=>t σ H fun c H1=>if c=true then u σ H1 Q else Q false H1
def tOr (t u:TT):TT:=fun σ H Q=>t σ H fun c H1=>if c=true then Q true H1 else u σ H1 Q
def jsd (t:TT):TT:=fun σ H Q=>t σ H fun c H1=>Q (!c) H1
theorem jnU (ha:PT X a tA):PW X (.BoolOp .And [a] pos) tA:=by
 intro wh tf s σ H Q I h;refine isTrue_and (qI (ha tf s σ H Q I h) fun c s1 e=>?_);cases c with
 | true=>exact isTrue_and_nil e
 | false=>exact e
theorem jo2 (ha:PT X a tA):PW X (.BoolOp .Or [a] pos) tA:=by
 intro wh tf s σ H Q I h;refine isTrue_or (qI (ha tf s σ H Q I h) fun c s1 e=>?_);cases c with
 | false=>exact isTrue_or_nil e
 | true=>exact e
theorem jpE (ha:PT X a tA) (hb:PW X (.BoolOp .And (b::rest) pos) tB'):PW X (.BoolOp .And (a::b::rest) pos) (jse tA tB'):=by
 intro wh tf s σ H Q I h;refine isTrue_and (qI ‹"ak"› fun c s1 zz=>?_);obtain ⟨H1,I1,q1⟩:=zz;cases c with
 | true=>exact hb wh tf s1 σ H1 Q I1 q1
 | false=>exact ⟨H1,I1,q1⟩
theorem jsh (ha:PT X a tA) (hb:PW X (.BoolOp .Or (b::rest) pos) tB'):PW X (.BoolOp .Or (a::b::rest) pos) (tOr tA tB'):=by
 intro wh tf s σ H Q I h;refine isTrue_or (qI ‹"ak"› fun c s1 zz=>?_);obtain ⟨H1,I1,q1⟩:=zz;cases c with
 | true=>exact ⟨H1,I1,q1⟩
 | false=>exact hb wh tf s1 σ H1 Q I1 q1
theorem jqf (ha:PT X a tA):PT X (.UnaryOp .Not a pos) (jsd tA):=by intro tf s σ H Q I h;exact isTrue_not (ha tf s σ H (fun c H1=>Q (!c) H1) I h)
def jot (ta tb:TE):TE:=fun σ H Q=>ta σ H fun x H1=>∃c,x=.bl c/\if c=true then tb σ H1 Q else Q (.bl false) H1
def joo (ta:TE):TE:=fun σ H Q=>ta σ H fun x H1=>∃c,x=.bl c/\Q (.bl (!c)) H1
theorem jp4 {op} {t:TE} (h:PE X a t):PE X (.BoolOp op [a] pos) t:=fun tf s σ H Q I hw=>BoolOp_one (h tf s σ H Q I hw)
theorem jqB (ha:PE X a ta) (hb:PE X (.BoolOp .And (b::rest) pos) tb):PE X (.BoolOp .And (a::b::rest) pos) (jot ta tb):=by
 intro tf s σ H Q I h;refine BoolOp_and (qI ‹"ak"› fun v s1 zz=>?_);obtain ⟨x,H1,I1,r1,q1⟩:=zz;obtain ⟨c,rfl,q1⟩:=q1;cases r1;refine yN ?_;cases c with
 | true=>exact hb tf s1 σ H1 Q I1 q1
 | false=>exact ⟨.bl false,H1,I1,rfl,q1⟩
theorem jpl (ha:PE X a ta):PE X (.UnaryOp .Not a pos) (joo ta):=by intro tf s σ H Q I h;refine UnaryOp_ (qI ‹"ak"› fun v s1 zz=>?_);obtain ⟨x,H1,I1,r1,q1⟩:=zz;obtain ⟨c,rfl,q1⟩:=q1;cases r1;exact not_of (yN ⟨.bl (!c),H1,I1,rfl,q1⟩)
def tIf (t:TT) (ta tb:TE):TE:=fun σ H Q=>t σ H fun c H1=>if c=true then ta σ H1 Q else tb σ H1 Q
theorem jlk {c:Expr} (hc:PT X c tA) (ha:PE X a ta) (hb:PE X b tb):PE X (.IfExp c a b pos) (tIf tA ta tb):=by
 intro tf s σ H Q I h;refine wpAny_IfExp (qI (hc tf s σ H _ I h) fun d s1 zz=>?_);obtain ⟨H1,I1,q1⟩:=zz;cases d with
 | true=>exact ha tf s1 σ H1 Q I1 q1
 | false=>exact hb tf s1 σ H1 Q I1 q1
end
end L2
namespace L2
open PySem PySem.Spec PyProof.Rows
def J6 (K:PySem.W.Frag) (H:Hp) (a:Addr) (xs:List V):Prop:=
 Rd H a (.lst xs) \/
   ∃(o:Obj) (its:Array Value) (n:Nat),K.lookup a=some o ∧ o.cls=.type "list" ∧ o.dict=none ∧ o.data=.seq its n ∧ its.size ≤ sizeLine ∧ Vals xs its.toList
def SqT (K:PySem.W.Frag) (H:Hp) (a:Addr) (xs:List V):Prop:=
 Rd H a (.tup xs) \/
   ∃(o:Obj) (its:Array Value) (n:Nat),K.lookup a=some o ∧ o.cls=.type "tuple" ∧ o.data=.seq its n ∧ its.size ≤ sizeLine ∧ Vals xs its.toList
def jth:Value->Option V
 | .none=>some .non
 | .bool b=>some (.bl b)
 | .int i _=>some (.int i)
 | .str x _=>some (.str x)
 | .bytes b _=>some (.byt b)
 | .float b _=>some (.flt b)
 | .ref a=>some (.ref a)
 | .type n=>some (.ty n)
 | _=>none
theorem RelV.abs {x:V} {u:Value} (r:RelV x u):jth u=some x:=by
 cases x with
 | non=>cases r;rfl
 | bl _=>cases r;rfl
 | int _=>obtain ⟨t,rfl⟩:=r;rfl
 | str _=>obtain ⟨t,rfl⟩:=r;rfl
 | byt _=>obtain ⟨t,rfl⟩:=r;rfl
 | flt _=>obtain ⟨t,rfl⟩:=r;rfl
 | ref _=>cases r;rfl
 | ty _=>cases r;rfl
theorem RelV.inj {x y:V} {u:Value} (r:RelV x u) (q:RelV y u):x=y:=Option.some.inj (r.abs.symm.trans q.abs)
theorem Vals.inj:∀{xs ys:List V} {us:List Value},Vals xs us->Vals ys us->xs=ys:=fun {xs ys us} h=>by
 induction h generalizing ys with
 | nil=>intro h;cases h;rfl
 | cons r _ ih=>intro h;cases h with | cons q t=>rw [r.inj q,ih t]
section
variable {X:Cx} {tf:List (Addr×Obj)} {σ:St} {H:Hp} {s:Shared} {a:Addr} {xs ys:List V}
theorem SqT.of {K:PySem.W.Frag} (h:H a=some (.tup xs)):SqT K H a xs:=.inl (.inl h)
theorem Inv.list (I:Inv X tf σ H s) (h:J6 X.K H a xs):∃its:List Value,Vals xs its/\PlainL s.heap a its.toArray/\xs.length<=sizeLine:=by
 rcases h with h | ⟨o,its,n,hk,hc,hd,hs,hz,r⟩
 . obtain ⟨z,its,n,r,e⟩:=h.ok I.hok;exact ⟨its,r,⟨_,n,e,rfl,rfl,rfl⟩,z⟩
 . refine ⟨its.toList,r,⟨o,n,I.kIn a o hk,hc,hd,by simpa using hs⟩,?_⟩;have e:=r.length;simp only [ye] at e;omega
theorem Inv.tuple (I:Inv X tf σ H s) (h:SqT X.K H a xs):∃its:List Value,Vals xs its/\IsTup s.heap a its.toArray/\xs.length<=sizeLine:=by
 rcases h with h | ⟨o,its,n,hk,hc,hs,hz,r⟩
 . obtain ⟨z,its,r,p⟩:=h.ok I.hok;exact ⟨its,r,p,z⟩
 . refine ⟨its.toList,r,⟨o,I.kIn a o hk,hc,n,by simpa using hs⟩,?_⟩;have e:=r.length;simp only [ye] at e;omega
theorem Inv.list_inj (I:Inv X tf σ H s) (h:J6 X.K H a xs) (h':J6 X.K H a ys):xs=ys:=by
 obtain ⟨its,r,⟨o,n,e,_,_,d⟩,_⟩:=I.list h;obtain ⟨its',r',⟨o',n',e',_,_,d'⟩,_⟩:=I.list h';rw [e] at e';cases e';rw [d] at d';injection d' with d1 _;have:its=its':=by simpa using congrArg Array.toList d1
 subst this;exact r.inj r'
theorem Inv.tuple_inj (I:Inv X tf σ H s) (h:SqT X.K H a xs) (h':SqT X.K H a ys):xs=ys:=by
 obtain ⟨its,r,⟨o,e,_,n,d⟩,_⟩:=I.tuple h;obtain ⟨its',r',⟨o',e',_,n',d'⟩,_⟩:=I.tuple h';rw [e] at e';cases e';rw [d] at d';injection d' with d1 _;have:its=its':=by simpa using congrArg Array.toList d1
 subst this;exact r.inj r'
end
abbrev Cx.wish (X:Cx) (E:Value->Shared->Prop):Cx:={ X with xe:=E }
abbrev Cx.nox (X:Cx):Cx:=X.wish fun _ _=>False
theorem Cx.Ok.wish {X:Cx} (ok:X.Ok) (E:Value->Shared->Prop):(X.wish E).Ok:=⟨ok.mod,ok.kind,ok.glob,ok.blt,ok.above,ok.inj,ok.has,ok.cab,ok.hd,ok.frames,ok.stk,ok.exf,ok.bs,ok.bsz,ok.noex,ok.exfs,ok.funs,ok.frf⟩
theorem Cx.Ok.unwish {X:Cx} {E:Value->Shared->Prop} (ok:(X.wish E).Ok):X.Ok:=⟨ok.mod,ok.kind,ok.glob,ok.blt,ok.above,ok.inj,ok.has,ok.cab,ok.hd,ok.frames,ok.stk,ok.exf,ok.bs,ok.bsz,ok.noex,ok.exfs,ok.funs,ok.frf⟩
section
variable {X:Cx} {tf:List (Addr×Obj)} {σ:St} {H:Hp} {s:Shared} {E:Value->Shared->Prop}
theorem Inv.wish (I:Inv X tf σ H s) (E:Value->Shared->Prop):Inv (X.wish E) tf σ H s:=⟨I.ok.wish E,I.os,I.bare,I.base,I.loc,I.cell,I.free,I.freeC,I.pin,I.hok,I.len⟩
theorem Inv.unwish (I:Inv (X.wish E) tf σ H s):Inv X tf σ H s:=⟨I.ok.unwish,I.os,I.bare,I.base,I.loc,I.cell,I.free,I.freeC,I.pin,I.hok,I.len⟩
theorem SP.unwish {D:Ends} {f:Flow} {s':Shared} (h:SP (X.wish E) tf D f s'):SP X tf D f s':=by
 cases f with
 | next=>obtain ⟨σ',H',I,q⟩:=h;exact ⟨σ',H',I.unwish,q⟩
 | brk=>obtain ⟨σ',H',I,q⟩:=h;exact ⟨σ',H',I.unwish,q⟩
 | cont=>obtain ⟨σ',H',I,q⟩:=h;exact ⟨σ',H',I.unwish,q⟩
 | ret u=>obtain ⟨v,σ',H',I,r,q⟩:=h;exact ⟨v,σ',H',I.unwish,r,q⟩
theorem PSs.nox {st:List Stmt} {t:TS} (h:PSs X.nox st t):PSs X st t:=fun tf s σ H D I hw=>yq (h tf s σ H D (I.wish _) hw) (fun _ _ q=>q.unwish) fun _ _ z=>False.elim z
end
section
variable {X:Cx} {st:Stmt} {rest:List Stmt} {t u:TS} {e:Expr} {te:TE} {pos:Pos}
def jor:TS:=fun D σ H=>D.nx σ H
def jrW (t u:TS):TS:=fun D σ H=>t { D with nx:=u D } σ H
theorem jmZ:PSs X [] jor:=fun _ _ σ H _ I h=>K7 ⟨σ,H,I,h⟩
theorem jk0 (h1:PS X st t) (h2:PSs X rest u):PSs X (st::rest) (jrW t u):=by
 intro tf s σ H D I h;refine wpAny_execs_cons (qI (h1 tf s σ H { D with nx:=u D } I h) fun f s1 q=>?_);cases f with
 | next=>obtain ⟨σ',H',I',q⟩:=q;exact h2 tf s1 σ' H' D I' q
 | ret v=>exact q
 | brk=>exact q
 | cont=>exact q
theorem jn5 (h1:PS X st t):PSs X [st] t:=by
 intro tf s σ H D I h;refine wpAny_execs_cons (qI (h1 tf s σ H D I h) fun f s1 q=>?_);cases f with
 | next=>exact K7 q
 | ret v=>exact q
 | brk=>exact q
 | cont=>exact q
theorem Inv.quiet {tf:List (Addr×Obj)} {σ:St} {H:Hp} {s:Shared} (I:Inv X tf σ H s):interactive X.env=false:=by simp [interactive,I.ok.kind]
def jl3 (te:TE):TS:=fun D σ H=>te σ H fun _ H1=>D.nx σ H1
theorem ji8 (he:PE X e te) (hs:swapsWith e none pos.line X.env=pure false:=by rfl):PS X (.Expr e pos) (jl3 te):=by intro tf s σ H D I h;exact wpAny_Expr_any (qI (he tf s σ H _ I h) fun v s1 ⟨x,H1,I1,r1,q1⟩=>⟨σ,H1,I1,q1⟩) I.quiet hs
def jnb (te:TE):TS:=fun D σ H=>te σ H D.rt
theorem jit (he:PE X e te):PS X (.Return (some e) pos) (jnb te):=by intro tf s σ H D I h;exact wpAny_Return_some (qI (he tf s σ H _ I h) fun v s1 ⟨x,H1,I1,r1,q1⟩=>⟨x,σ,H1,I1,r1,q1⟩)
def jr5 (c:TT) (t u:TS):TS:=fun D σ H=>c σ H fun b H1=>if b=true then t D σ H1 else u D σ H1
theorem jrj {c:Expr} {a b:List Stmt} {tc:TT} (hc:PT X c tc) (ha:PSs X a t) (hb:PSs X b u):PS X (.If c a b pos) (jr5 tc t u):=by
 intro tf s σ H D I h;refine wpAny_If (qI (hc tf s σ H _ I h) fun d s1 zz=>?_);obtain ⟨H1,I1,q1⟩:=zz;cases d with
 | true=>exact ha tf s1 σ H1 D I1 q1
 | false=>exact hb tf s1 σ H1 D I1 q1
end
abbrev TG:=V->St->Hp->(St->Hp->Prop)->Prop
abbrev TGs:=List V->St->Hp->(St->Hp->Prop)->Prop
def PG (X:Cx) (target:Expr) (t:TG):Prop:=
 ∀(tf:List (Addr×Obj)) (s:Shared) (σ:St) (H:Hp) (v:V) (u:Value) (Q:St->Hp->Prop),Inv X tf σ H s->RelV v u->t v σ H Q->
   wpAny ‹"f"› X.A (assign target X.env u) (fun _ s'=>∃σ' H',Inv X tf σ' H' s'/\Q σ' H') X.xe s
def PGs (X:Cx) (ts:List Expr) (t:TGs):Prop:=
 ∀(tf:List (Addr×Obj)) (s:Shared) (σ:St) (H:Hp) (vs:List V) (us:List Value) (Q:St->Hp->Prop),Inv X tf σ H s->Vals vs us->t vs σ H Q->
   wpAny ‹"f"› X.A (assignInOrder ((assignEach ts X.env).map (·.2)) us) (fun _ s'=>∃σ' H',Inv X tf σ' H' s'/\Q σ' H') X.xe s
abbrev jlv:=V->V->V->Hp->(Hp->Prop)->Prop
def jqa (X:Cx) (t:jlv):Prop:=
 ∀(tf:List (Addr×Obj)) (s:Shared) (σ:St) (H:Hp) (o i v:V) (ov iv u:Value) (Q:Hp->Prop),Inv X tf σ H s->RelV o ov->RelV i iv->RelV v u->t o i v H Q->
   wpAny ‹"f"› X.A (setItem ov iv u) (fun _ s'=>∃H',Inv X tf σ H' s'/\Q H') X.xe s
abbrev TIp:=V->V->Hp->VK->Prop
def PIp (X:Cx) (op:Operator) (t:TIp):Prop:=
 ∀(tf:List (Addr×Obj)) (s:Shared) (σ:St) (H:Hp) (x y:V) (v u:Value) (Q:VK),Inv X tf σ H s->RelV x v->RelV y u->t x y H Q->
   wpAny ‹"f"› X.A (inplaceOp op v u) (EP X tf σ Q) X.xe s
section
variable {X:Cx} {pos:Pos}
def jaG (i:Nat):TG:=fun v σ H Q=>Q (σ.set i (some v)) H
theorem jf1 {i:Nat} {x:Str} (hN:X.N.Nodup) (hi:X.N[i]?=some x) (hx:Loc X.env.scope x) (hf:autoParam ‹"P"› QA.a0._auto_1):PG X (.Name x pos) (jaG i):=by intro tf s σ H v u Q I r h;exact wpAny_assign_Name (jdr I hN hi hx r (fun s' I'=>⟨_,H,I',h⟩) hf)
def jqW:TGs:=fun vs σ H Q=>vs=[]/\Q σ H
def joZ (t:TG) (u:TGs):TGs:=fun vs σ H Q=>∃v r,vs=v::r/\t v σ H fun σ' H'=>u r σ' H' Q
theorem jiV:PGs X [] jqW:=by intro tf s σ H vs us Q I r h;obtain ⟨e,h⟩:=h;subst e;cases r;exact assignInOrder_nil ⟨σ,H,I,h⟩
theorem jge {e:Expr} {es:List Expr} {t:TG} {u:TGs} (h1:PG X e t) (h2:PGs X es u)
 (hs:(assignEach (e::es) X.env).map (·.2)=assign e X.env::(assignEach es X.env).map (·.2):=by rfl):PGs X (e::es) (joZ t u):=by
 intro tf s σ H vs us Q I r h;obtain ⟨v,vr,e1,h⟩:=h;subst e1;cases r with
 | cons r rr=>rw [hs];refine assignInOrder_cons (qI (h1 tf s σ H _ _ _ I r h) fun _ s1 zz=>?_);obtain ⟨σ1,H1,I1,q1⟩:=zz;exact h2 tf s1 σ1 H1 _ _ Q I1 rr q1
def jnY (K:PySem.W.Frag) (n:Nat) (t:TGs):TG:=fun v σ H Q=>∃a xs,v=.ref a/\SqT K H a xs/\xs.length=n/\t xs σ H Q
theorem jkO {es:List Expr} {k:Nat} {t:TGs} {n:Nat} (hc:X.calm=true) (h:PGs X es t)
 (hn:(assignEach es X.env).length=n:=by rfl) (hst:(assignEach es X.env).findIdx? (·.1)=none:=by rfl):PG X (.Tuple es k pos) (jnY X.K n t):=by
 intro tf s σ H v u Q I r hw;obtain ⟨a,xs,e1,hq,hl,hw⟩:=hw;subst e1;cases r;obtain ⟨its,rv,ht,hz⟩:=I.tuple hq;refine assign_Tuple_tuple (I.ok.hd hc) ht (by simp [hn,<- hl,rv.length]) hst fun h' hx=>?_;have I1:Inv X tf σ H { s with heap:=h' }:=I.kept (t':=s.toks) fun b o e=>hx b o (Yv (Yy e)) e;exact h tf _ σ H xs _ Q I1 (by simpa using rv) hw
def jsF (to ti:TE) (t:jlv):TG:=fun v σ H Q=>to σ H fun o H1=>ti σ H1 fun i H2=>t o i v H2 fun H3=>Q σ H3
theorem jpN {o i:Expr} {to ti:TE} {t:jlv} (ho:PE X o to) (hi:PE X i ti) (hs:jqa X t)
 (ha:autoParam (∀v,assign (.Subscript o i pos) X.env v=(do
  let ov <- holding [v] (eval o X.env)
  let iv <- holding [v,ov] (eval i X.env)
  standAt pos
  holding [v,ov,iv] (setItem ov iv v)
  release [v,ov,iv] [])) QA.a3._auto_1):PG X (.Subscript o i pos) (jsF to ti t):=by
 intro tf s σ H v u Q I r h;rw [ha];refine Yc (yn (qI (ho tf s σ H _ I h) fun ov s1 zz=>?_));obtain ⟨x,H1,I1,r1,q1⟩:=zz;refine Yc (yn (qI (hi tf s1 σ H1 _ I1 q1) fun iv s2 zz=>?_));obtain ⟨y,H2,I2,r2,q2⟩:=zz;refine Yc (wpAny_standAt (Yc (yn (qI (hs tf s2 σ H2 x y v ov iv u _ I2 r1 r2 r q2) fun _ s3 zz=>?_))));obtain ⟨H3,I3,q3⟩:=zz;exact wpAny_release ⟨σ,H3,I3,q3⟩
def jeB (te:TE) (g:TG):TS:=fun D σ H=>te σ H fun x H1=>g x σ H1 D.nx
theorem jl7 {tg e:Expr} {te:TE} {g:TG} (he:PE X e te) (hg:PG X tg g) (hs:swapsWithSole [tg] e pos.line X.env=pure false:=by rfl) (hw:swappedStores [tg] e X.env=pure none:=by rfl)
 (h1:(assignEach [tg] X.env).map (·.2)=[assign tg X.env]:=by rfl):PS X (.Assign [tg] e pos) (jeB te g):=by
 intro tf s σ H D I h;refine wpAny_Assign_stores (qI (he tf s σ H _ I h) fun v s1 zz=>?_) hs hw;obtain ⟨x,H1,I1,r1,q1⟩:=zz;rw [h1];exact qI (hg tf s1 σ H1 x v _ I1 r1 q1) fun _ s2 q=>q
theorem jhK {i:Nat} {x:Str} {e:Expr} {te:TE} {pos':Pos} (hN:X.N.Nodup) (hi:X.N[i]?=some x) (hx:Loc X.env.scope x) (he:PE X e te) (hs:swapsWith e (some (.Name x pos')) pos.line X.env=pure false:=by rfl) (hf:autoParam ‹"P"› QA.a0._auto_1) :
 PS X (.Assign [.Name x pos'] e pos) (jeB te (jaG i)):=by
 intro tf s σ H D I h;refine wpAny_Assign_Name (qI (he tf s σ H _ I h) fun v s1 zz=>?_) hs;obtain ⟨y,H1,I1,r1,q1⟩:=zz;exact jdr I1 hN hi hx r1 (fun s2 I2=>⟨_,H1,I2,q1⟩) hf
def jra (i:Nat) (te:TE) (ti:TIp):TS:=fun D σ H=>∃x,σ[i]?=some (some x)/\te σ H fun y H1=>ti x y H1 fun z H2=>D.nx (σ.set i (some z)) H2
theorem jpU {i:Nat} {x:Str} {e:Expr} {te:TE} {op:Operator} {ti:TIp} {pos':Pos} (hN:X.N.Nodup) (hi:X.N[i]?=some x) (hx:Loc X.env.scope x) (he:PE X e te) (ho:PIp X op ti) (hf:autoParam ‹"P"› QA.a0._auto_1) :
 PS X (.AugAssign (.Name x pos') op e pos) (jra i te ti):=by
 intro tf s σ H D I h;obtain ⟨v,e1,h⟩:=h;obtain ⟨m,hn,hl⟩:=I.loc;have vis:Vis X.env.scope x:=by rcases hx with k | k;exact .inl k;exact .inr (.inl k)
 obtain ⟨u,r,l⟩:=hl i x v hi e1 vis;refine wpAny_AugAssign_Name ?_;have go:wpAny ‹"f"› X.A (eval e X.env) (fun w s₂=>wpAny ‹"f"› X.A (inplaceOp op u w) (fun r s₃=>wpAny ‹"f"› X.A (storeName X.env x r) (fun _=>SP X tf D .next) X.xe s₃) X.xe s₂) X.xe s:=by refine qI (he tf s σ H _ I h) fun w s1 zz=>?_;obtain ⟨y,H1,I1,r1,q1⟩:=zz;refine qI (ho tf s1 σ H1 v y u w _ I1 r r1 q1) fun z s2 zz=>?_;obtain ⟨zv,H2,I2,r2,q2⟩:=zz;exact jdr I2 hN hi hx r2 (fun s3 I3=>⟨_,H2,I3,q2⟩) hf
 rcases l with ⟨hk,hm⟩ | ⟨hk,c,hc,hcell⟩
 . exact wpAny_loadName_local I.ok.kind hk hn hm go
 . rcases hk with hk | hk
   . exact wpAny_loadName_cell I.ok.kind hk hc hcell go
   . rcases hx with k | k
     . have:X.env.scope.names.lookup x=some .free:=hk;rw [k] at this;cases this
     . have:X.env.scope.names.lookup x=some .free:=hk;rw [k] at this;cases this
def joy (to ti te:TE) (tget:V->V->Hp->VK->Prop) (tip:TIp) (tset:jlv):TS:=fun D σ H=>to σ H fun o H1=>ti σ H1 fun i H2=>tget o i H2 fun x H3=>te σ H3 fun y H4=>tip x y H4 fun z H5=>tset o i z H5 fun H6=>D.nx σ H6
def jrL (X:Cx) (t:V->V->Hp->VK->Prop):Prop:=
 ∀(tf:List (Addr×Obj)) (s:Shared) (σ:St) (H:Hp) (o i:V) (ov iv:Value) (Q:VK),Inv X tf σ H s->RelV o ov->RelV i iv->t o i H Q->
   wpAny ‹"f"› X.A (getItem ov iv) (EP X tf σ Q) X.xe s
theorem jnW {o i e:Expr} {to ti te:TE} {tget:V->V->Hp->VK->Prop} {tip:TIp} {tset:jlv} {op:Operator} {tpos:Pos} (ho:PE X o to) (hi:PE X i ti) (hg:jrL X tget) (he:PE X e te) (hp:PIp X op tip) (hs:jqa X tset)
 (ha:∀ov iv new,augStore i ov iv new=(do holding [new,ov,iv] (setItem ov iv new);release [new,ov,iv] [];pure .next):=by intros;rfl):PS X (.AugAssign (.Subscript o i tpos) op e pos) (joy to ti te tget tip tset):=by
 intro tf s σ H D I h;refine wpAny_AugAssign_SubscriptAny (qI (ho tf s σ H _ I h) fun ov s1 zz=>?_) ha;obtain ⟨x1,H1,I1,r1,q1⟩:=zz;refine qI (hi tf s1 σ H1 _ I1 q1) fun iv s2 zz=>?_;obtain ⟨x2,H2,I2,r2,q2⟩:=zz;refine qI (hg tf s2 σ H2 x1 x2 ov iv _ I2 r1 r2 q2) fun old s3 zz=>?_;obtain ⟨x3,H3,I3,r3,q3⟩:=zz;refine qI (he tf s3 σ H3 _ I3 q3) fun v s4 zz=>?_;obtain ⟨x4,H4,I4,r4,q4⟩:=zz;refine qI (hp tf s4 σ H4 x3 x4 old v _ I4 r3 r4 q4) fun new s5 zz=>?_;obtain ⟨x5,H5,I5,r5,q5⟩:=zz;exact qI (hs tf s5 σ H5 x1 x2 x5 ov iv new _ I5 r1 r2 r5 q5) fun _ s6 ⟨H6,I6,q6⟩=>⟨σ,H6,I6,q6⟩
def ipI (f:Int->Int->Int):TIp:=fun x y H Q=>∃i j,x=.int i/\y=.int j/\Q (.int (f i j)) H
theorem jp8:PIp X .Add (ipI fun i j=>i+j):=by intro tf s σ H x y v u Q I r1 r2 h;obtain ⟨i,j,e1,e2,q⟩:=h;subst e1;subst e2;obtain ⟨t,rfl⟩:=r1;obtain ⟨t',rfl⟩:=r2;exact iadd_int ⟨.int _,H,I.tok _,⟨_,rfl⟩,q⟩
theorem jpd:PIp X .Sub (ipI fun i j=>i-j):=by intro tf s σ H x y v u Q I r1 r2 h;obtain ⟨i,j,e1,e2,q⟩:=h;subst e1;subst e2;obtain ⟨t,rfl⟩:=r1;obtain ⟨t',rfl⟩:=r2;exact isub_int ⟨.int _,H,I.tok _,⟨_,rfl⟩,q⟩
end
section
variable {X:Cx} {pos:Pos}
def jiy (c:TT) (tb:TS):TS:=fun D σ H=>∃W:Nat->St->Hp->Prop,(∃m,W m σ H)/\∀m σ H,W m σ H->
 c σ H fun b H1=>if b=true then ∃N:St->Hp->Prop,(∀σ' H',N σ' H'->∃m',m'<m/\W m' σ' H')/\tb { D with nx:=N,ct:=N,bk:=D.nx } σ H1 else D.nx σ H1
theorem jk1 {c:Expr} {body:List Stmt} {tc:TT} {tb:TS} (hp:PassesOwn ‹"f"› X.A X.env X.xe) (hc:PT X c tc) (hb:PSs X body tb):PS X (.While c body [] pos) (jiy tc tb):=by
 intro tf s σ H D I h;obtain ⟨W,⟨m0,w0⟩,turn⟩:=h;refine wpAny_While (codeAny_whileLoop (fun n s'=>∃σ' H',Inv X tf σ' H' s'/\W n σ' H') ?_ m0 ⟨σ,H,I,w0⟩);rintro n s1 ⟨σ1,H1,I1,w1⟩;refine yZ hp (qI (hc tf s1 σ1 H1 _ I1 (turn n σ1 H1 w1)) fun b s2 zz=>?_);obtain ⟨H2,I2,q2⟩:=zz;cases b with
 | true=>
   obtain ⟨N,hN,q2⟩:=q2;rw [if_pos rfl];refine yZ hp (qI (hb tf s2 σ1 H2 _ I2 q2) fun f s3 q3=>?_);cases f with
   | next=>obtain ⟨σ3,H3,I3,n3⟩:=q3;obtain ⟨m',hm,w3⟩:=hN σ3 H3 n3;exact ⟨m',hm,σ3,H3,I3,w3⟩
   | cont=>obtain ⟨σ3,H3,I3,n3⟩:=q3;obtain ⟨m',hm,w3⟩:=hN σ3 H3 n3;exact ⟨m',hm,σ3,H3,I3,w3⟩
   | brk=>exact q3
   | ret v=>exact q3
 | false=>rw [if_neg Yh];exact K7 ⟨σ1,H2,I2,q2⟩
end
structure It where
 go:Nat->Hp->Prop
 yld:Nat->Hp->V->Hp->Prop
 stop:Nat->Hp->Prop
def jdg (X:Cx) (tf:List (Addr×Obj)) (H:Hp) (b:Addr):Prop:=H b=none/\b≠X.env.locals/\b∉X.fs/\(b∈X.ex\/X.s₀.heap.objs.size<=b)/\(∀x c,X.env.cells.lookup x=some c->c≠b)/\∀p∈X.pn++tf,p.1≠b
theorem Inv.fpOk {X:Cx} {tf:List (Addr×Obj)} {σ:St} {H H':Hp} {s:Shared} {b:Addr} (I:Inv X tf σ H s) (hb:s.heap.objs.size<=b) (hn:H' b=none):jdg X tf H' b:=by
 refine ⟨hn,yp (Yn I.lt hb),I.nofs hb,.inr (Y5 I.sz hb),fun x c e z=>?_,fun p hp z=>?_⟩
 . obtain ⟨v,q⟩:=I.cell x c e;exact absurd (Yn q.lt (by rw [z];exact hb)) (Y7 _)
 . exact absurd (Yn (Yy (I.pin p hp).1) (by rw [z];exact hb)) (Y7 _)
structure Turn (P:Program) (w:World) (K:PySem.W.Frag) (tg:Expr) (J:It) (fp:List Addr) (it:Addr) (tn:Nat->Heap->Prop):Prop where
 mem:it∈fp
 obj:∀i h,tn i h->∀b∈fp,∃o,h.get? b=some o/\∀v,o.data≠.cell v
 keep:∀i h h',tn i h->(∀b∈fp,∀o,h.get? b=some o->h'.get? b=some o)->tn i h'
 item:∀(X:Cx),X.prog=P->X.w=w->X.K=K->X.calm=true->∀(i:Nat) (tf:List (Addr×Obj)) (s:Shared) (σ:St) (H:Hp) (E:Value->Shared->Prop),Inv X tf σ H s->(∀b∈fp,jdg X tf H b)->tn i s.heap->J.go i H->
  wpAny (model P w) X.A (pyNext (.ref it)) (fun r s1=>∃u,r=some u /\
   wpAny (model P w) X.A (letOwnedTupleGo tg (.ref it) u) (fun _ s2=>∃x H',Inv X tf σ H' s2/\RelV x u/\J.yld i H x H'/\tn (i+1) s2.heap/\∀b∈fp,H' b=none) E s1) E s
 done:∀(X:Cx),X.prog=P->X.w=w->X.K=K->X.calm=true->∀(i:Nat) (tf:List (Addr×Obj)) (s:Shared) (σ:St) (H:Hp) (E:Value->Shared->Prop),Inv X tf σ H s->(∀b∈fp,jdg X tf H b)->tn i s.heap->J.stop i H->
  wpAny (model P w) X.A (pyNext (.ref it)) (fun r s1=>r=none/\Inv X tf σ H s1) E s
 self:∀(A:Around) (i:Nat) (s:Shared) (Q:Value->Shared->Prop) (E:Value->Shared->Prop),tn i s.heap->Q (.ref it) s->wpAny (model P w) A (pyIter (.ref it)) Q E s
abbrev TI:=St->Hp->(It->Hp->Prop)->Prop
def PIE (X:Cx) (tf:List (Addr×Obj)) (σ:St) (tg:Expr) (R:It->Hp->Prop) (itv:Value) (s2:Shared):Prop:=∃(it:Addr) (fp:List Addr) (tn:Nat->Heap->Prop) (J:It) (H':Hp),itv=.ref it/\Inv X tf σ H' s2/\Turn X.prog X.w X.K tg J fp it tn/\tn 0 s2.heap/\(∀b∈fp,jdg X tf H' b)/\R J H'
def PI (X:Cx) (tg iter:Expr) (wi:TI):Prop:=
 ∀(tf:List (Addr×Obj)) (s:Shared) (σ:St) (H:Hp) (R:It->Hp->Prop),Inv X tf σ H s->wi σ H R->
   wpAny ‹"f"› X.A (eval iter X.env) (fun v s1=>wpAny ‹"f"› X.A (pyIter v) (PIE X tf σ tg R) X.xe s1) X.xe s
theorem jjg {M:Model} {A:Around} {E:Value->Shared->Prop} {s:Shared} {tg:Expr} {it:Addr} {u:Value} {o:Obj} {n:String} {vs:Array Value} {Q:Unit->Shared->Prop} (ho:s.heap.get? it=some o) (hc:o.cls=.type n) (hd:o.data=.fields vs)
 (hn:["enumerate","zip","dict_itemiterator","dict_reverseitemiterator","odict_iterator","itertools.zip_longest","itertools.pairwise"].contains n=false) (hQ:Q () s):wpAny M A (letOwnedTupleGo tg (.ref it) u) Q E s:=by
 unfold letOwnedTupleGo;cases tg <;> first
  | exact Yk hQ
  | (cases u <;> first
      | exact Yk hQ
      | (refine Yc (wpAny_load ho ?_)
         rw [hc,hd];show wpAny M A (if (["enumerate","zip","dict_itemiterator","dict_reverseitemiterator","odict_iterator","itertools.zip_longest","itertools.pairwise"].contains n && vs[0]? == some (rawInt _))=true then _ else _) Q E s;rw [if_neg (by intro h;rw [hn,Bool.false_and] at h;cases h)];exact Yk hQ))
def Itl (K:PySem.W.Frag) (a:Addr):It:=⟨fun i H=>∃xs x,J6 K H a xs/\xs[i]?=some x,fun i H x H'=>H'=H/\∀xs,J6 K H a xs->xs[i]?=some x,fun i H=>∃xs,J6 K H a xs/\xs.length<=i⟩
def Itt (K:PySem.W.Frag) (a:Addr):It:=⟨fun i H=>∃xs x,SqT K H a xs/\xs[i]?=some x,fun i H x H'=>H'=H/\∀xs,SqT K H a xs->xs[i]?=some x,fun i H=>∃xs,SqT K H a xs/\xs.length<=i⟩
def Itr (lo:Int) (n:Nat):It:=⟨fun i _=>i<n,fun i H x H'=>H'=H/\x=.int (lo+i),fun i _=>n<=i⟩
theorem jkd {P:Program} {w:World} {K:PySem.W.Frag} {tg:Expr} (a it:Addr):Turn P w K tg (Itl K a) [it] it (fun i h=>h.IsListIter it a i) where
 mem:=by simp
 obj:=fun i h st b hb=>by
  have e:b=it:=by simpa using hb
  subst e;obtain ⟨o,e,c,d⟩:=st;exact ⟨o,e,fun v z=>by rw [d] at z;cases z⟩
 keep:=fun i h h' st k=>st.at fun o e=>k it (by simp) o e
 item:=by intro X hP hw hK hc i tf s σ H E I hf st hg;subst hP hw hK;obtain ⟨xs,x,hq,hx⟩:=hg;obtain ⟨its,rv,p,hz⟩:=I.list hq;obtain ⟨u,hu,ru⟩:=rv.get hx;obtain ⟨f0,f1,f2,f3,f4,f5⟩:=hf it (by simp);refine wpAny_pyNext_list_item st p.isList (x:=u) (by simpa using hu) fun h' st' sb=>?_;have I1:Inv X tf σ H { s with heap:=h' }:=I.turned (t':=s.toks) (fun b o hb e=>(sb.2 b hb).trans e) f0 f1 f3 f4 f5;obtain ⟨o,e,c,d⟩:=id st';exact ⟨u,rfl,jjg (s:={ s with heap:=h' }) e c d (by decide) ⟨x,H,I1,ru,⟨rfl,fun ys hy=>by rw [I.list_inj hy hq];exact hx⟩,st',fun b hb=>(hf b hb).1⟩⟩
 done:=by intro X hP hw hK hc i tf s σ H E I hf st hg;subst hP hw hK;obtain ⟨xs,hq,hx⟩:=hg;obtain ⟨its,rv,p,hz⟩:=I.list hq;obtain ⟨f0,f1,f2,f3,f4,f5⟩:=hf it (by simp);have hl:=rv.length;exact wpAny_pyNext_list_end (I.ok.hd hc) st p.isList (by simp;omega) fun h' eb=>⟨rfl,I.turned (t':=s.toks) (fun b o hb e=>eb b o hb e) f0 f1 f3 f4 f5⟩
 self:=fun _ _ _ _ _ st h=>wpAny_pyIter_listiter st h
theorem jhX {P:Program} {w:World} {K:PySem.W.Frag} {tg:Expr} (a it:Addr):Turn P w K tg (Itt K a) [it] it (fun i h=>h.IsTupleIter it a i) where
 mem:=by simp
 obj:=fun i h st b hb=>by
  have e:b=it:=by simpa using hb
  subst e;obtain ⟨o,e,c,d⟩:=st;exact ⟨o,e,fun v z=>by rw [d] at z;cases z⟩
 keep:=fun i h h' st k=>st.at fun o e=>k it (by simp) o e
 item:=by intro X hP hw hK hc i tf s σ H E I hf st hg;subst hP hw hK;obtain ⟨xs,x,hq,hx⟩:=hg;obtain ⟨its,rv,p,hz⟩:=I.tuple hq;obtain ⟨u,hu,ru⟩:=rv.get hx;obtain ⟨f0,f1,f2,f3,f4,f5⟩:=hf it (by simp);refine wpAny_pyNext_tuple_item st (show s.heap.IsTuple a its.toArray from p) (x:=u) (by simpa using hu) fun h' st' sb=>?_;have I1:Inv X tf σ H { s with heap:=h' }:=I.turned (t':=s.toks) (fun b o hb e=>(sb.2 b hb).trans e) f0 f1 f3 f4 f5;obtain ⟨o,e,c,d⟩:=id st';exact ⟨u,rfl,jjg (s:={ s with heap:=h' }) e c d (by decide) ⟨x,H,I1,ru,⟨rfl,fun ys hy=>by rw [I.tuple_inj hy hq];exact hx⟩,st',fun b hb=>(hf b hb).1⟩⟩
 done:=by intro X hP hw hK hc i tf s σ H E I hf st hg;subst hP hw hK;obtain ⟨xs,hq,hx⟩:=hg;obtain ⟨its,rv,p,hz⟩:=I.tuple hq;obtain ⟨f0,f1,f2,f3,f4,f5⟩:=hf it (by simp);have hl:=rv.length;exact wpAny_pyNext_tuple_end (I.ok.hd hc) st (show s.heap.IsTuple a its.toArray from p) (by simp;omega) fun h' eb=>⟨rfl,I.turned (t':=s.toks) (fun b o hb e=>eb b o hb e) f0 f1 f3 f4 f5⟩
 self:=fun _ _ _ _ _ st h=>wpAny_pyIter_tupleiter st h
theorem jh4 {P:Program} {w:World} {K:PySem.W.Frag} {tg:Expr} (it:Addr) (lo:Int) (n:Nat):Turn P w K tg (Itr lo n) [it] it (fun i h=>IsRangeIter h it (lo+(i:Nat)*1) ((n:Int)-(i:Nat)) 1) where
 mem:=by simp
 obj:=fun i h st b hb=>by
  have e:b=it:=by simpa using hb
  subst e;exact ⟨_,st,fun v z=>by have z':Data.fields _=Data.cell v:=z;cases z'⟩
 keep:=fun i h h' st k=>k it (by simp) _ st
 item:=by intro X hP hw hK hc i tf s σ H E I hf st hg;subst hP hw hK;obtain ⟨f0,f1,f2,f3,f4,f5⟩:=hf it (by simp);have W:=Walks.range (prog:=X.prog) (w:=X.w) (I.ok.hd hc) it lo 1 n;refine W.item i s _ _ hg st fun v h' tk hv st' kk=>?_;obtain ⟨t,rfl⟩:=hv;have I1:Inv X tf σ H { s with heap:=h',toks:=tk }:=I.turned (fun b o hb e=>kk b o (by simpa using hb) e) f0 f1 f3 f4 f5;refine ⟨_,rfl,jjg (s:={ s with heap:=h',toks:=tk }) (n := "range_iterator") st' rfl rfl (by decide) ⟨.int (lo+i),H,I1,⟨t,?_⟩,⟨rfl,rfl⟩,st',fun b hb=>(hf b hb).1⟩⟩;rw [Int.mul_one]
 done:=by intro X hP hw hK hc i tf s σ H E I hf st hg;subst hP hw hK;obtain ⟨f0,f1,f2,f3,f4,f5⟩:=hf it (by simp);exact wpAny_pyNext_range_end (I.ok.hd hc) st (by have:n<=i:=hg;omega) fun h' eb=>⟨rfl,I.turned (t':=s.toks) (fun b o hb e=>eb b o hb e) f0 f1 f3 f4 f5⟩
 self:=fun _ _ _ _ _ st h=>wpAny_pyIter_rangeiter st h
end L2
namespace L2
open PySem PySem.Spec PyProof.Rows
section
variable {X:Cx} {tg:Expr}
def jgr (K:PySem.W.Frag) (tl:TE):TI:=fun σ H R=>tl σ H fun x H1=>∃a,x=.ref a/\(∃xs,J6 K H1 a xs)/\R (Itl K a) H1
def jqi (K:PySem.W.Frag) (tl:TE):TI:=fun σ H R=>tl σ H fun x H1=>∃a,x=.ref a/\(∃xs,SqT K H1 a xs)/\R (Itt K a) H1
theorem jjf {l:Expr} {tl:TE} (hl:PE X l tl):PI X tg l (jgr X.K tl):=by
 intro tf s σ H R I h;refine qI (hl tf s σ H _ I h) fun v s1 zz=>?_;obtain ⟨x,H1,I1,r1,q1⟩:=zz;obtain ⟨a,e,⟨xs,hq⟩,q⟩:=q1;subst e;cases r1;obtain ⟨its,rv,p,hz⟩:=I1.list hq;refine wpAny_pyIter_list p.isList ?_;refine ⟨s1.heap.objs.size,[s1.heap.objs.size],_,_,H1,rfl,I1.kept (t':=s1.toks) fun b o e=>Yj _ e,jkd a _,⟨_,YA _ rfl,rfl,rfl⟩,fun b hb=>?_,q⟩;have e:b=s1.heap.objs.size:=by simpa using hb
 subst e;exact I1.fpOk (Ys _) (I1.hok.fresh (Ys _))
theorem jo8 {l:Expr} {tl:TE} (hl:PE X l tl):PI X tg l (jqi X.K tl):=by
 intro tf s σ H R I h;refine qI (hl tf s σ H _ I h) fun v s1 zz=>?_;obtain ⟨x,H1,I1,r1,q1⟩:=zz;obtain ⟨a,e,⟨xs,hq⟩,q⟩:=q1;subst e;cases r1;obtain ⟨its,rv,p,hz⟩:=I1.tuple hq;refine wpAny_pyIter_tuple (show s1.heap.IsTuple a its.toArray from p) ?_;refine ⟨s1.heap.objs.size,[s1.heap.objs.size],_,_,H1,rfl,I1.kept (t':=s1.toks) fun b o e=>Yj _ e,jhX a _,⟨_,YA _ rfl,rfl,rfl⟩,fun b hb=>?_,q⟩;have e:b=s1.heap.objs.size:=by simpa using hb
 subst e;exact I1.fpOk (Ys _) (I1.hok.fresh (Ys _))
theorem jk9 {tf:List (Addr×Obj)} {σ:St} {H:Hp} {s:Shared} {R:It->Hp->Prop} {E:Value->Shared->Prop} {lo hi:Int} {t u v:Tok} {tk:Nat} (I:Inv X tf σ H s) (h1:-(2 ^ 62)<=lo) (h2:lo<2 ^ 62) (h3:-(2 ^ 62)<=hi) (h4:hi<2 ^ 62)
 (q:R (Itr lo (hi-lo).toNat) H):wpAny ‹"f"› X.A (pyIter (.ref s.heap.objs.size)) (PIE X tf σ tg R) E { s with heap:=s.heap.push { cls:=.type "range",data:=.fields #[.int lo t,.int hi u,.int 1 v] },toks:=tk }:=by
 refine wpAny_pyIter_range (IsRange.new ..) (small_one h1 h2 h3 h4) ?_;have I1:Inv X tf σ H { s with heap:=s.heap.push { cls:=.type "range",data:=.fields #[.int lo t,.int hi u,.int 1 v] },toks:=tk }:=I.kept fun b o e=>Yj _ e;refine ⟨‹"0"›.objs.size,[‹"0"›.objs.size],_,_,H,rfl,
  I1.kept (t':=tk) fun b o e=>Yj _ e,jh4 _ lo (hi-lo).toNat,?_,fun b hb=>?_,q⟩
 . have e1:lo+((0:Nat):Int)*1=lo:=by simp
   have e2:(((hi-lo).toNat:Nat):Int)-((0:Nat):Int)=Builtin.Range.rangeSize lo hi 1:=by rw [rangeSize_one];split <;> omega
   show IsRangeIter _ _ (lo+((0:Nat):Int)*1) ((((hi-lo).toNat:Nat):Int)-((0:Nat):Int)) 1;rw [e1,e2];exact YA _ rfl
 . have e:b=‹"0"›.objs.size:=by simpa using hb
   subst e;exact I1.fpOk (Ys _) (I1.hok.fresh (Ys _))
def jov (ta:TA):TI:=fun σ H R=>ta σ H fun vs H1=>∃j:Int,vs=[.int j] /\ -(2 ^ 62)<=j/\j<2 ^ 62/\R (Itr 0 j.toNat) H1
theorem jki {a:Expr} {ta:TA} {p pos:Pos} (hg:Gl X "range") (hm:X.mg "range"=none) (ha:PA X [a] ta) (hs:starEach [a] X.env=[(false,eval a X.env)]:=by rfl):PI X tg (.Call (.Name "range" p) [a] [] pos) (jov ta):=by
 intro tf s σ H R I h;refine Call_ (QQ I hg hm boot_range (Y2 (qI (ha pos tf s σ H _ I h) fun us s1 zz=>?_) hs rfl));obtain ⟨vs,H1,I1,r1,q1⟩:=zz;obtain ⟨j,e,q1,q2,q⟩:=q1;subst e;cases r1 with
 | cons r rr=>cases rr;obtain ⟨t,rfl⟩:=r;exact call_range_1 (jk9 I1 (by omega) (by omega) q1 q2 (by simpa using q))
def jro (wi:TI) (g:TG) (tb:TS):TS:=fun D σ H=>wi σ H fun J H1=>∃W:Nat->Nat->St->Hp->Prop,(∃m,W 0 m σ H1)/\∀i m σ H,W i m σ H->
 (J.stop i H/\D.nx σ H)\/(J.go i H/\∃N:St->Hp->Prop,(∀σ' H',N σ' H'->∃m',m'<m/\W (i+1) m' σ' H')/\∀x H',J.yld i H x H'->g x σ H' fun σ2 H2=>tb { D with nx:=N,ct:=N,bk:=D.nx } σ2 H2)
def jdX (fp:List Addr) (h:Heap):List (Addr×Obj):=fp.filterMap fun b=>(h.get? b).map fun o=>(b,o)
theorem Zt {fp:List Addr} {h:Heap} {b:Addr} {o:Obj} (hb:b∈fp) (e:h.get? b=some o):(b,o)∈jdX fp h:=List.mem_filterMap.mpr ⟨b,hb,by rw [e];rfl⟩
theorem jkJ {fp:List Addr} {h:Heap} {p:Addr×Obj} (hp:p∈jdX fp h):p.1∈fp/\h.get? p.1=some p.2:=by
 obtain ⟨b,hb,e⟩:=List.mem_filterMap.mp hp;cases q:h.get? b with
 | none=>rw [q] at e;cases e
 | some o=>rw [q] at e;have e':(b,o)=p:=Option.some.inj e;subst e';exact ⟨hb,q⟩
theorem Inv.pinned {tf:List (Addr×Obj)} {σ:St} {H:Hp} {s:Shared} {fp:List Addr} (I:Inv X tf σ H s) (hf:∀b∈fp,jdg X tf H b) (ho:∀b∈fp,∃o,s.heap.get? b=some o/\∀v,o.data≠.cell v):Inv X (tf++jdX fp s.heap) σ H s:=
 I.pins_of fun p hp=>(YV.mp hp).elim (fun z=>I.pin p (YL _ z)) fun z=>by obtain ⟨hb,e⟩:=jkJ z;obtain ⟨f0,f1,f2,_⟩:=hf p.1 hb;obtain ⟨o,e',d⟩:=ho p.1 hb;rw [e] at e';cases e';exact ⟨e,f0,f1,f2,d⟩
theorem Inv.unpinned {tf pl:List (Addr×Obj)} {σ:St} {H:Hp} {s:Shared} (I:Inv X (tf++pl) σ H s):Inv X tf σ H s:=I.pins_of fun p hp=>I.pin p (YL _ (Yx _ hp))
theorem jpR {iter:Expr} {body:List Stmt} {wi:TI} {g:TG} {tb:TS} {pos:Pos} (hp:PassesOwn ‹"f"› X.A X.env X.xe) (hc:X.calm=true) (hi:PI X tg iter wi) (hg:PG X tg g) (hb:PSs X body tb)
 (hs:∀x,foldedSetIterable iter X.env x=pure x:=by intro _;rfl):PS X (.For tg iter body [] pos) (jro wi g tb):=by
 intro tf s σ H D I h;refine wpAny_For (qI (hi tf s σ H _ I h) fun v s1 h1=>qI h1 fun itv s2 h2=>?_) hs;obtain ⟨it,fp,tn,J,H2,e,I2,T,st2,f2,W,⟨m0,w0⟩,turn⟩:=h2;subst e
 -- what stays true of the iterator's objects through the loop
 have stat:∀{H':Hp},(∀b∈fp,H' b=none)->∀b∈fp,jdg X tf H' b:=fun hn b hb=>⟨hn b hb,(f2 b hb).2⟩;refine codeAny_forLoop_any (fun n s'=>∃i σ' H',Inv X tf σ' H' s'/\tn i s'.heap/\(∀b∈fp,H' b=none)/\W i n σ' H') ?_ m0 ⟨0,σ,H2,I2,st2,fun b hb=>(f2 b hb).1,w0⟩;rintro n s3 ⟨i,σ3,H3,I3,st3,fr3,w3⟩;rcases turn i n σ3 H3 w3 with ⟨stop,qn⟩ | ⟨go,N,hN,step⟩
 . refine yZ hp (qI (T.done X rfl rfl rfl hc i tf s3 σ3 H3 X.xe I3 (stat fr3) st3 stop) fun r s4 zz=>?_);obtain ⟨hr,I4⟩:=zz;subst hr;exact K7 ⟨σ3,H3,I4,qn⟩
 . refine yZ hp (qI (T.item X rfl rfl rfl hc i tf s3 σ3 H3 X.xe I3 (stat fr3) st3 go) fun r s4 zz=>?_);obtain ⟨u,hr,h4⟩:=zz;subst hr;refine yZ hp (qI h4 fun _ s5 zz=>?_);obtain ⟨x,H5,I5,r5,y5,st5,fr5⟩:=zz;have I5':=I5.pinned (stat fr5) (T.obj _ _ st5);refine yZ hp (qI (hg _ s5 σ3 H5 x u _ I5' r5 (step x H5 y5)) fun _ s6 zz=>?_);obtain ⟨σ6,H6,I6,q6⟩:=zz;refine yZ hp (qI (hb _ s6 σ6 H6 _ I6 q6) fun f s7 q7=>?_);have again:∀{σ7:St} {H7:Hp},Inv X (tf++jdX fp s5.heap) σ7 H7 s7->N σ7 H7->∃m,m<n/\∃i σ' H',Inv X tf σ' H' s7/\tn i s7.heap/\(∀b∈fp,H' b=none)/\W i m σ' H':=fun {σ7 H7} I7 n7=>by obtain ⟨m',hm,w7⟩:=hN σ7 H7 n7;refine ⟨m',hm,i+1,σ7,H7,I7.unpinned,T.keep _ _ _ st5 fun b hb o e=>(I7.pin (b,o) (YL _ (YL _ (Zt hb e)))).1,fun b hb=>?_,w7⟩;obtain ⟨o,e,d⟩:=T.obj _ _ st5 b hb;exact (I7.pin (b,o) (YL _ (YL _ (Zt hb e)))).2.1
   cases f with
   | next=>obtain ⟨σ7,H7,I7,n7⟩:=q7;exact again I7 n7
   | cont=>obtain ⟨σ7,H7,I7,n7⟩:=q7;exact again I7 n7
   | brk=>obtain ⟨σ7,H7,I7,q7⟩:=q7;exact ⟨σ7,H7,I7.unpinned,q7⟩
   | ret v=>obtain ⟨x7,σ7,H7,I7,r7,q7⟩:=q7;exact ⟨x7,σ7,H7,I7.unpinned,r7,q7⟩
end
theorem jdc {c:TT} {tb:TS} {D:Ends} {σ:St} {H:Hp} (Pv:St->Hp->Prop) (μ:St->Hp->Nat) (h0:Pv σ H)
 (hs:∀σ H,Pv σ H->c σ H fun b H1=>if b=true then tb { D with nx:=fun σ' H'=>Pv σ' H'/\μ σ' H'<μ σ H,ct:=fun σ' H'=>Pv σ' H'/\μ σ' H'<μ σ H,bk:=D.nx } σ H1 else D.nx σ H1)
 (mono:∀σ H Q Q',(∀b H1,Q b H1->Q' b H1)->c σ H Q->c σ H Q'):jiy c tb D σ H:=by
 refine ⟨fun m σ H=>m=μ σ H/\Pv σ H,⟨_,rfl,h0⟩,?_⟩;rintro m σ H ⟨rfl,p⟩;refine mono σ H _ _ (fun b H1 q=>?_) (hs σ H p);cases b with
 | true=>exact ⟨_,fun σ' H' ⟨p',l⟩=>⟨_,l,rfl,p'⟩,q⟩
 | false=>exact q
end L2
namespace L2
open PySem PySem.Spec PyProof.Rows
abbrev R2:=V->V->Hp->VK->Prop
def OpR (X:Cx) (f:Value->Value->Sem Value) (r:R2):Prop:=
 ∀(tf:List (Addr×Obj)) (s:Shared) (σ:St) (H:Hp) (x y:V) (v u:Value) (Q:VK),Inv X tf σ H s->RelV x v->RelV y u->r x y H Q->
   wpAny ‹"f"› X.A (f v u) (EP X tf σ Q) X.xe s
def CallR (X:Cx) (f:Value) (r:List V->Hp->VK->Prop):Prop:=
 ∀(tf:List (Addr×Obj)) (s:Shared) (σ:St) (H:Hp) (xs:List V) (us:List Value) (Q:VK),Inv X tf σ H s->Vals xs us->r xs H Q->
   wpAny ‹"f"› X.A (call f us) (EP X tf σ Q) X.xe s
def tOp (r:R2) (ta tb:TE):TE:=fun σ H Q=>ta σ H fun x H1=>tb σ H1 fun y H2=>r x y H2 Q
def rI (C:Int->Int->Prop) (g:Int->Int->V):R2:=fun x y H Q=>∃i j,x=.int i/\y=.int j/\C i j/\Q (g i j) H
def rI0 (g:Int->Int->V):R2:=fun x y H Q=>∃i j,x=.int i/\y=.int j/\Q (g i j) H
section
variable {X:Cx} {a b c:Expr} {ta tb tc:TE} {pos:Pos}
theorem jqX (ha:PE X a ta) (hb:PE X b tb) {tf:List (Addr×Obj)} {s:Shared} {σ:St} {H:Hp} {R:V->V->Hp->Prop} (I:Inv X tf σ H s)
 (h:ta σ H fun x H1=>tb σ H1 fun y H2=>R x y H2) {Q:Value->Shared->Prop} {f:Value->Value->Sem Value}
 (hf:∀v u s2 x y H2,Inv X tf σ H2 s2->RelV x v->RelV y u->R x y H2->wpAny ‹"f"› X.A (f v u) Q X.xe s2) :
 wpAny ‹"f"› X.A (eval a X.env) ‹"bm"› X.xe s:=by
 refine qI ‹"ak"› fun v s1 zz=>?_;obtain ⟨x,H1,I1,r1,q1⟩:=zz;refine qI (hb tf s1 σ H1 _ I1 q1) fun u s2 zz=>?_;obtain ⟨y,H2,I2,r2,q2⟩:=zz;exact hf v u s2 x y H2 I2 r1 r2 q2
theorem jkU {op:Operator} {r:R2} (ho:OpR X (binaryOp op) r) (ha:PE X a ta) (hb:PE X b tb):PE X (.BinOp a op b pos) (tOp r ta tb):=by intro tf s σ H Q I h;exact wpAny_BinOp (jqX ha hb I h fun v u s2 x y H2 I2 rx ry q=>ho tf s2 σ H2 x y v u Q I2 rx ry q)
theorem opI {f:Value->Value->Sem Value} {C:Int->Int->Prop} {g:Int->Int->Int}
 (rule:∀(i j:Int) (t u:Tok) (s:Shared) (Q:Value->Shared->Prop) (E:Value->Shared->Prop),C i j->Q (.int (g i j) s.toks) { s with toks:=s.toks+1 }->wpAny ‹"f"› X.A (f (.int i t) (.int j u)) Q E s) :
 OpR X f (rI C fun i j=>.int (g i j)):=by
 intro tf s σ H x y v u Q I rx ry h;obtain ⟨i,j,rfl,rfl,hc,q⟩:=h;obtain ⟨t,rfl⟩:=rx;obtain ⟨t',rfl⟩:=ry;exact rule i j t t' s _ _ hc ⟨.int (g i j),H,I.tok _,⟨_,rfl⟩,q⟩
theorem jrc {f:Value->Value->Sem Value} {g:Int->Int->Int}
 (rule:∀(i j:Int) (t u:Tok) (s:Shared) (Q:Value->Shared->Prop) (E:Value->Shared->Prop),Q (.int (g i j) s.toks) { s with toks:=s.toks+1 }->wpAny ‹"f"› X.A (f (.int i t) (.int j u)) Q E s) :
 OpR X f (rI0 fun i j=>.int (g i j)):=by
 intro tf s σ H x y v u Q I rx ry h;obtain ⟨i,j,rfl,rfl,q⟩:=h;obtain ⟨t,rfl⟩:=rx;obtain ⟨t',rfl⟩:=ry;exact rule i j t t' s _ _ ⟨.int (g i j),H,I.tok _,⟨_,rfl⟩,q⟩
theorem jm4 {f:Value->Value->Sem Value} {g:Int->Int->Bool}
 (rule:∀(i j:Int) (t u:Tok) (s:Shared) (Q:Value->Shared->Prop) (E:Value->Shared->Prop),Q (.bool (g i j)) s->wpAny ‹"f"› X.A (f (.int i t) (.int j u)) Q E s) :
 OpR X f (rI0 fun i j=>.bl (g i j)):=by
 intro tf s σ H x y v u Q I rx ry h;obtain ⟨i,j,rfl,rfl,q⟩:=h;obtain ⟨t,rfl⟩:=rx;obtain ⟨t',rfl⟩:=ry;exact rule i j t t' s _ _ ⟨.bl (g i j),H,I,rfl,q⟩
def jeC (i j:Int):Prop:=0<=j/\j<=1000000/\i.natAbs<2 ^ 64
def CMul (i j:Int):Prop:=(-(2 ^ 64)<i/\i<2 ^ 64)\/(-(2 ^ 64)<j/\j<2 ^ 64)
theorem CMul.ok {i j:Int} (h:CMul i j):IntMulOk i j:=by
 rcases h with ⟨h1,h2⟩ | ⟨h1,h2⟩
 . exact .of_left (intBits_le_64 h1 h2)
 . exact .of_right (intBits_le_64 h1 h2)
theorem jpI:OpR X (binaryOp .Add) (rI0 fun i j=>.int (i+j)):=jrc fun _ _ _ _ _ _ _ q=>add_int q
theorem jpo:OpR X (binaryOp .Sub) (rI0 fun i j=>.int (i-j)):=jrc fun _ _ _ _ _ _ _ q=>sub_int q
theorem jqw:OpR X (binaryOp .Mod) (rI (fun _ j=>0<j) fun i j=>.int (i%j)):=opI fun i j _ _ _ _ _ hc q=>by have h1:(0:Int)<j:=hc;exact mod_int' (by omega) (by rw [Int.fmod_eq_emod_of_nonneg i (by omega)];exact q)
theorem jqe:OpR X (binaryOp .Pow) (rI jeC fun i j=>.int (i ^ j.toNat)):=opI fun _ _ _ _ _ _ _ hc q=>pow_int_small hc.1 hc.2.1 hc.2.2 q
end
def jqx:V->V->Bool
 | .non,.non=>true | .non,.int _=>true | .int _,.non=>true | .non,.bl _=>true | .bl _,.non=>true | .non,.str _=>true | .str _,.non=>true
 | .int _,.int _=>true | .bl _,.bl _=>true | .str _,.str _=>true | .byt _,.byt _=>true
 | .int _,.str _=>true | .str _,.int _=>true | .bl _,.str _=>true | .str _,.bl _=>true
 | _,_=>false
def rEq:R2:=fun x y H Q=>jqx x y=true/\Q (.bl (decide (x=y))) H
def rNe:R2:=fun x y H Q=>jqx x y=true/\Q (.bl (!decide (x=y))) H
theorem jjJ {i j:Int}:decide (V.int i=V.int j)=(i == j):=by rw [kd];simp
theorem jlT {i j:Bool}:decide (V.bl i=V.bl j)=(i == j):=by rw [kd];simp
theorem jjs {i j:Str}:decide (V.str i=V.str j)=(i == j):=by rw [kd];simp
theorem jjK {i j:Array UInt8}:decide (V.byt i=V.byt j)=(i.toList == j.toList):=by rw [kd];cases i;cases j;simp
section
variable {X:Cx} {a b c:Expr} {ta tb tc:TE} {pos:Pos}
theorem qj {tf:List (Addr×Obj)} {σ:St} {H:Hp} {s:Shared} {Q:VK} {k k':Bool} (I:Inv X tf σ H s) (q:Q (.bl k) H) (e:k=k'):EP X tf σ Q (.bool k') s:=by subst e;exact ⟨.bl k,H,I,rfl,q⟩
theorem jrE:OpR X (compareOp .Eq) rEq:=by
 intro tf s σ H x y v u Q I rx ry h;obtain ⟨hs,q⟩:=h;cases x with
 | non=>
   cases rx;cases y with
   | non=>cases ry;exact PySem.EqNone.eq_none_none ‹"L"›
   | bl j=>cases ry;exact PySem.EqNone.eq_none_bool ‹"L"›
   | int j=>obtain ⟨t',rfl⟩:=ry;exact PySem.EqNone.eq_none_int ‹"L"›
   | str j=>obtain ⟨t',rfl⟩:=ry;exact PySem.EqNone.eq_none_str ‹"L"›
   | _=>exact absurd (show false=true from hs) Yh
 | bl i=>
   cases rx;cases y with
   | non=>cases ry;exact PySem.EqNone.eq_bool_none ‹"L"›
   | bl j=>cases ry;exact eq_bool (qj I q jlT)
   | str j=>obtain ⟨t',rfl⟩:=ry;exact PySem.EqMixed.eq_bool_str ‹"L"›
   | _=>exact absurd (show false=true from hs) Yh
 | int i=>
   obtain ⟨t,rfl⟩:=rx;cases y with
   | non=>cases ry;exact PySem.EqNone.eq_int_none ‹"L"›
   | int j=>obtain ⟨t',rfl⟩:=ry;exact eq_int (qj I q jjJ)
   | str j=>obtain ⟨t',rfl⟩:=ry;exact PySem.EqMixed.eq_int_str ‹"L"›
   | _=>exact absurd (show false=true from hs) Yh
 | str i=>
   obtain ⟨t,rfl⟩:=rx;cases y with
   | non=>cases ry;exact PySem.EqNone.eq_str_none ‹"L"›
   | bl j=>cases ry;exact PySem.EqMixed.eq_str_bool ‹"L"›
   | int j=>obtain ⟨t',rfl⟩:=ry;exact PySem.EqMixed.eq_str_int ‹"L"›
   | str j=>obtain ⟨t',rfl⟩:=ry;exact eq_str (qj I q jjs)
   | _=>exact absurd (show false=true from hs) Yh
 | byt i=>
   obtain ⟨t,rfl⟩:=rx;cases y with
   | byt j=>obtain ⟨t',rfl⟩:=ry;exact PySem.W.eq_bytes (qj I q jjK)
   | _=>exact absurd (show false=true from hs) Yh
 | _=>cases y <;> exact absurd (show false=true from hs) Yh
theorem jrD:OpR X (compareOp .NotEq) rNe:=by
 intro tf s σ H x y v u Q I rx ry h;obtain ⟨hs,q⟩:=h;cases x with
 | non=>
   cases rx;cases y with
   | non=>cases ry;exact PySem.EqNone.ne_none_none ‹"L"›
   | bl j=>cases ry;exact PySem.EqNone.ne_none_bool ‹"L"›
   | int j=>obtain ⟨t',rfl⟩:=ry;exact PySem.EqNone.ne_none_int ‹"L"›
   | str j=>obtain ⟨t',rfl⟩:=ry;exact PySem.EqNone.ne_none_str ‹"L"›
   | _=>exact absurd (show false=true from hs) Yh
 | bl i=>
   cases rx;cases y with
   | non=>cases ry;exact PySem.EqNone.ne_bool_none ‹"L"›
   | bl j=>cases ry;exact ne_bool (qj I q (congrArg not jlT))
   | str j=>obtain ⟨t',rfl⟩:=ry;exact PySem.EqMixed.ne_bool_str ‹"L"›
   | _=>exact absurd (show false=true from hs) Yh
 | int i=>
   obtain ⟨t,rfl⟩:=rx;cases y with
   | non=>cases ry;exact PySem.EqNone.ne_int_none ‹"L"›
   | int j=>obtain ⟨t',rfl⟩:=ry;exact ne_int (qj I q (congrArg not jjJ))
   | str j=>obtain ⟨t',rfl⟩:=ry;exact PySem.EqMixed.ne_int_str ‹"L"›
   | _=>exact absurd (show false=true from hs) Yh
 | str i=>
   obtain ⟨t,rfl⟩:=rx;cases y with
   | non=>cases ry;exact PySem.EqNone.ne_str_none ‹"L"›
   | bl j=>cases ry;exact PySem.EqMixed.ne_str_bool ‹"L"›
   | int j=>obtain ⟨t',rfl⟩:=ry;exact PySem.EqMixed.ne_str_int ‹"L"›
   | str j=>obtain ⟨t',rfl⟩:=ry;exact ne_str (qj I q (congrArg not jjs))
   | _=>exact absurd (show false=true from hs) Yh
 | byt i=>
   obtain ⟨t,rfl⟩:=rx;cases y with
   | byt j=>obtain ⟨t',rfl⟩:=ry;exact PySem.W.ne_bytes (qj I q (congrArg not jjK))
   | _=>exact absurd (show false=true from hs) Yh
 | _=>cases y <;> exact absurd (show false=true from hs) Yh
theorem jr3:OpR X (compareOp .Lt) (rI0 fun i j=>.bl (decide (i<j))):=jm4 fun _ _ _ _ _ _ _ q=>lt_int q
theorem jq7:OpR X (compareOp .LtE) (rI0 fun i j=>.bl (decide (i<=j))):=jm4 fun _ _ _ _ _ _ _ q=>le_int q
theorem jss:OpR X (compareOp .Gt) (rI0 fun i j=>.bl (decide (j<i))):=jm4 fun _ _ _ _ _ _ _ q=>gt_int q
theorem jsi:OpR X (compareOp .GtE) (rI0 fun i j=>.bl (decide (j<=i))):=jm4 fun _ _ _ _ _ _ _ q=>ge_int q
theorem nomark (b:Expr) {op:CmpOp} (h:op≠.In:=by decide) (h2:op≠.NotIn:=by decide):behindInMarks op b=false:=by
 have e1:(op == CmpOp.In)=false:=by cases op <;> first | rfl | exact absurd rfl h
 have e2:(op == CmpOp.NotIn)=false:=by cases op <;> first | rfl | exact absurd rfl h2
 cases b <;> simp [behindInMarks,e1,e2]
theorem jnA {op:CmpOp} {r:R2} (ho:OpR X (compareOp op) r) (ha:PE X a ta) (hb:PE X b tb) (hm:behindInMarks op b=false):PE X (.Compare a [op] [b] pos) (tOp r ta tb):=by intro tf s σ H Q I h;exact wpAny_Compare1 (jqX ha hb I h fun v u s2 x y H2 I2 rx ry q=>ho tf s2 σ H2 x y v u Q I2 rx ry q) hm
def joj (t:TE):TT:=fun σ H Q=>t σ H fun x H'=>∃k,x=.bl k/\Q k H'
theorem jnl {op:CmpOp} {r:R2} (ho:OpR X (compareOp op) r) (ha:PE X a ta) (hb:PE X b tb) (hm:behindInMarks op b=false):PT X (.Compare a [op] [b] pos) (joj (tOp r ta tb)):=by
 intro tf s σ H Q I h;refine wpAny_isTrue_Compare1 (qI ‹"ak"› fun v s1 ⟨x,H1,I1,r1,q1⟩=>qI (hb tf s1 σ H1 _ I1 q1) fun u s2 ⟨y,H2,I2,r2,q2⟩=>qI (ho tf s2 σ H2 x y v u _ I2 r1 r2 q2) fun c s3 ⟨z,H3,I3,r3,k,e,q3⟩=>?_) hm
 subst e;cases r3;exact yN ⟨H3,I3,q3⟩
def jle (r r':R2) (ta tb tc:TE):TE:=fun σ H Q=>ta σ H fun x H1=>tb σ H1 fun y H2=>r x y H2 fun z H3=>∃k,z=.bl k /\
 (if k=true then tc σ H3 fun w' H4=>r' y w' H4 Q else Q (.bl false) H3)
theorem jk6 {op op':CmpOp} {r r':R2} (ho:OpR X (compareOp op) r) (ho':OpR X (compareOp op') r') (ha:PE X a ta) (hb:PE X b tb) (hc:PE X c tc)
 (hm:autoParam (lastMarks [op,op'] [b,c]=false) QA.a6._auto_1):PE X (.Compare a [op,op'] [b,c] pos) (jle r r' ta tb tc):=by
 intro tf s σ H Q I h;refine Compare_chain (qI ‹"ak"› fun v s1 ⟨x,H1,I1,r1,q1⟩=>chain_link (qI (hb tf s1 σ H1 _ I1 q1) fun u s2 ⟨y,H2,I2,r2,q2⟩=>qI (ho tf s2 σ H2 x y v u _ I2 r1 r2 q2) fun d s3 ⟨z,H3,I3,r3,k,e,q3⟩=>?_)) hm
 subst e;cases r3;refine yN ?_;cases k with
 | false=>exact ite_ff ⟨.bl false,H3,I3,rfl,q3⟩
 | true=>exact ite_tt (chain_last (qI (hc tf s3 σ H3 _ I3 q3) fun w' s4 ⟨z',H4,I4,r4,q4⟩=>ho' tf s4 σ H4 y z' u w' Q I4 r2 r4 q4))
theorem jaZ:(sizeLine:Nat)<2 ^ 63:=by rw [sizeLine_eq];decide
theorem jcm {x:V} {us:List Value} (r:Vals [x] us):∃u,us=[u]/\RelV x u:=by
 cases r with
 | cons r1 r2=>cases r2;exact ⟨_,rfl,r1⟩
theorem jl4 {x y:V} {us:List Value} (r:Vals [x,y] us):∃u w',us=[u,w']/\RelV x u/\RelV y w':=by
 cases r with
 | cons r1 r2=>
   cases r2 with
   | cons r3 r4=>cases r4;exact ⟨_,_,rfl,r1,r3⟩
theorem jkl (hc:X.calm=true):CallR X (.builtin "max") (fun xs H Q=>∃i j,xs=[.int i,.int j] ∧ Q (.int (if j>i then j else i)) H):=by
 intro tf s σ H xs us Q I r h;obtain ⟨i,j,rfl,q⟩:=h;obtain ⟨u,w',rfl,⟨t,rfl⟩,⟨t',rfl⟩⟩:=jl4 r;refine max_two_ints (I.ok.hd hc) fun h' tk k=>⟨_,H,I.kept k,?_,q⟩;by_cases hj:j>i
 . rw [if_pos hj,if_pos hj];exact ⟨_,rfl⟩
 . rw [if_neg hj,if_neg hj];exact ⟨_,rfl⟩
theorem jjL (hc:X.calm=true):CallR X (.builtin "min") (fun xs H Q=>∃i j,xs=[.int i,.int j] ∧ Q (.int (if j<i then j else i)) H):=by
 intro tf s σ H xs us Q I r h;obtain ⟨i,j,rfl,q⟩:=h;obtain ⟨u,w',rfl,⟨t,rfl⟩,⟨t',rfl⟩⟩:=jl4 r;refine min_two_ints (I.ok.hd hc) fun h' tk k=>⟨_,H,I.kept k,?_,q⟩;by_cases hj:j<i
 . rw [if_pos hj,if_pos hj];exact ⟨_,rfl⟩
 . rw [if_neg hj,if_neg hj];exact ⟨_,rfl⟩
theorem jjS:CallR X (.type "int") (fun xs H Q=>(∃i,xs=[.int i] ∧ Q (.int i) H) ∨ ∃k,xs=[.bl k] ∧ Q (.int (if k then 1 else 0)) H):=by
 intro tf s σ H xs us Q I r h;rcases h with ⟨i,rfl,q⟩ | ⟨k,rfl,q⟩
 . obtain ⟨u,rfl,t,rfl⟩:=jcm r;exact call_int_int ⟨.int i,H,I,⟨_,rfl⟩,q⟩
 . obtain ⟨u,rfl,r1⟩:=jcm r;cases r1;exact call_int_bool ⟨.int (if k then 1 else 0),H,I.tok _,⟨_,rfl⟩,q⟩
end
end L2
namespace L2
open PySem PySem.Spec PyProof.Rows
structure ObjM (h:Heap) (x dx C:Addr) (mA:Str->Option Value):Prop where
 obj:h.get? x=some (PySem.W.instObj C dx)
 ns:h.Ns1 dx mA
 ne:dx≠x
theorem jkF {h:Heap} {dx:Addr} {mA:Str->Option Value} (n:h.Ns1 dx mA):∃od,h.get? dx=some od/\∀name,PySem.W.lookIn name od=some (mA name):=by
 obtain ⟨o,es,ep,ho,hd,hk,_,hm⟩:=n;refine ⟨o,ho,fun name=>?_⟩;have e:=hm name;unfold nsFind findBy at e;rw [<-Array.find?_toList] at e;unfold PySem.W.lookIn;rw [hd];dsimp only;split
 . rename_i y q;rw [q] at e;exact congrArg some e
 . rename_i q;rw [q] at e;have a:es.toList.any (·.refKey)=false:=by rw [List.any_eq_false];intro y hy;obtain ⟨z,t,hkey⟩:=hk y (Array.mem_toList_iff.mp hy);simp [DictEntry.refKey,hkey]
   have a':¬es.toList.any (·.refKey)=true:=by rw [a];exact Yh
   rw [if_neg a'];exact congrArg some e
theorem ObjM.look {h:Heap} {x dx C:Addr} {mA:Str->Option Value} (I:ObjM h x dx C mA):∃od,PySem.W.InstAt h x (PySem.W.instObj C dx) C (some od)/\∀name,PySem.W.lookIn name od=some (mA name):=
 let ⟨od,ho,hl⟩:=jkF I.ns
 ⟨od,⟨I.obj,rfl,rfl,ho⟩,hl⟩
section
variable {prog:Program} {w:World} {A:Around} {E:Value->Shared->Prop} {s:Shared} {K:PySem.W.Frag} {x dx C f:Addr} {mA:Str->Option Value} {name:Str} {v:Value}
end
theorem RelO.some_of {v:V} {o:Option Value} (r:RelO (some v) o):∃u,o=some u/\RelV v u:=by
 cases o with
 | none=>exact (show False from r).elim
 | some u=>exact ⟨u,rfl,r⟩
section
variable {P:Program} {w:World} {H H':Hp} {h h':Heap} {a C dx:Addr} {fs fs':List (Str×V)}
theorem jna (hok:HOk P w H h) (e:H a=some (.ins C dx fs)):∃mA,ObjM h a dx C mA/\(∀f,RelO (fs.lookup f) (mA f))/\PySem.Within mA (fs.map (·.1))/\fs.length<=1000/\H dx=some (.own a):=by obtain ⟨d,z,ne,ob,mA,n,r,q⟩:=(show ObjOk P w H h a (.ins C dx fs) from hok a _ e);exact ⟨mA,⟨ob,n,ne⟩,r,q,z,d⟩
end
structure Cls (K:PySem.W.Frag) (C:Addr):Prop where
 pg:PySem.W.plainGet K C Str.empty=true
 hd:PySem.W.hasDictIn K C=true
 po:PySem.W.plainOver K C=true
 sa:PySem.W.findIn K (.ref C) "__setattr__"=some (some (.builtin "object.__setattr__"))
theorem Cls.get {K:PySem.W.Frag} {C:Addr} (c:Cls K C) (f:Str):PySem.W.plainGet K C f=true:=c.pg
section
variable {X:Cx} {tf:List (Addr×Obj)} {σ:St} {H:Hp} {s:Shared} {a C dx:Addr} {fs:List (Str×V)} {f:Str} {v:V} {A:Around} {E:Value->Shared->Prop}
end
section
variable {X:Cx} {o e value:Expr} {f:Str} {pos pos' tpos:Pos} {ta tv:TE}
end
section
variable {X:Cx} {tf:List (Addr×Obj)} {σ:St} {H:Hp} {s:Shared} {A:Around} {E:Value->Shared->Prop} {Q:Value->Shared->Prop} {c:Value} {b:Bool}
inductive TyOf (K:PySem.W.Frag) (H:Hp):V->Value->Prop where
 | non:TyOf K H .non (.type "NoneType")
 | bl (x:Bool):TyOf K H (.bl x) (.type "bool")
 | int (i:Int):TyOf K H (.int i) (.type "int")
 | str (x:Str):TyOf K H (.str x) (.type "str")
 | flt (x:UInt64):TyOf K H (.flt x) (.type "float")
 | lst {a:Addr} {xs:List V} (e:H a=some (.lst xs)):TyOf K H (.ref a) (.type "list")
 | frz {a:Addr} {o:Obj} {xs:List V} (e:H a=some (.frz o (.lst xs))):TyOf K H (.ref a) (.type "list")
 | tup {a:Addr} {xs:List V} (e:H a=some (.tup xs)):TyOf K H (.ref a) (.type "tuple")
 | dK {a:Addr} {kvs:List (zV×V)} (e:H a=some (.dK kvs)):TyOf K H (.ref a) (.type "dict")
 | dT {a:Addr} {kvs:List (List zV×V)} (e:H a=some (.dT kvs)):TyOf K H (.ref a) (.type "dict")
 | ins {a C dx:Addr} {fs:List (Str×V)} (e:H a=some (.ins C dx fs)) (cl:Cls K C) (ha:PySem.W.findIn K (.ref C) "__class__"=some (some (.builtin "object.__class__")))
  (hn:PySem.W.specialIn K (.builtin "object.__class__") "__get__"=some (some (.builtin "getset_descriptor.__get__"))) (htk:PySem.W.takesIn K (.builtin "object.__class__")=some true)
  (hm:PySem.W.mroIn K C (.type "object")=some true):TyOf K H (.ref a) (.ref C)
theorem jjZ {x:V} {u t:Value} (I:Inv X tf σ H s) (rx:RelV x u) (ty:TyOf X.K H x t) (e:PySem.W.kitOne X.K t c=some b) (h:∀tk,Q (.bool b) { s with toks:=tk }) :
 wpAny ‹"f"› A (call (.builtin "isinstance") [u,c]) Q E s:=by
 cases ty with
 | non=>cases (show u=Value.none from rx);exact yt PySem.W.kitx_none I.kIn True.intro e (fun z=>nomatch z) h
 | bl y=>cases (show u=Value.bool y from rx);exact yt PySem.W.kitx_bool I.kIn True.intro e (fun z=>nomatch z) h
 | int i=>obtain ⟨t,q⟩:=(show ∃t,u=Value.int i t from rx);cases q;exact yt PySem.W.kitx_int I.kIn True.intro e (fun z=>nomatch z) h
 | str y=>obtain ⟨t,q⟩:=(show ∃t,u=Value.str y t from rx);cases q;exact yt PySem.W.kitx_str I.kIn True.intro e (fun z=>nomatch z) h
 | flt y=>obtain ⟨t,q⟩:=(show ∃t,u=Value.float y t from rx);cases q;exact yt PySem.W.kitx_float I.kIn True.intro e (fun z=>nomatch z) h
 | @lst a xs ea=>cases (show u=Value.ref a from rx);obtain ⟨_,_,n,_,h1⟩:=(show ObjOk X.prog X.w H s.heap a (.lst xs) from I.hok a _ ea);exact yt PySem.W.kitx_list I.kIn ⟨_,h1,rfl⟩ e (fun z=>nomatch z) h
 | @frz a ob xs ea=>cases (show u=Value.ref a from rx);obtain ⟨_,_,_,n,_,h1⟩:=(show ObjOk X.prog X.w H s.heap a (.frz ob (.lst xs)) from I.hok a _ ea);exact yt PySem.W.kitx_list I.kIn ⟨_,h1,rfl⟩ e (fun z=>nomatch z) h
 | @tup a xs ea=>cases (show u=Value.ref a from rx);obtain ⟨_,_,_,p⟩:=(show ObjOk X.prog X.w H s.heap a (.tup xs) from I.hok a _ ea);obtain ⟨o,h1,h2,_⟩:=p;exact yt PySem.W.kitx_tuple I.kIn ⟨o,h1,h2⟩ e (fun z=>nomatch z) h
 | @dK a kvs ea=>cases (show u=Value.ref a from rx);obtain ⟨_,_,vs,_,p⟩:=(show ObjOk X.prog X.w H s.heap a (.dK kvs) from I.hok a _ ea);obtain ⟨o,es,ep,h1,h2,_⟩:=p;exact yt PySem.W.kitx_dict I.kIn ⟨o,h1,h2.1⟩ e (fun z=>nomatch z) h
 | @dT a kvs ea=>cases (show u=Value.ref a from rx);obtain ⟨_,_,xs,_,o,es,ep,h1,h2,_⟩:=(show ObjOk X.prog X.w H s.heap a (.dT kvs) from I.hok a _ ea);exact yt PySem.W.kitx_dict I.kIn ⟨o,h1,h2.1⟩ e (fun z=>nomatch z) h
 | @ins a C dx fs ea cl ha hn htk hm=>cases (show u=Value.ref a from rx);obtain ⟨mA,O,_⟩:=jna I.hok ea;obtain ⟨od,J,_⟩:=O.look;exact yt (PySem.W.kitx_own (cl.get _) cl.hd ha hn htk hm) I.kIn J e (fun z=>nomatch z) h
end
end L2
namespace L2
open PySem PySem.Spec PyProof.Rows
structure Room (k:Nat) (A:Around):Prop where
 hd:A.handled=none
 dp:A.depth+3*k+5<recursionLimit
 un:A.units+16*k+200<cLine
theorem Room.mono {j k:Nat} {A:Around} (r:Room k A) (h:j<=k):Room j A:=⟨r.hd,by have:=r.dp;omega,by have:=r.un;omega⟩
theorem Room.deeper {k:Nat} {A:Around} (r:Room (k+1) A) (env:Env):Room k (A.deeper env):=⟨r.hd,by have:=r.dp;show A.depth+1+3*k+5<_;omega,by have:=r.un;show A.units+3+16*k+200<_;omega⟩
theorem Room.depth {k:Nat} {A:Around} (r:Room k A):A.depth<recursionLimit:=by have:=r.dp;omega
theorem Room.units {k:Nat} {A:Around} (r:Room k A):A.units+64<cLine:=by have:=r.un;omega
def jks:TA:=fun _ H Q=>Q [] H
def jdf (ta:TE) (tr:TA):TA:=fun σ H Q=>ta σ H fun x H1=>tr σ H1 fun xs H2=>Q (x::xs) H2
section
variable {X:Cx} {e:Expr} {es:List Expr} {te:TE} {t:TA} {pos:Pos}
theorem jb3:PA X [] jks:=fun _ _ _ _ H Q I h=>K0 ⟨[],H,I,.nil,h⟩
theorem Zq (ha:PE X e te) (hr:PA X es t) (hs:starEach (e::es) X.env=(false,eval e X.env)::starEach es X.env:=by rfl):PA X (e::es) (jdf te t):=by intro pos tf s σ H Q I h;rw [hs];show wpAny _ _ (spliced ((false,eval e X.env)::backTo pos (starEach es X.env))) _ _ s;refine KR (qI ‹"ak"› fun u s1 zz=>?_);obtain ⟨x,H1,I1,r1,q1⟩:=zz;exact qI (hr pos tf s1 σ H1 _ I1 q1) fun us s2 ⟨xs,H2,I2,r2,q2⟩=>⟨x::xs,H2,I2,.cons r1 r2,q2⟩
def jrt (t:TA):TE:=fun σ H Q=>t σ H fun xs H1=>xs.length<=sizeLine/\∀p,H1 p=none->Q (.ref p) (upd H1 p (.tup xs))
def jr7 (t:TA):TE:=fun σ H Q=>t σ H fun xs H1=>xs.length<=sizeLine/\∀p,H1 p=none->Q (.ref p) (upd H1 p (.lst xs))
theorem jpY {x1} (h:PA X es t):PE X (.Tuple es x1 pos) (jrt t):=by intro tf s σ H Q I hq;refine wpAny_Tuple_spliced ‹"aK"›;have hf:H1 s1.heap.objs.size=none:=I1.hok.fresh (Ys _);refine ⟨.ref s1.heap.objs.size,upd H1 s1.heap.objs.size (.tup xs),I1.laid (t':=s1.toks) (fun b u e=>Yj _ e) (Ys _) ?_,rfl,q _ hf⟩;exact ⟨z,us,r,⟨_,YA _ rfl,rfl,_,rfl⟩⟩
theorem jqS (h:PA X es t):PE X (.List es pos) (jr7 t):=by intro tf s σ H Q I hq;refine wpAny_List_spliced ‹"aK"›;have hf:H1 s1.heap.objs.size=none:=I1.hok.fresh (Ys _);refine ⟨.ref s1.heap.objs.size,upd H1 s1.heap.objs.size (.lst xs),I1.laid (t':=s1.toks) (fun b u e=>Yj _ e) (Ys _) ?_,rfl,q _ hf⟩;exact ⟨z,us,0,r,YA _ rfl⟩
end
abbrev Sp:=List V->Hp->VK->XK->Prop
abbrev CXT:=List Env->Hp->Shared->XK->Value->Shared->Prop
structure Env0 (P:Program) (w:World) (K:PySem.W.Frag) (mg:Str->Option Value) (base:Heap) (A:Around) (outer:List Env) (s:Shared) (H:Hp):Prop where
 frames:A.frames=some outer
 mod:Mod K mg base
 bs:∀b o,base.get? b=some o->s.heap.get? b=some o/\H b=none
 bsz:base.objs.size<=s.heap.objs.size
 funs:s.heap.FunFrames base outer
 frf:∀b∈frs outer,H b=none
 hok:HOk P w H s.heap
 bare:AllBare s.gens
def CE (outer:List Env) (P:Program) (w:World) (H:Hp) (s:Shared) (Q:VK) (u:Value) (s':Shared):Prop:=∃v H',s'.os=s.os/\AllBare s'.gens/\Un (frs outer) [] H H' s.heap s'.heap/\HOk P w H' s'.heap/\RelV v u/\Q v H'
def CR (CX:CXT) (outer:List Env) (P:Program) (w:World) (H:Hp) (s:Shared) (Q:VK) (E:XK) (r:Result) (s':Shared):Prop:=
 match r with
 | .ok (.ret u)=>CE outer P w H s Q u s'
 | .ok _=>False
 | .error e=>CX outer H s E e s'
structure FnOk (P:Program) (w:World) (K:PySem.W.Frag) (mg:Str->Option Value) (base:Heap) (CX:CXT) (k:Nat) (f:Addr) (fd:FuncData) (ps:List Str) (sp:Sp):Prop where
 len:∀vs H Q E,sp vs H Q E->vs.length=ps.length
 run:∀(A:Around) (outer:List Env) (s:Shared) (H:Hp) (args:Args) (us:List Value) (vs:List V) (Q:VK) (E:XK),Room k A->Env0 P w K mg base A outer s H->BindsTo s fd args (ps.zip us)->Vals vs us->sp vs H Q E->
  codeAny (model P w) A (.call (.ref f) args) (CR CX outer P w H s Q E) s
theorem FnOk.mono {P:Program} {w:World} {K:PySem.W.Frag} {mg:Str->Option Value} {base:Heap} {CX:CXT} {j k:Nat} {f:Addr} {fd:FuncData} {ps:List Str} {sp:Sp} (F:FnOk P w K mg base CX j f fd ps sp) (h:j<=k) :
 FnOk P w K mg base CX k f fd ps sp:=⟨F.len,fun A outer s H args us vs Q E hr=>F.run A outer s H args us vs Q E (hr.mono h)⟩
theorem FnOk.imp {P:Program} {w:World} {K:PySem.W.Frag} {mg:Str->Option Value} {base:Heap} {CX:CXT} {k:Nat} {f:Addr} {fd:FuncData} {ps:List Str} {sp sp':Sp} (F:FnOk P w K mg base CX k f fd ps sp)
 (h:∀vs H Q E,sp' vs H Q E->sp vs H Q E):FnOk P w K mg base CX k f fd ps sp':=
 ⟨fun vs H Q E q=>F.len vs H Q E (h _ _ _ _ q),fun A outer s H args us vs Q E hr he hb hv hs=>F.run A outer s H args us vs Q E hr he hb hv (h _ _ _ _ hs)⟩
section
variable {X:Cx} {tf:List (Addr×Obj)} {σ:St} {H:Hp} {s s':Shared}
theorem Inv.env0 (I:Inv X tf σ H s):Env0 X.prog X.w X.K X.mg X.base X.A X.stack s H:=⟨I.ok.frames,I.ok.mod,I.bs,Y5 I.ok.bsz I.sz,I.stack,I.stkFree,I.hok,I.bare⟩
theorem Inv.after {Q:VK} {u:Value} (I:Inv X tf σ H s) (h:CE X.stack X.prog X.w H s Q u s'):EP X tf σ Q u s':=by obtain ⟨v,H',os,bare,un,hok,r,q⟩:=h;obtain ⟨hh,g,d,t,os'⟩:=s';obtain rfl:os'=s.os:=os;exact ⟨v,H',I.call (h':=hh) (g':=g) (d':=d) (t':=t) (ch:=[]) un hok bare (fun b z=>absurd z (by simp)),r,q⟩
end
def jlL (sp:Sp) (dvs:List V) (E:XK) (t:TA):TE:=fun σ H Q=>t σ H fun vs H1=>sp (vs++dvs) H1 Q E
def Binds (K:PySem.W.Frag) (fd:FuncData) (ps:List Str) (ds:List Value):Prop:=∀(s:Shared) (us:List Value),K.In s.heap->(us++ds).length=ps.length->BindsTo s fd ⟨us,[]⟩ (ps.zip (us++ds))
theorem Binds.all {K:PySem.W.Frag} {fd:FuncData} {ps:List Str} (h:∀us:List Value,us.length=ps.length->bindArgs fd ⟨us,[]⟩=pure (ps.zip us)):Binds K fd ps []:=fun s us _ hl=>by rw [yH] at hl ⊢;exact .of_eq (h us hl)
def jhJ (CX:CXT) (X:Cx) (E:XK):Prop:=∀(tf:List (Addr×Obj)) (σ:St) (H:Hp) (s:Shared) (e:Value) (s':Shared),Inv X tf σ H s->CX X.stack H s E e s'->X.xe e s'
section
variable {X:Cx} {CX:CXT} {k:Nat} {f C:Addr} {fd:FuncData} {ps:List Str} {sp:Sp} {dvs:List V} {ds:List Value} {E:XK} {x m:Str} {p pos apos:Pos} {e o:Expr} {es:List Expr} {ta:TE} {t:TA}
theorem jp2 {tf:List (Addr×Obj)} {σ:St} {H:Hp} {s:Shared} {Q:VK} {us:List Value} {vs:List V} (F:FnOk X.prog X.w X.K X.mg X.base CX k f fd ps sp) (hr:Room k X.A) (hb:Binds X.K fd ps ds) (hd:Vals dvs ds) (hx:jhJ CX X E)
 (I:Inv X tf σ H s) (r:Vals vs us) (h:sp (vs++dvs) H Q E):wpAny ‹"f"› X.A (call (.ref f) us) (EP X tf σ Q) X.xe s:=by
 have r2:Vals (vs++dvs) (us++ds):=r.append hd;have hl:(us++ds).length=ps.length:=by rw [<-r2.length];exact F.len _ _ _ _ h
 refine wpAny_call (kj (F.run X.A X.stack s H ⟨us,[]⟩ (us++ds) (vs++dvs) Q E hr I.env0 (hb s us I.kIn hl) r2 h) fun r s' hq=>?_);cases r with
 | error e=>exact hx tf σ H s e s' I hq
 | ok fl=>
   cases fl with
   | ret u=>exact I.after hq
   | next=>exact False.elim hq
   | brk=>exact False.elim hq
   | cont=>exact False.elim hq
theorem jiP (F:FnOk X.prog X.w X.K X.mg X.base CX k f fd ps sp) (hr:Room k X.A) (hg:Gl X x) (hm:X.mg x=some (.ref f)) (hk:PySem.W.keepIn X.K (.ref f)=true) (hb:Binds X.K fd ps ds) (hd:Vals dvs ds) (hx:jhJ CX X E)
 (ha:PA X (e::es) t) (hdb:‹"u"›=false:=by decide) (he:starEach (e::es) X.env=(false,eval e X.env)::starEach es X.env:=by rfl) (hpl:(backTo pos (starEach es X.env)).any (·.1)=false:=by rfl) :
 PE X ‹"Q"› (jlL sp dvs E t):=by
 intro tf s σ H Q I h;refine wpAny_Call_Name_kw (jjl I hg hm ?_ hdb);refine PySem.W.callWith_K (h₀:=X.base) I.ok.mod.kin hk (qI (ha pos tf s σ H _ I h) fun us s1 ⟨vs,H1,I1,r,q⟩=>⟨I1.kIn,?_⟩) he hpl;exact jp2 F hr hb hd hx I1 r q
end
section
variable {X:Cx} {CX:CXT} {k:Nat} {f C:Addr} {fd:FuncData} {ps ks:List Str} {sp:Sp} {E:XK} {x m:Str} {p pos apos kpos:Pos} {e o:Expr} {es:List Expr} {kws:List Keyword} {te ta:TE} {t tk:TA} {nm:Option Str}
variable {g:List Value->List Value->List Value} {gV:List V->List V->List V}
end
structure FnScope (N P:List Str) (sc:Scope):Prop where
 kind:sc.kind=.function
 co:sc.isCoroutine=false
 gen:sc.isGenerator=false
 nd:N.Nodup
 pre:N.take P.length=P
 par:∀x∈P,sc.names.lookup x=some .local\/sc.names.lookup x=some .cell
 nofree:∀y∈sc.names,y.2≠.free
theorem je2 {kindOf:Str->Option NameKind} {x:Str}:∀{binds:List (Str×Value)} {m:Str->Option Value},(∀v,(x,v)∉binds)->bindL kindOf binds m x=m x
 | [],_,_=>rfl
 | (n,v)::r,m,h=>by
   unfold bindL;rw [je2 fun w hw=>h w (Ym _ hw)];split
   . have:x≠n:=by rintro rfl;exact h v Yf
     simp [this]
   . rfl
theorem jeT {kindOf:Str->Option NameKind} {x:Str}:∀{binds:List (Str×Value)} {m:Str->Option Value},(∀v,(x,v)∉binds)->bindC kindOf binds m x=m x
 | [],_,_=>rfl
 | (n,v)::r,m,h=>by
   unfold bindC;rw [jeT fun w hw=>h w (Ym _ hw)];split
   . rfl
   . have:x≠n:=by rintro rfl;exact h v Yf
     simp [this]
theorem je4 {kindOf:Str->Option NameKind} {x:Str} {v:Value}:∀{P:List Str} {vs:List Value} {i:Nat} {m:Str->Option Value},P.Nodup->P[i]?=some x->vs[i]?=some v->kindOf x=some .local->
 bindL kindOf (P.zip vs) m x=some v
 | [],_,_,_,_,h,_,_=>by simp at h
 | _::_,[],_,_,_,_,h,_=>by simp at h
 | p::P,w::vs,0,m,nd,h1,h2,hk=>by simp at h1 h2;subst h1;subst h2;show bindL kindOf ((p,w)::P.zip vs) m p=_;unfold bindL;rw [je2 fun v hv=>(yu.mp nd).1 (yG hv).1,if_pos hk];simp
 | p::P,w::vs,i+1,m,nd,h1,h2,hk=>by show bindL kindOf ((p,w)::P.zip vs) m x=_;unfold bindL;exact je4 (i:=i) (yu.mp nd).2 (by simpa using h1) (by simpa using h2) hk
theorem je8 {kindOf:Str->Option NameKind} {x:Str} {v:Value}:∀{P:List Str} {vs:List Value} {i:Nat} {m:Str->Option Value},P.Nodup->P[i]?=some x->vs[i]?=some v->kindOf x≠some .local->
 bindC kindOf (P.zip vs) m x=some v
 | [],_,_,_,_,h,_,_=>by simp at h
 | _::_,[],_,_,_,_,h,_=>by simp at h
 | p::P,w::vs,0,m,nd,h1,h2,hk=>by simp at h1 h2;subst h1;subst h2;show bindC kindOf ((p,w)::P.zip vs) m p=_;unfold bindC;rw [jeT fun v hv=>(yu.mp nd).1 (yG hv).1,if_neg hk];simp
 | p::P,w::vs,i+1,m,nd,h1,h2,hk=>by show bindC kindOf ((p,w)::P.zip vs) m x=_;unfold bindC;exact je8 (i:=i) (yu.mp nd).2 (by simpa using h1) (by simpa using h2) hk
def jaI (N:List Str) (vs:List V):St:=vs.map some++List.replicate (N.length-vs.length) none
def jh7 (CX:CXT) (P:Program) (w:World) (K:PySem.W.Frag) (mg:Str->Option Value) (base:Heap) (N:List Str) (qual:Str) (scope:Scope) (f:Addr) (cd:Value) (A:Around) (outer:List Env) (s:Shared) (H:Hp) (E:XK):Cx where
 prog:=P
 w:=w
 K:=K
 mg:=mg
 base:=base
 A:=A.deeper ‹"8"›
 N:=N
 s₀:=s
 H₀:=H
 env:=envOfC qual scope s.heap.objs.size f cd
 outer:=outer
 stack:=envOfC qual scope s.heap.objs.size f cd::outer
 ex:=[]
 calm:=true
 fn:=fun _=>true
 pn:=[]
 xe:=fun e s'=>wpAny (model P w) (A.deeper ‹"8"›) (leaving ‹"8"› e) (fun _ s''=>CX outer H s E e s'') (fun e' s''=>CX outer H s E e' s'') s'
theorem jgl {sc:Scope} {n:Nat} {x:Str} (h:sc.names.lookup x=some .cell):∃c,(cellsFrom n sc.names []).lookup x=some c:=by have q:=PySem.W.cellsFrom_some sc.names n [] (.inl h);exact Option.isSome_iff_exists.mp q
theorem jjV {CX:CXT} {P:Program} {w:World} {K:PySem.W.Frag} {mg:Str->Option Value} {base:Heap} {N ps:List Str} {qual:Str} {scope:Scope} {f:Addr} {cd:Value} {A:Around} {outer:List Env} {s s1:Shared} {H:Hp} {E:XK} {us:List Value} {vs:List V}
 (S:FnScope N ps scope) (hd:A.handled=none) (e0:Env0 P w K mg base A outer s H) (hl:vs.length=ps.length) (r:Vals vs us)
 (x:InCallC s s.heap.objs.size (bindL ‹"8"›.kindOf (ps.zip us) fun _=>none) (cellsFrom (s.heap.objs.size+1) scope.names []) (bindC ‹"8"›.kindOf (ps.zip us) fun _=>none) s1) :
 Inv (jh7 CX P w K mg base N qual scope f cd A outer s H E) [] (jaI N vs) H s1:=by
 have hpl:ps.length<=N.length:=by have:=congrArg List.length S.pre;rw [K5] at this;omega
 obtain ⟨h1,tk,rfl,hk⟩:=x.done;have noA:∀b:Addr,b∉(jh7 CX P w K mg base N qual scope f cd A outer s H E).ex:=fun b z=>absurd (show b∈([]:List Addr) from z) (by simp);refine ⟨⟨e0.mod,S.kind,rfl,rfl,Ys _,fun y z c h1 h2=>?_,fun y hy=>?_,fun y c _ h=>?_,fun _=>hd,Around.frames_deeper e0.frames,.inr ⟨rfl,rfl⟩,fun b z=>absurd z (noA b),e0.bs,e0.bsz,fun b _ _=>noA b,fun b z=>absurd z (noA b),e0.funs,e0.frf⟩,
  rfl,e0.bare,Un.kept hk,⟨_,x.toInCall.ns,fun i y v h1 h2 h3=>?_⟩,fun y c h=>⟨_,x.cell y c h⟩,e0.hok.fresh (Ys _),fun y c h=>?_,fun p hp=>absurd (show p∈([]:List (Addr×Obj)) from hp) (by simp),e0.hok.kept hk,?_⟩
 . exact name_of_addr x.apart (Kg h1) (Kg h2)
 . have hy:scope.names.lookup y=some .cell\/scope.names.lookup y=some .free:=hy;rcases hy with hy | hy
   . exact jgl hy
   . exact absurd rfl (S.nofree _ (Kg hy))
 . exact yM (x.above y c (Kg h))
 . have hi:i<vs.length:=by
    unfold jaI at h2;by_cases hi:i<vs.length
    . exact hi
    . rw [Yz ‹"aq"›] at h2;rw [List.getElem?_replicate] at h2;split at h2 <;> cases h2
   have ha:vs[i]?=some v:=by
    unfold jaI at h2;rw [YC ‹"aq"›,List.getElem?_map] at h2;cases e:vs[i]? with
    | none=>rw [e] at h2;cases h2
    | some a=>rw [e] at h2;cases h2;rfl
   obtain ⟨u,hu,rv⟩:=r.get ha;have hp:ps[i]?=some y:=by rw [<-S.pre,List.getElem?_take_of_lt (by omega)];exact h1
   have ndP:ps.Nodup:=by rw [<-S.pre];exact S.nd.sublist (List.take_sublist _ _)
   refine ⟨u,rv,?_⟩;rcases S.par y (YF hp) with k | k
   . exact .inl ⟨k,je4 ndP hp hu k⟩
   . obtain ⟨c,e⟩:=jgl (n:=s.heap.objs.size+1) k;refine .inr ⟨.inl k,c,e,?_⟩;have q:=x.cell y c e;rw [je8 ndP hp hu (by show scope.names.lookup y≠_;rw [k];decide)] at q;exact q
 . exact e0.hok.fresh (yM (x.above y c (Kg h)))
 . unfold jaI;show _=N.length;rw [YQ,Yd,List.length_replicate];omega
theorem jrx {CX:CXT} {P:Program} {w:World} {K:PySem.W.Frag} {mg:Str->Option Value} {base:Heap} {k:Nat} {f:Addr} {name qual:Str} {params:Arguments} {body:List Stmt} {scope:Scope} {dV kV doc pm cdv ct oc:Value} {an od:Option Addr}
 {osl:Array (Option Value)} {N ps:List Str} {sp:Sp} (lk:K.lookup f=some ⟨oc,od,.func (PySem.W.fnOf name qual params body scope dV kV doc pm an cdv ct),osl⟩) (hcd:PySem.W.codeIn K cdv qual=true) (S:FnScope N ps scope)
 (len:∀vs H Q E,sp vs H Q E->vs.length=ps.length)
 (hbody:∀(A:Around) (outer:List Env) (s:Shared) (H:Hp) (vs:List V) (Q:VK) (E:XK),Room k (A.deeper (envOfC qual scope s.heap.objs.size f cdv))->sp vs H Q E->
  ∃t,PSs (jh7 CX P w K mg base N qual scope f cdv A outer s H E) body t/\t { nx:=fun _ H'=>Q .non H',rt:=Q } (jaI N vs) H) :
 FnOk P w K mg base CX (k+1) f (PySem.W.fnOf name qual params body scope dV kV doc pm an cdv ct) ps sp:=by
 refine ⟨len,fun A outer s H args us vs Q E hr e0 hb r hsp=>?_⟩;have hl:=len _ _ _ _ hsp;have KX:K.In s.heap:=e0.mod.kin.keeps fun b o e=>(e0.bs b o e).1;have lim:s.heap.NoLimit:=e0.mod.nolimit.keeps fun b o e=>(e0.bs b o e).1;have hkind:∀y∈ps.zip us,scope.names.lookup y.1=some .local\/(scope.names.lookup y.1=some .cell/\((cellsFrom (s.heap.objs.size+1) scope.names []).lookup y.1).isSome=true):=fun ⟨n,v⟩ hy=>by
  rcases S.par n (yG hy).1 with q | q
  . exact .inl q
  . exact .inr ⟨q,PySem.W.cellsFrom_some _ _ _ (.inl q)⟩
 refine codeAny_call_function hr.depth (KX _ _ lk) rfl S.co S.gen rfl (PySem.W.codeRec_of KX hcd) (hb _ _ _ _ ?_);refine wpAny_newFunctionEnv_cells S.kind hkind fun env he s1 x=>?_;subst he;refine ⟨lim.keeps x.toInCall.keep,codeAny_func ?_⟩;obtain ⟨t,ht,hq⟩:=hbody A outer s H vs Q E (hr.deeper _) hsp;have I:Inv (jh7 CX P w K mg base N qual scope f cdv A outer s H E) [] (jaI N vs) H s1:=jjV S hr.hd e0 hl r x;refine yq (ht [] s1 (jaI N vs) H _ I hq) (fun fl s' hs=>?_) fun e s' hs=>hs;have fin:∀{σ':St} {H':Hp} {v:V} {u:Value},Inv (jh7 CX P w K mg base N qual scope f cdv A outer s H E) [] σ' H' s'->RelV v u->Q v H'->CE outer P w H s Q u s':=fun {σ' H' v u} J rv q=>⟨v,H',J.os,J.bare,J.base,J.hok,rv,q⟩
 cases fl with
 | ret u=>obtain ⟨v,σ',H',J,rv,q⟩:=hs;exact fin J rv q
 | next=>obtain ⟨σ',H',J,q⟩:=hs;exact fin (v:=V.non) (u:=Value.none) J rfl q
 | brk=>obtain ⟨_,_,_,q⟩:=hs;exact False.elim q
 | cont=>obtain ⟨_,_,_,q⟩:=hs;exact False.elim q
end L2
namespace L2
open PySem PySem.Spec PyProof.Rows
section
variable {X:Cx} {x:Str} {p pos:Pos} {e:Expr} {es:List Expr} {t:TA} {id T:String} {r:List V->Hp->VK->Prop}
def tCB (r:List V->Hp->VK->Prop) (t:TA):TE:=fun σ H Q=>t σ H fun vs H1=>r vs H1 Q
theorem jbF (hc:CallR X (.builtin id) r) (hg:Gl X x) (hm:X.mg x=none) (hv:bootBuiltins x=some (.builtin id)) (ha:PA X (e::es) t) (hn:x ≠ "__name__":=by decide) (hdb:‹"u"›=false:=by decide)
 (he:starEach (e::es) X.env=(false,eval e X.env)::starEach es X.env:=by rfl) (hpl:(backTo pos (starEach es X.env)).any (·.1)=false:=by rfl):PE X ‹"Q"› (tCB r t):=by
 intro tf s σ H Q I h;refine wpAny_Call_Name_kw (QQ I hg hm hv ?_ hn hdb);exact PyProof.Rows.callWith_builtin1 ‹"aS"› he hpl
theorem jbX (hc:CallR X (.type T) r) (hg:Gl X x) (hm:X.mg x=none) (hv:bootBuiltins x=some (.type T)) (ha:PA X (e::es) t) (hn:x ≠ "__name__":=by decide) (hdb:‹"u"›=false:=by decide)
 (he:starEach (e::es) X.env=(false,eval e X.env)::starEach es X.env:=by rfl) (hpl:(backTo pos (starEach es X.env)).any (·.1)=false:=by rfl):PE X ‹"Q"› (tCB r t):=by
 intro tf s σ H Q I h;refine wpAny_Call_Name_kw (QQ I hg hm hv ?_ hn hdb);exact Y2 ‹"aS"› he hpl
end
end L2
namespace HT
open PySem PyProof.Rows
section
open PySem.SeqAt
open PySem.AutoSeq1 (wpAny_loadPart')
open PySem.MeetsSeq PySem.MeetsSeq2 PySem.MeetsSeq3
end
section
variable {prog:Program} {w:World} {A:Around} {E:Value->Shared->Prop} {s:Shared}
def sIx (n d:Nat):Option Int->Nat
 | none=>d
 | some v=>if v<0 then (v+(n:Int)).toNat else min v.toNat n
theorem sIx_none (n d:Nat):sIx n d none=d:=rfl
theorem sIx_nat (n d k:Nat):sIx n d (some (k:Int))=min k n:=by show (if (k:Int)<0 then ((k:Int)+(n:Int)).toNat else min (k:Int).toNat n)=min k n;rw [if_neg (by omega),Yq]
end
end HT
namespace L2
open PySem PySem.Spec PyProof.Rows
abbrev TO:=St->Hp->(Option Int->Hp->Prop)->Prop
def PO (X:Cx) (e:Option Expr) (t:TO):Prop:=
 ∀(tf:List (Addr×Obj)) (s:Shared) (σ:St) (H:Hp) (Q:Option Int->Hp->Prop),Inv X tf σ H s->t σ H Q->
   wpAny ‹"f"› X.A (evalPart e X.env) (fun u s'=>∃o H',Inv X tf σ H' s'/\IsPart u o/\Q o H') X.xe s
def jjk:TO:=fun _ H Q=>Q none H
def joI (t:TE):TO:=fun σ H Q=>t σ H fun x H1=>∃i,x=.int i/\Q (some i) H1
theorem Zk {ns:List Int}:∀{us:List Value},Vals (ns.map V.int) us->IntsAre us ns:=by
 induction ns with
 | nil=>intro us r;rw [yD] at r;cases r;exact .nil
 | cons n ns ih=>
   intro us r;rw [List.map_cons] at r;cases r with
   | cons r1 r2=>obtain ⟨t,e⟩:=r1;subst e;exact .cons n t (ih r2)
section
variable {X:Cx} {e:Expr} {te:TE} {lo hi:Option Expr} {tl th:TO} {pos p2:Pos}
theorem jnz:PO X none jjk:=by intro tf s σ H Q I h;rw [evalPart_none];exact Yk ⟨none,H,I,.none,h⟩
theorem jnL (h:PE X e te):PO X (some e) (joI te):=by intro tf s σ H Q I hw;rw [evalPart_some];refine qI (h tf s σ H _ I hw) fun u s1 zz=>?_;obtain ⟨x,H1,I1,r1,q1⟩:=zz;obtain ⟨i,rfl,q⟩:=q1;obtain ⟨t,rfl⟩:=r1;exact ⟨some i,H1,I1,.int i t,q⟩
def SlR (X:Cx) (r:V->Option Int->Option Int->Hp->VK->Prop):Prop:=
 ∀(tf:List (Addr×Obj)) (s:Shared) (σ:St) (H:Hp) (x:V) (v vl vu:Value) (lo hi:Option Int) (sl:Addr) (Q:VK),Inv X tf σ H s->RelV x v->s.heap.IsSliceOf sl vl vu .none->IsPart vl lo->IsPart vu hi->r x lo hi H Q->
   ∃T id,typeLookup (.type T) "__getitem__"=pure (some (.builtin id)) ∧ s.TypeIs v T ∧ wpAny ‹"f"› X.A (getItem v (.ref sl)) (EP X tf σ Q) X.xe s
def tSl (r:V->Option Int->Option Int->Hp->VK->Prop) (te:TE) (tl th:TO):TE:=fun σ H Q=>te σ H fun x H1=>tl σ H1 fun l H2=>th σ H2 fun u H3=>r x l u H3 Q
theorem jmj {r:V->Option Int->Option Int->Hp->VK->Prop} (hr:SlR X r) (he:PE X e te) (hl:PO X lo tl) (hu:PO X hi th):PE X (.Subscript e (.Slice lo hi none p2) pos) (tSl r te tl th):=by intro tf s σ H Q I h;refine Subscript_ (qI (he tf s σ H _ I h) fun v s1 zz=>?_);obtain ⟨x,H1,I1,r1,q1⟩:=zz;refine wpAny_Slice (qI (hl tf s1 σ H1 _ I1 q1) fun vl s2 ⟨l,H2,I2,pl,q2⟩=>qI (hu tf s2 σ H2 _ I2 q2) fun vu s3 zz=>?_);obtain ⟨u,H3,I3,pu,q3⟩:=zz;rw [evalPart_none];refine Yk ?_;have I4:Inv X tf σ H3 { s3 with heap:=s3.heap.push { cls:=.type "slice",data:=.fields #[vl,vu,.none] } }:=I3.kept (t':=s3.toks) fun b ob q=>Yj _ q;obtain ⟨T,id,hT,ht,hg⟩:=hr tf { s3 with heap:=s3.heap.push { cls:=.type "slice",data:=.fields #[vl,vu,.none] } } σ H3 x v vl vu l u s3.heap.objs.size Q I4 r1 (Heap.IsSliceOf.new ..) pl pu q3;show wpAny ‹"f"› X.A (subscriptTail e (.Slice lo hi none p2) v (.ref s3.heap.objs.size)) (EP X tf σ Q) X.xe { s3 with heap:=s3.heap.push { cls:=.type "slice",data:=.fields #[vl,vu,.none] } };exact tail_any (ops:=[.ref s3.heap.objs.size,v]) ht hT hg (by with_unfolding_all rfl)
def jkm (xs:List V) (lo hi:Option Int):List V:=(xs.drop (HT.sIx xs.length 0 lo)).take ‹"aN"›
theorem jgd (xs:List V) (lo hi:Option Int):(jkm xs lo hi).length<=xs.length:=by unfold jkm;rw [K5,List.length_drop];omega
end
end L2
namespace L2
open PySem PySem.Spec PyProof.Rows
def ixN (n:Nat) (i:Int):Option Nat:=if 0<=i then (if i<n then some i.toNat else none) else if -(n:Int)<=i then some (i+n).toNat else none
def atI {α:Type} (xs:List α) (i:Int):Option α:=(ixN xs.length i).bind fun j=>xs[j]?
theorem jiJ {n:Nat} {i:Int} {j:Nat} (h:ixN n i=some j):seqIndex? i n=some j/\j<n /\ -(n:Int)<=i/\i<n:=by
 unfold ixN at h;by_cases h0:0<=i
 . rw [if_pos h0] at h;by_cases h1:i<n
   . rw [if_pos h1] at h;have e:i.toNat=j:=Option.some.inj h;exact ⟨by rw [seqIndex_of h0 h1,e],by omega,by omega,h1⟩
   . rw [if_neg h1] at h;cases h
 . rw [if_neg h0] at h;by_cases h1:-(n:Int)<=i
   . rw [if_pos h1] at h;have e:(i+n).toNat=j:=Option.some.inj h;exact ⟨by rw [seqIndex_neg (by omega) h1,e],by omega,h1,by omega⟩
   . rw [if_neg h1] at h;cases h
theorem jfI {α:Type} {xs:List α} {i:Int} {v:α} (h:atI xs i=some v):∃j,seqIndex? i xs.length=some j/\xs[j]?=some v/\j<xs.length /\ -(xs.length:Int)<=i/\i<xs.length:=by
 unfold atI at h;cases e:ixN xs.length i with
 | none=>rw [e] at h;cases h
 | some j=>rw [e] at h;obtain ⟨h1,h2,h3,h4⟩:=jiJ e;exact ⟨j,h1,h,h2,h3,h4⟩
def jfi (b:Expr):Prop:=∀o i,subscripted b false o i=operate [o,i] (getItem o i)
def IxR (X:Cx) (r:R2):Prop:=
 ∀(value slice:Expr) (tf:List (Addr×Obj)) (s:Shared) (σ:St) (H:Hp) (x y:V) (v u:Value) (Q:VK),Inv X tf σ H s->RelV x v->RelV y u->r x y H Q->
   subscripted slice false v u=operate [v,u] (getItem v u)->wpAny ‹"f"› X.A (subscriptTail value slice v u) (EP X tf σ Q) X.xe s
def MtR (X:Cx) (id:String) (r:V->List V->Hp->VK->Prop):Prop:=
 ∀(tf:List (Addr×Obj)) (s:Shared) (σ:St) (H:Hp) (x:V) (xs:List V) (v:Value) (us:List Value) (Q:VK),Inv X tf σ H s->RelV x v->Vals xs us->r x xs H Q->
   wpAny ‹"f"› X.A (call (.builtin id) (v::us)) (EP X tf σ Q) X.xe s
section
variable {X:Cx} {a b:Expr} {ta tb:TE} {pos:Pos}
theorem IxR.or {r r':R2} (h:IxR X r) (h':IxR X r'):IxR X (fun x y H Q=>r x y H Q\/r' x y H Q):=by
 intro value slice tf s σ H x y v u Q I rx ry q hs;rcases q with q | q
 . exact h value slice tf s σ H x y v u Q I rx ry q hs
 . exact h' value slice tf s σ H x y v u Q I rx ry q hs
theorem joB {r:R2} (hr:IxR X r) (ha:PE X a ta) (hb:PE X b tb) (hs:jfi b):PE X (.Subscript a b pos) (tOp r ta tb):=by intro tf s σ H Q I h;exact Subscript_ (jqX ha hb I h fun v u s2 x y H2 I2 rx ry q=>hr a b tf s2 σ H2 x y v u Q I2 rx ry q (hs _ _))
def jq9 (K:PySem.W.Frag):R2:=fun x y H Q=>∃p xs i v,x=.ref p/\y=.int i/\J6 K H p xs/\atI xs i=some v/\Q v H
def jsr (K:PySem.W.Frag):R2:=fun x y H Q=>∃p xs i v,x=.ref p/\y=.int i/\SqT K H p xs/\atI xs i=some v/\Q v H
def jsx:R2:=fun x y H Q=>∃z i c,x=.str z/\y=.int i/\z.length<=sizeLine/\atI z.cps.toList i=some c/\Q (.str ⟨#[c]⟩) H
theorem ix_list:IxR X (jq9 X.K):=by
 intro value slice tf s σ H x y v u Q I rx ry h hs;obtain ⟨p,xs,i,z,rfl,rfl,hq,he,q⟩:=h;cases rx;obtain ⟨t,rfl⟩:=ry;obtain ⟨its,r,pl,hz⟩:=I.list hq;obtain ⟨j,h1,h2,h3,h4,h5⟩:=jfI he;obtain ⟨w,ew,rw'⟩:=r.get h2;have hl:=r.length;have hn:=jaZ;have fin:EP X tf σ Q w s:=⟨z,H,I,rw',q⟩;by_cases h0:0<=i
 . have hj:i.toNat=j:=by rw [seqIndex_of h0 h5] at h1;exact Option.some.inj h1
   exact item_listR pl.isList h0 (by omega) (by rw [hj];simpa using ew) fin hs
 . have hj:(i+(its.toArray.size:Int)).toNat=j:=by rw [seqIndex_neg (by omega) h4] at h1;rw [YI,<- hl];exact Option.some.inj h1
   exact subscriptTail_builtinR (x:=w) pl.isList.typeIs slot_list_getitem.lookup
    (wpAny_getItem_list_neg (Q:=fun r s'=>r=w/\EP X tf σ Q r s') pl.isList (by omega) (by rw [YI] <;> omega) (by omega) (by rw [hj];simpa using ew) ⟨rfl,fin⟩) hs
theorem ix_tup:IxR X (jsr X.K):=by
 intro value slice tf s σ H x y v u Q I rx ry h hs;obtain ⟨p,xs,i,z,rfl,rfl,hq,he,q⟩:=h;cases rx;obtain ⟨t,rfl⟩:=ry;obtain ⟨its,r,pl,hz⟩:=I.tuple hq;obtain ⟨j,h1,h2,h3,h4,h5⟩:=jfI he;obtain ⟨w,ew,rw'⟩:=r.get h2;have hl:=r.length;have hn:=jaZ;have fin:EP X tf σ Q w s:=⟨z,H,I,rw',q⟩;exact subscriptTail_builtinR (x:=w) pl.typeIs slot_tuple_getitem.lookup
  (getItem_tuple (j:=j) (Q:=fun r s'=>r=w/\EP X tf σ Q r s') pl (by omega) (by omega) (by rw [YI,<- hl];exact h1) (by simpa using ew) ⟨rfl,fin⟩) hs
theorem jpD:IxR X jsx:=by
 intro value slice tf s σ H x y v u Q I rx ry h hs;obtain ⟨z,i,c,rfl,rfl,hz,he,q⟩:=h;obtain ⟨t,rfl⟩:=rx;obtain ⟨t',rfl⟩:=ry;obtain ⟨j,h1,h2,h3,h4,h5⟩:=jfI he;have hl:z.cps.toList.length=z.length:=by simp [Str.length]
 rw [hl] at h1 h4 h5;have hn:=jaZ;exact tail_any (typeIs_str s z t) slot_str_getitem.lookup (getItem_str (c:=c) (by have e1:decide (i < -(2 ^ 63:Int))=false:=Y1 (by omega);have e2:decide (i>=2 ^ 63)=false:=Y1 (by omega);rw [e1,e2,Bool.or_false]) (by rw [h1];simpa using h2) ⟨.str ⟨#[c]⟩,H,I.tok _,⟨_,rfl⟩,q⟩) hs
def rIx (K:PySem.W.Frag):R2:=fun x y H Q=>jq9 K x y H Q\/jsr K x y H Q\/jsx x y H Q
theorem jkY:IxR X (rIx X.K):=ix_list.or (ix_tup.or jpD)
theorem jin (its:List Value) (n j:Nat) (u:Value):Obj.mapSeq (·.setIfInBounds j u) { cls:=.type "list",data:=.seq its.toArray n }={ cls:=.type "list",data:=.seq (its.set j u).toArray n }:=by simp [Obj.mapSeq]
theorem Inv.lst {tf:List (Addr×Obj)} {σ:St} {H:Hp} {s:Shared} {p:Addr} {xs:List V} (I:Inv X tf σ H s) (h:H p=some (.lst xs)) :
 ∃(its:List Value) (n:Nat),Vals xs its ∧ s.heap.get? p=some { cls:=.type "list",data:=.seq its.toArray n } ∧ xs.length ≤ sizeLine:=by
 obtain ⟨z,its,n,r,e⟩:=I.hok p _ h;exact ⟨its,n,r,e,z⟩
theorem Inv.lstUpd {tf:List (Addr×Obj)} {σ:St} {H:Hp} {s:Shared} {p:Addr} {xs ys:List V} {its its':List Value} {n n':Nat} {f:Obj->Obj} (I:Inv X tf σ H s) (h:H p=some (.lst xs))
 (ho:s.heap.get? p=some { cls:=.type "list",data:=.seq its.toArray n }) (hf:f { cls:=.type "list",data:=.seq its.toArray n }={ cls:=.type "list",data:=.seq its'.toArray n' }) (r:Vals ys its') (hz:ys.length ≤ sizeLine) (t:Nat) :
 Inv X tf σ (upd H p (.lst ys)) { s with heap:=s.heap.update p f,toks:=t }:=by
 have e:(s.heap.update p f).get? p=some { cls:=.type "list",data:=.seq its'.toArray n' }:=by rw [YZ f ho (by rw [hf] <;> rfl),hf]
 refine I.write (x:=p) (e:=p) (by rw [h];trivial) (.inl rfl) (fun b u hb q=>(Heap.get?_update_other _ _ (Ne.symm hb)).trans q) ⟨_,e⟩ ?_;exact ⟨hz,its',n',r,e⟩
def jmz:V->V->V->Hp->(Hp->Prop)->Prop:=fun o i v H Q=>∃p xs k j,o=.ref p/\i=.int k/\H p=some (.lst xs)/\ixN xs.length k=some j/\Q (upd H p (.lst (xs.set j v)))
theorem jht:jqa X jmz:=by
 intro tf s σ H o i v ov iv u Q I ro ri rv h;obtain ⟨p,xs,k,j,rfl,rfl,hp,hj,q⟩:=h;cases ro;obtain ⟨t,rfl⟩:=ri;obtain ⟨its,n,r,ho,hz⟩:=I.lst hp;obtain ⟨h1,h2,h3,h4⟩:=jiJ hj;have hl:=r.length;have hn:=jaZ;have I':Inv X tf σ (upd H p (.lst (xs.set j v))) { s with heap:=s.heap.update p (Obj.mapSeq (·.setIfInBounds j u)) }:=I.lstUpd hp ho (jin its n j u) (r.set rv j) (by rw [List.length_set];exact hz) s.toks
 by_cases h0:0<=k
 . have hk:k.toNat=j:=by rw [seqIndex_of h0 h4] at h1;exact Option.some.inj h1
   exact PySem.W.ki_setAt ho h0 (by omega) (by rw [YI,<- hl];exact h4) (by rw [hk];exact ⟨_,I',q⟩)
 . have hk:(k+(its.toArray.size:Int)).toNat=j:=by rw [seqIndex_neg (by omega) h3] at h1;rw [YI,<- hl];exact Option.some.inj h1
   exact PySem.W.ki_setBack ho (by omega) (by rw [YI,<- hl];exact h3) (by omega) (by rw [hk];exact ⟨_,I',q⟩)
theorem jfL (lo hi:Option Int) (n:Nat):(sliceBounds lo hi none n).1=((HT.sIx n 0 lo:Nat):Int)/\(sliceBounds lo hi none n).2.1=((HT.sIx n n hi:Nat):Int)/\(sliceBounds lo hi none n).2.2=1:=by
 refine ⟨?_,?_,rfl⟩
 . cases lo with
   | none=>simp [sliceBounds,HT.sIx]
   | some i=>
     simp only [sliceBounds,HT.sIx,Option.getD_none,show (1:Int)>0 by decide,yo];by_cases h:i<0
     . simp only [h,yo] <;> omega
     . simp only [h,yx] <;> omega
 . cases hi with
   | none=>simp [sliceBounds,HT.sIx]
   | some i=>
     simp only [sliceBounds,HT.sIx,Option.getD_none,show (1:Int)>0 by decide,yo];by_cases h:i<0
     . simp only [h,yo] <;> omega
     . simp only [h,yx] <;> omega
theorem jew (its:List Value) (lo hi:Option Int):slicePick its.toArray lo hi none=((its.drop (HT.sIx its.length 0 lo)).take (HT.sIx its.length its.length hi-HT.sIx its.length 0 lo)).toArray:=by obtain ⟨h1,h2,h3⟩:=jfL lo hi its.toArray.size;unfold slicePick;rw [h1,h2,h3];simp only [sliceRange_one,pick_run,YI] <;> rfl
def jqo (K:PySem.W.Frag):V->Option Int->Option Int->Hp->VK->Prop:=fun x lo hi H Q=>∃a xs,x=.ref a/\J6 K H a xs/\∀p,H p=none->Q (.ref p) (upd H p (.lst (jkm xs lo hi)))
theorem jnr:SlR X (jqo X.K):=by intro tf s σ H x v vl vu lo hi sl Q I rx hs pl pu h;obtain ⟨a,xs,rfl,hx,q⟩:=h;cases rx;obtain ⟨its,r,ht,hz⟩:=I.list hx;have tL:=r.length;refine ⟨"list",_,slot_list_getitem.lookup,ht.isList.typeIs,?_⟩;refine wpAny_getItem_list_slice ht.isList hs pl pu .none (by simp) ?_ (by rw [YI] <;> omega);rw [jew,<- tL];refine ⟨.ref s.heap.objs.size,_,I.laid (t':=s.toks) (o:=.lst (jkm xs lo hi)) (fun b ob q=>Yj _ q) (Ys _) ?_,rfl,q _ (I.hok.fresh (Ys _))⟩;exact ⟨Y5 (jgd xs lo hi) hz,_,0,(r.drop (HT.sIx xs.length 0 lo)).take ‹"aN"›,YA _ rfl⟩
def jgv:V->Bool
 | .non=>true
 | .bl _=>true
 | .int _=>true
 | .str _=>true
 | _=>false
def eqV:V->V->Bool
 | .non,.non=>true
 | .bl a,.bl b=>a == b
 | .bl a,.int b=>(if a then 1 else 0) == b
 | .int a,.bl b=>a == (if b then 1 else 0)
 | .int a,.int b=>a == b
 | .str a,.str b=>a == b
 | _,_=>false
theorem jfU {A:Around} {s:Shared} {y x:V} {u v:Value} (ry:RelV y u) (rx:RelV x v) (fy:jgv y=true) (fx:jgv x=true):SeqAt.EqAt A s u v (eqV y x):=by
 cases y with
 | non=>
   cases ry;cases x with
   | non=>cases rx;exact SeqAt.EqAt.same _
   | bl b=>cases rx;exact SeqAt.EqAt.none_bool b
   | int b=>obtain ⟨t,rfl⟩:=rx;exact SeqAt.EqAt.none_int b t
   | str b=>obtain ⟨t,rfl⟩:=rx;exact SeqAt.EqAt.none_str b t
   | _=>exact absurd (show false=true from fx) Yh
 | bl a=>
   cases ry;cases x with
   | non=>cases rx;exact SeqAt.EqAt.bool_none a
   | bl b=>cases rx;exact SeqAt.EqAt.bool_bool a b
   | int b=>obtain ⟨t,rfl⟩:=rx;exact SeqAt.EqAt.bool_int a b t
   | str b=>obtain ⟨t,rfl⟩:=rx;exact SeqAt.EqAt.bool_str a b t
   | _=>exact absurd (show false=true from fx) Yh
 | int a=>
   obtain ⟨t',rfl⟩:=ry;cases x with
   | non=>cases rx;exact SeqAt.EqAt.int_none a t'
   | bl b=>cases rx;exact SeqAt.EqAt.int_bool a t' b
   | int b=>obtain ⟨t,rfl⟩:=rx;exact SeqAt.EqAt.int_int a t' b t
   | str b=>obtain ⟨t,rfl⟩:=rx;exact SeqAt.EqAt.int_str a t' b t
   | _=>exact absurd (show false=true from fx) Yh
 | str a=>
   obtain ⟨t',rfl⟩:=ry;cases x with
   | non=>cases rx;exact SeqAt.EqAt.str_none a t'
   | bl b=>cases rx;exact SeqAt.EqAt.str_bool a t' b
   | int b=>obtain ⟨t,rfl⟩:=rx;exact SeqAt.EqAt.str_int a t' b t
   | str b=>obtain ⟨t,rfl⟩:=rx;exact SeqAt.EqAt.str_str a t' b t
   | _=>exact absurd (show false=true from fx) Yh
 | _=>exact absurd (show false=true from fy) Yh
theorem call_len_seq:CallR X (.builtin "len") (fun xs H Q=>∃p ys,xs=[.ref p] ∧ (J6 X.K H p ys ∨ SqT X.K H p ys) ∧ Q (.int ys.length) H):=by
 intro tf s σ H xs us Q I r h;obtain ⟨p,ys,rfl,hq,q⟩:=h;obtain ⟨u,rfl,rx⟩:=jcm r;cases rx;have hn:=jaZ;rcases hq with hq | hq
 . obtain ⟨its,r',pl,hz⟩:=I.list hq;have tL:=r'.length;exact Calls.call_len_list pl.isList (by simp only [YI] <;> omega) ⟨.int ys.length,H,I.tok _,⟨s.toks+1,by rw [YI,tL]⟩,q⟩
 . obtain ⟨its,r',pl,hz⟩:=I.tuple hq;have tL:=r'.length;exact len_tuple pl (by simp only [YI] <;> omega) ⟨.int ys.length,H,I.tok _,⟨s.toks+1,by rw [YI,tL]⟩,q⟩
theorem jfl:CallR X (.builtin "len") (fun xs H Q=>∃z,xs=[.str z] ∧ z.length ≤ sizeLine ∧ Q (.int z.length) H):=by intro tf s σ H xs us Q I r h;obtain ⟨z,rfl,hz,q⟩:=h;obtain ⟨u,rfl,t,rfl⟩:=jcm r;have hn:=jaZ;exact len_str (by omega) ⟨.int z.length,H,I.tok _,⟨_,rfl⟩,q⟩
theorem CallR.or {f:Value} {r r':List V->Hp->VK->Prop} (h:CallR X f r) (h':CallR X f r'):CallR X f (fun xs H Q=>r xs H Q\/r' xs H Q):=by
 intro tf s σ H xs us Q I rs q;rcases q with q | q
 . exact h tf s σ H xs us Q I rs q
 . exact h' tf s σ H xs us Q I rs q
theorem jfn:CallR X (.type "list") (fun xs H Q=>∃p ys,xs=[.ref p] ∧ (J6 X.K H p ys ∨ SqT X.K H p ys) ∧ ∀l,H l=none → Q (.ref l) (upd H l (.lst ys))):=by
 intro tf s σ H xs us Q I r h;obtain ⟨p,ys,rfl,hq,q⟩:=h;obtain ⟨u,rfl,rx⟩:=jcm r;cases rx;have fin:∀(its:List Value),Vals ys its->ys.length<=sizeLine->∀(h':Heap) (c':Nat),(∀b o',s.heap.get? b=some o'->h'.get? b=some o')->
  h'.get? s.heap.objs.size=some { cls:=.type "list",dict:=none,data:=.seq its.toArray c',slots:=#[] } → EP X tf σ Q (.ref s.heap.objs.size) { s with heap:=h' }:=fun its r' hz h' c' kp e=>
  ⟨.ref s.heap.objs.size,_,I.laid (t':=s.toks) kp (Ys _) (show ObjOk X.prog X.w _ h' _ (.lst ys) from ⟨hz,its,c',r',e⟩),rfl,q _ (I.hok.fresh (Ys _))⟩
 rcases hq with hq | hq
 . obtain ⟨its,r',pl,hz⟩:=I.list hq;have tL:=r'.length;obtain ⟨o,ho,hc,n,hd⟩:=pl.isList;exact call_list_seq p (.inl rfl) ho hc hd (fun h' c' kp e=>fin its r' hz h' c' kp e) (by simp only [YI] <;> omega)
 . obtain ⟨its,r',pl,hz⟩:=I.tuple hq;have tL:=r'.length;obtain ⟨o,ho,hc,n,hd⟩:=pl;exact call_list_seq p (.inr rfl) ho hc hd (fun h' c' kp e=>fin its r' hz h' c' kp e) (by simp only [YI] <;> omega)
def tyV (K:PySem.W.Frag) (T:String) (x:V) (H:Hp):Prop:=match x with
 | .str _=>T = "str"
 | .int _=>T = "int"
 | .ref p=>(T = "list" ∧ ∃xs,J6 K H p xs) ∨ (T="tuple" ∧ ∃o,K.lookup p=some o ∧ o.cls=.type "tuple" ∧ o.dict=none) ∨
  (T = "dict" ∧ ((∃kvs,H p=some (.dK kvs)) ∨ ∃kvs,H p=some (.dT kvs))) ∨ (T="set" ∧ ∃S n,H p=some (.set S n))
 | _=>False
theorem jo5 {tf:List (Addr×Obj)} {σ:St} {H:Hp} {s:Shared} {T:String} {x:V} {v:Value} (I:Inv X tf σ H s) (r:RelV x v) (ty:tyV X.K T x H) :
 s.TypeIs v T/\∀a,v=.ref a->∃ob,s.heap.get? a=some ob/\ob.dict=none:=by
 cases x with
 | str z=>obtain ⟨t,rfl⟩:=r;cases (show T = "str" from ty);exact ⟨typeIs_str s z t,fun _ e=>nomatch e⟩
 | int i=>obtain ⟨t,rfl⟩:=r;cases (show T = "int" from ty);exact ⟨typeIs_int s i t,fun _ e=>nomatch e⟩
 | ref p=>
   cases r;rcases ty with ⟨rfl,xs,hq⟩ | ⟨rfl,o,hk,hc,hd⟩ | ⟨rfl,hk⟩ | ⟨rfl,S,n,hk⟩
   . obtain ⟨its,_,pl,_⟩:=I.list hq;refine ⟨pl.isList.typeIs,fun a e=>?_⟩;cases e;obtain ⟨o,n,e,c,hd,_⟩:=pl;exact ⟨o,e,hd⟩
   . refine ⟨⟨o,I.kIn p o hk,hc⟩,fun a e=>?_⟩;cases e;exact ⟨o,I.kIn _ o hk,hd⟩
   . have z:∃o,s.heap.get? p=some o/\o.ExactDict:=by
       rcases hk with ⟨kvs,hk⟩ | ⟨kvs,hk⟩
       . obtain ⟨_,_,_,_,o,_,_,e,ex,_⟩:=I.hok p _ hk;exact ⟨o,e,ex⟩
       . obtain ⟨_,_,_,_,o,_,_,e,ex,_⟩:=I.hok p _ hk;exact ⟨o,e,ex⟩
     obtain ⟨o,e,ex⟩:=z;refine ⟨⟨o,e,ex.1⟩,fun a e2=>?_⟩;cases e2;exact ⟨o,e,ex.2.1⟩
   . obtain ⟨o,_,_,_,e,ex,_⟩:=I.hok p _ hk;refine ⟨⟨o,e,ex.1⟩,fun a e2=>?_⟩;cases e2;exact ⟨o,e,ex.2.1⟩
 | _=>exact False.elim ty
def tBM (K:PySem.W.Frag) (T:String) (r:V->List V->Hp->VK->Prop) (to:TE) (t:TA):TE:=fun σ H Q=>to σ H fun x H1=>tyV K T x H1/\t σ H1 fun xs H2=>r x xs H2 Q
variable {o e:Expr} {es:List Expr} {to:TE} {t:TA} {name:Str} {apos cpos:Pos} {T id:String} {r:V->List V->Hp->VK->Prop}
theorem jos (pa:PlainAttrs T) (slot:Slot T name id) (hty:typeOf (.builtin id)=pure (.type "method_descriptor")) (hm:MtR X id r) (ho:PE X o to) (ha:PA X (e::es) t)
 (hbase:attributeBase o name X.env (eval o X.env)=eval o X.env:=by rfl)
 (hfew:autoParam (((backTo cpos (starEach (e::es) X.env)).all (fun x=>!x.1) && (backToKw cpos (keywordEach [] X.env)).all (fun x=>x.1.isSome)
  && decide ((e::es).length+([]:List Keyword).length+(if ([]:List Keyword).isEmpty then 0 else 1)<30))=true) QA.a4._auto_1)
 (hline:(apos.endLine == cpos.line)=true:=by rfl) (hs:starEach (e::es) X.env=(false,eval e X.env)::starEach es X.env:=by rfl) (hplain:(backTo cpos (starEach es X.env)).any (·.1)=false:=by rfl) :
 PE X (.Call (.Attribute o name apos) (e::es) [] cpos) (tBM X.K T r to t):=by
 intro tf s σ H Q I h;refine wpAny_Call_method_late hbase hfew hline rfl (qI (ho tf s σ H _ I h) fun v s1 zz=>?_);obtain ⟨x,H1,I1,r1,ty,q1⟩:=zz;obtain ⟨h1,h2⟩:=jo5 I1 r1 ty;refine ⟨T,id,pa,slot,hty,h1,h2,?_⟩;have hA:=ha cpos tf s1 σ H1 _ I1 q1;rw [hs] at hA ⊢;refine Calls.callWith_builtin (by show (false || (backTo cpos (starEach es X.env)).any (·.1))=false;rw [hplain] <;> rfl) (Calls.evalArgs_plain ?_);exact qI hA fun us s2 ⟨vs,H2,I2,r2,q2⟩=>hm tf s2 σ H2 x vs v us Q I2 r1 r2 q2
end
end L2
namespace L2
open PySem PySem.Spec PyProof.Rows
def MtM (X:Cx) (id:String) (r:V->List V->Hp->VK->Prop):Prop:=
 ∀(tf:List (Addr×Obj)) (s:Shared) (σ:St) (H:Hp) (x:V) (xs:List V) (v:Value) (us:List Value) (Q:VK),Inv X tf σ H s->RelV x v->Vals xs us->r x xs H Q->
   wpAny ‹"f"› X.A (call (.builtin id) (v::us)) (EP X tf σ Q) X.xe s
theorem Vals.one:∀{x:V} {us:List Value},Vals [x] us->∃u,us=[u]/\RelV x u:=fun h=>jcm h
theorem Vals.two:∀{x y:V} {us:List Value},Vals [x,y] us->∃u v,us=[u,v]/\RelV x u/\RelV y v:=fun h=>jl4 h
section
variable {X:Cx} {tf:List (Addr×Obj)} {σ:St} {H:Hp} {s:Shared} {l b:Addr} {xs ys zs:List V}
theorem Inv.lset {its its':List Value} {n:Nat} {f:Array Value->Array Value} {t':Nat} (I:Inv X tf σ H s) (hH:H l=some (.lst xs))
 (e:s.heap.get? l=some { cls:=.type "list",data:=.seq its.toArray n }) (hf:f its.toArray=its'.toArray) (hv:Vals ys its') (hz:ys.length ≤ sizeLine) :
 Inv X tf σ (upd H l (.lst ys)) { s with heap:=s.heap.update l (Obj.mapSeq f),toks:=t' }:=by
 have q:=PySem.IsL.update e f;rw [hf] at q;refine I.write (x:=l) (e:=l) (by rw [hH];exact trivial) (.inl rfl) (fun b' u hb hu=>(Heap.get?_update_other s.heap (Obj.mapSeq f) (Ne.symm hb)).trans hu) ⟨_,q⟩ ?_;exact ⟨hz,its',_,hv,q⟩
theorem Inv.lnew {its:List Value} {t':Nat} (I:Inv X tf σ H s) (hv:Vals ys its) (hz:ys.length<=sizeLine) :
 Inv X tf σ (upd H s.heap.objs.size (.lst ys)) { s with heap:=s.heap.push { cls:=.type "list",data:=.seq its.toArray },toks:=t' }:=
 I.laid (fun _ _ q=>Yj _ q) (Ys _) ⟨hz,its,0,hv,YA _ rfl⟩
theorem Inv.fresh (I:Inv X tf σ H s):H s.heap.objs.size=none:=I.hok.fresh (Ys _)
theorem Inv.lstM (I:Inv X tf σ H s) (hH:H l=some (.lst xs)):xs.length ≤ sizeLine ∧ ∃(its:List Value) (n:Nat),Vals xs its ∧ xs.length=its.length ∧ s.heap.get? l=some { cls:=.type "list",data:=.seq its.toArray n }:=by obtain ⟨z,its,n,r,e⟩:=I.hok l _ hH;exact ⟨z,its,n,r,r.length,e⟩
end
section
variable {X:Cx}
def jfx:V->List V->Hp->VK->Prop:=fun x vs H Q=>∃l xs y,x=.ref l/\vs=[y]/\H l=some (.lst xs)/\xs.length<sizeLine/\Q .non (upd H l (.lst (xs++[y])))
theorem jjP:MtM X "list.append" jfx:=by intro tf s σ H x vs v us Q I rx rv h;obtain ⟨l,xs,y,rfl,rfl,hH,hz,q⟩:=h;cases rx;obtain ⟨u,rfl,ru⟩:=rv.one;obtain ⟨z,its,n,r,hl,e⟩:=I.lstM hH;refine call_meets F.slot_list_append ⟨_,e,rfl⟩ F.entry_list_append (F.args_list_append_2 _ _) (PySem.list_append l its.toArray n u (by rw [YI];omega)) ⟨e,?_⟩;refine ⟨.non,_,I.lset (its':=its++[u]) hH e (by simp) (r.append (.cons ru .nil)) ?_,rfl,q⟩;rw [YQ,List.length_singleton];omega
end
section
variable {prog:Program} {w:World} {A:Around} {E:Value->Shared->Prop} {s:Shared}
end
section
variable {X:Cx}
end
end L2
namespace Att
open PySem PySem.W PySem.Calls PyProof.Rows
theorem jcS {P:Params} {h:Heap}:∀(ns:List Int) (vs:List Value),WellAll P h vs (ns.map WData.int)->IntsAre vs ns:=by
 intro ns;induction ns with
 | nil=>intro vs w;rw [yD] at w;cases w;exact .nil
 | cons n ns ih=>
   intro vs w;rw [List.map_cons] at w;cases w with
   | cons a b=>cases a;exact .cons _ _ (ih _ b)
theorem jj8 {l:OpenLaw} {n:Nat} (hn:l.most=some n) {P:Params} {h:Heap} {args:List WData} {vals:List Value}
 (hpre:l.row.toRowW.claim.pre args=true) (hwl:WellAll P h vals args) :
 ∃a vs ns,vals=[Value.ref a] ∧ args=[WData.list (ns.map WData.int)] ∧ h.get? a=some { cls:=.type "list",data:=.seq vs.toArray } ∧ IntsAre vs ns ∧ ns.length ≤ n:=by
 have hsh:WShape.hasAll [] args [.list .int]=true:=(pre_splitW hpre).1;have hc:l.pre.holds [] { args:=args }=true:=(pre_splitW hpre).2;obtain ⟨d,r,rfl,h1,h2⟩:=hasAllW_cons hsh;obtain rfl:=hasAllW_nil h2;obtain ⟨xs,rfl,h3⟩:=hasW_list h1;obtain ⟨ns,rfl⟩:=items_int h3;have tL:ns.length<=n:=by
  unfold OpenLaw.pre at hc;have h4:(WTm.not (.lt (.lit (.int (n:Int))) (.len (.arg 0)))).holds [] { args:=[.list (ns.map .int)] }=true:=by have h4:=(holds_andW hc).1;rw [hn] at h4;exact h4
  have h5:=condW_of h4 (w_not (w_lt w_lit (w_len_list (w_arg rfl))));rw [Yd] at h5;refine Nat.le_of_not_lt fun q=>?_;have q':(n:Int)<((ns.length:Nat):Int):=by omega
  first
   | (rw [YU q'] at h5;exact absurd h5 (by decide))
   | (simp at h5;omega)
 cases hwl with
 | cons w1 w2=>
   cases w2;cases w1 with
   | list ho hall=>exact ⟨_,_,ns,rfl,rfl,ho,jcS ns _ hall,tL⟩
theorem jkb (l:OpenLaw) (args:List WData):l.row.toRowW.claim.post args (.bool true) args=true:=
 postW_of (r:=l.row.toRowW) (X:=(true == true))
  (show WShape.has [] (.bool true) .bool=true by first | rfl | decide | simp [WShape.has,WShape.arms,WShape.armsAll])
  (show (WTm.eq .res (.lit (.bool true))).value [] { args:=args,res:=some (.bool true),after:=args }=some (.bool (true == true)) from w_eq_bool (w_res rfl) w_lit) rfl
theorem attach_call {l:OpenLaw} {n:Nat} {q:Program} {loose:List Str} {XP:(Str->Option Value)->Heap->Prop} {YP:World->Heap->Prop} {d:DefRec}
 (hn:l.most=some n) (hdf:d.params.defaults=[])
 (call:∀(w:World) (s₀ s₁:Shared) (mg mb:Str->Option Value) (fa:Addr) (o:Obj) (pm cd doc:Value) (a:Addr) (vs:List Value) (ns:List Int),
  Ground q loose [] XP w s₀ mg mb s₁.heap->YP w s₁.heap->
  s₁.heap.get? fa=some o->o.data=.func (docDef d.name d.params d.body d.scope pm cd doc)->s₁.heap.CodeRec cd d.name->mg d.name=some (.ref fa)->
  s₁.heap.get? a=some { cls:=.type "list",data:=.seq vs.toArray } → IntsAre vs ns → ns.length ≤ n → s₁.gens=#[] →
  codeAny (model l.prog w) callerA (.call (.ref fa) ⟨[.ref a],[]⟩) (fun r s'=>r=.ok (.ret (.bool true))/\OldK s₁.heap s'.heap/\s'.os=s₁.os/\AllBare s'.gens) s₁) :
 WalkO q loose XP YP l.row.toRowW d [] (fun f vs=>PySem.call f vs):=by
 intro w s₀ s₁ mg mb G Y fa o pm cd doc dV kV ho hd hcd hD hmg hg args vals as hpre hlay hrd hwl hlo;obtain rfl:dV=.none:=Dflts.none hD hdf;obtain rfl:kV=.none:=Dflts.noKw hD;obtain ⟨a,vs,ns,rfl,rfl,hobj,hints,tL⟩:=jj8 hn hpre hwl;refine enter_call (kj (call w s₀ s₁ mg mb fa o pm cd doc a vs ns G Y ho (fd_plain hd) hcd hmg hobj hints tL hg) fun r s' hq=>?_);obtain ⟨rfl,h2,h3,h4⟩:=hq;exact ⟨.inl ⟨.bool true,.bool true,[],rfl,fun _=>rfl,.bool true,jkb l _,fun _=>⟨List.Pairwise.nil,fun _ hm=>(nomatch hm)⟩⟩,h2,h3,h4⟩
section
variable {prog:Program} {w:World} {A:Around} {E:Value->Shared->Prop} {s:Shared} {K:Frag}
end
end Att
namespace L2
open PySem PySem.Spec PyProof.Rows
theorem jch:∀{vs:List Value} {ns:List Int},IntsAre vs ns->Vals (ns.map V.int) vs:=fun h=>by
 induction h with
 | nil=>exact .nil
 | cons n t _ ih=>exact .cons ⟨t,rfl⟩ ih
def jpP (H:Hp):Prop:=∀b,H b=none\/∃o xs,H b=some (.frz o (.lst xs))
theorem jk3 {P:Program} {w:World} {K:PySem.W.Frag} {mg mb:Str->Option Value} {CX:CXT} {k:Nat} {fa a:Addr} {fd:FuncData} {x:Str} {sp:Sp} {s₁:Shared} {vs:List Value} {ns:List Int}
 (KX:K.In s₁.heap) (hns:s₁.heap.Ns mainGlobals mg) (hb:s₁.heap.Ns builtinsNs mb) (hbb:∀x:Str,x ≠ "__name__" → mb x=bootBuiltins x) (hlim:s₁.heap.NoLimit) (hg:s₁.gens=#[])
 (ha:s₁.heap.get? a=some { cls:=.type "list",data:=.seq vs.toArray }) (hi:IntsAre vs ns) (hl:ns.length ≤ sizeLine) (hr:Room k callerA)
 (F:∀base:Heap,K.In base->base.Ns mainGlobals mg->FnOk P w K mg base CX k fa fd [x] sp) (hbind:∀(s:Shared) (u:Value),BindsTo s fd ⟨[u],[]⟩ [(x,u)])
 (hsp:∀H:Hp,jpP H->J6 K H a (ns.map V.int)->sp [.ref a] H (fun v _=>v=.bl true) fun _ _ _=>False)
 (hCX:∀H e s',CX [] H s₁ (fun _ _ _=>False) e s'->False) :
 codeAny (model P w) callerA (.call (.ref fa) ⟨[.ref a],[]⟩) ‹"aU"› s₁:=by
 have rv:=jch hi;have lenV:=hi.length
 -- from an abstract heap in which nothing but the script may be tracked
 have core:∀H:Hp,jpP H->J6 K H a (ns.map V.int)->HOk P w H s₁.heap->(∀b,H b≠none->b=a)->(H a≠none->K.lookup a=none)->
  codeAny (model P w) callerA (.call (.ref fa) ⟨[.ref a],[]⟩) ‹"aU"› s₁:=by
  intro H hO hS hok hA hK;have base_of:∀{b:Addr} {o:Obj},s₁.heap.get? b=some o->H b=none->(jfG s₁.heap H).get? b=some o:=fun e n=>jmq e n;have noA:∀{b:Addr} {o:Obj} {es:Array DictEntry} {ep:Nat},s₁.heap.get? b=some o->o.data=.dict es ep->H b=none:=fun {b o es ep} e d=>by
   cases q:H b with
   | none=>rfl
   | some u=>have e':b=a:=hA b (by rw [q];simp);subst e';rw [ha] at e;cases e;have d':Data.seq vs.toArray _=Data.dict es ep:=d;cases d'
  have nsK:∀{b:Addr} {m:Str->Option Value},s₁.heap.Ns b m->(jfG s₁.heap H).Ns b m:=fun {b m} ⟨o,es,ep,e,d,r⟩=>⟨o,es,ep,base_of e (noA e d),d,r⟩;have hKb:K.In (jfG s₁.heap H):=fun b o e=>base_of (KX b o e) (by
   cases q:H b with
   | none=>rfl
   | some u=>have e':b=a:=hA b (by rw [q];simp);subst e';rw [hK (by rw [q];simp)] at e;cases e)
  have hM:Mod K mg (jfG s₁.heap H):=⟨hKb,nsK hns,⟨mb,nsK hb,hbb⟩,let ⟨mc,h1,h2⟩:=hlim;⟨mc,nsK h1,h2⟩⟩;have e0:Env0 P w K mg (jfG s₁.heap H) callerA [] s₁ H:=⟨rfl,hM,fun b o e=>jnw e,Nat.le_of_eq (jkt _ _),trivial,fun b hb=>absurd (show b∈([]:List Addr) from hb) (by simp),hok,.of_eq hg⟩;refine kj ((F _ hKb (nsK hns)).run callerA [] s₁ H ⟨[.ref a],[]⟩ [.ref a] [.ref a] _ _ hr e0 (hbind s₁ (.ref a)) (.cons rfl .nil) (hsp H hO hS)) fun r s' h=>?_;cases r with
  | error e=>exact (hCX H e s' h).elim
  | ok fl=>
    cases fl with
    | next=>exact False.elim h
    | brk=>exact False.elim h
    | cont=>exact False.elim h
    | ret u=>
      obtain ⟨v,H',os,bare,un,hok',r',q⟩:=h;have q':v=.bl true:=q;subst q';obtain rfl:u=Value.bool true:=r';refine ⟨rfl,OldK.of_keep fun b o e=>?_,os,bare⟩;cases q:H b with
      | none=>exact un.keep b o e q (by intro z;exact absurd (show b∈([]:List Addr) from z) (by simp)) (by simp)
      | some u=>
        rcases hO b with z | ⟨ob,xs,z⟩
        . rw [q] at z;cases z
        . have z2:=un.frzs b ob _ z;obtain ⟨e1,_⟩:=hok b _ z;obtain ⟨e2,_⟩:=hok' b _ z2;rw [e] at e1;cases e1;exact e2
 cases hk:K.lookup a with
 | some o=>
   -- the script is one of the module's own objects
   have e:=KX a o hk;rw [ha] at e;cases e;refine core (fun _=>none) (fun _=>.inl rfl) (.inr ⟨_,vs.toArray,_,hk,rfl,rfl,rfl,by rw [YI,lenV];exact hl,by simpa using rv⟩) (fun b u z=>by have z':(none:Option HO)=some u:=z;cases z') (fun b z=>absurd rfl z) fun z=>absurd rfl z
 | none=>
   refine core (fun b=>if b=a then some (.frz { cls:=.type "list",data:=.seq vs.toArray } (.lst (ns.map V.int))) else none) (fun b=>?_) (.inl (.inr ⟨{ cls:=.type "list",data:=.seq vs.toArray },if_pos rfl⟩)) (fun b u z=>?_) (fun b z=>?_) fun _=>hk
   . by_cases hb:b=a
     . exact .inr ⟨_,_,if_pos hb⟩
     . exact .inl (if_neg hb)
   . by_cases hb:b=a
     . have z':=(if_pos hb).symm.trans z;cases z';subst hb;exact ⟨ha,by rw [Yd];exact hl,vs,_,rv,ha⟩
     . have z':=(if_neg hb).symm.trans z;cases z'
   . by_cases hb:b=a
     . exact hb
     . exact absurd (if_neg hb) z
end L2
namespace L2
open PySem PySem.Spec PyProof.Rows
theorem jnC {l:PySem.W.OpenLaw} {n k:Nat} {q:Program} {loose:List Str} {XP:(Str->Option Value)->Heap->Prop} {YP:World->Heap->Prop} {d:DefRec} {K:Params->PySem.W.Frag} {CX:World->CXT} {sp:World->Sp} {x:Str}
 (hn:l.most=some n) (hn2:n<=sizeLine) (hdf:d.params.defaults=[]) (hr:Room k callerA)
 (hY:∀(w:World) (h:Heap),YP w h->(K w.params).In h)
 (F:∀(w:World) (mg:Str->Option Value) (fa:Addr) (h:Heap),(K w.params).In h->h.Ns mainGlobals mg->mg d.name=some (.ref fa)->
  ∃fd:FuncData,(∀(s:Shared) (u:Value),BindsTo s fd ⟨[u],[]⟩ [(x,u)]) /\
    ∀base:Heap,(K w.params).In base->base.Ns mainGlobals mg->FnOk l.prog w (K w.params) mg base (CX w) k fa fd [x] (sp w))
 (hsp:∀(w:World) (H:Hp) (a:Addr) (ns:List Int),ns.length<=n->jpP H->J6 (K w.params) H a (ns.map V.int)->sp w [.ref a] H (fun v _=>v=.bl true) fun _ _ _=>False)
 (hCX:∀(w:World) (H:Hp) (s:Shared) (e:Value) (s':Shared),CX w [] H s (fun _ _ _=>False) e s'->False) :
 PySem.W.WalkO q loose XP YP l.row.toRowW d [] (fun f vs=>PySem.call f vs):=by
 refine Att.attach_call hn hdf fun w s₀ s₁ mg mb fa o pm cd doc a vs ns G Y ho hd hcd hmg hobj hints tL hg=>?_;have KX:=hY w _ Y;obtain ⟨fd,hb,hF⟩:=F w mg fa _ KX G.T.g hmg;exact jk3 KX G.T.g G.T.b G.T.builtins G.T.nolimit hg hobj hints (Y5 tL hn2) hr hF hb (fun H hO hS=>hsp w H a ns tL hO hS) fun H e s'=>hCX w H s₁ e s'
end L2
namespace L2
open PySem PySem.Spec PyProof.Rows
def jK (s:Stmt):Arguments:=match s with
 | .FunctionDef _ a _ _ _ _ _ _ _ _=>a
 | _=>{ posonlyargs:=[],args:=[],vararg:=none,kwonlyargs:=[],kw_defaults:=[],kwarg:=none,defaults:=[] }
def jI (s:Stmt):List Stmt:=match s with
 | .FunctionDef _ _ b _ _ _ _ _ _ _=>b
 | _=>[]
def je (s:Stmt):Scope:=match s with
 | .FunctionDef _ _ _ _ _ _ sc _ _ _=>sc
 | _=>{ kind:=.function,names:=[],isGenerator:=false,isCoroutine:=false }
abbrev JT:CXT:=fun _ _ _ _ _ _=>False
abbrev E0:XK:=fun _ _ _=>False
theorem joX {X:Cx}:jhJ JT X E0:=fun _ _ _ _ _ _ _ h=>h.elim
structure Fun (K:PySem.W.Frag) (x qual:Str) (st:Stmt) (f:Addr) (fd:FuncData):Prop where
 ex:∃(oc:Value) (od:Option Addr) (kV doc pm:Value) (an:Option Addr) (cdv ct:Value) (osl:Array (Option Value)),
  fd=PySem.W.fnOf x qual (jK st) (jI st) (je st) .none kV doc pm an cdv ct/\K.lookup f=some ⟨oc,od,.func fd,osl⟩/\PySem.W.codeIn K cdv qual=true
 kp:PySem.W.keepIn K (.ref f)=true
section
variable {P:Program} {w:World} {K:PySem.W.Frag} {mg:Str->Option Value} {base:Heap}
theorem Fun.ok {x qual:Str} {st:Stmt} {f:Addr} {fd:FuncData} {N ps:List Str} {k:Nat} {sp:Sp} (F:Fun K x qual st f fd) (S:FnScope N ps (je st)) (len:∀vs H Q E,sp vs H Q E->vs.length=ps.length)
 (hbody:∀(cdv:Value) (A:Around) (outer:List Env) (s:Shared) (H:Hp) (vs:List V) (Q:VK) (E:XK),Room k ‹"aD"›->sp vs H Q E->
  ∃t,PSs (jh7 JT P w K mg base N qual (je st) f cdv A outer s H E).nox (jI st) t/\t { nx:=fun _ H'=>Q .non H',rt:=Q } (jaI N vs) H):FnOk P w K mg base JT (k+1) f fd ps sp:=by
 obtain ⟨oc,od,kV,doc,pm,an,cdv,ct,osl,rfl,lk,hcd⟩:=F.ex;refine jrx lk hcd S len fun A outer s H vs Q E hr hsp=>?_;obtain ⟨t,h,q⟩:=hbody cdv A outer s H vs Q E hr hsp;exact ⟨t,h.nox,q⟩
theorem Fun.binds {x qual:Str} {st:Stmt} {f:Addr} {fd:FuncData} {ps:List Str} (F:Fun K x qual st f fd)
 (h:∀(kV doc pm:Value) (an:Option Addr) (cdv ct:Value) (us:List Value),us.length=ps.length->bindArgs ‹"aa"› ⟨us,[]⟩=pure (ps.zip us)):Binds K fd ps []:=by
 obtain ⟨oc,od,kV,doc,pm,an,cdv,ct,osl,rfl,lk,hcd⟩:=F.ex;exact .all (h kV doc pm an cdv ct)
theorem jV {x qual:Str} {st:Stmt} {f:Addr} {oc:Value} {od an:Option Addr} {osl:Array (Option Value)} {kV doc pm cdv ct:Value} (l:K.lookup f=some ⟨oc,od,.func ‹"aa"›,osl⟩)
 (c:PySem.W.codeIn K cdv qual=true) (k:PySem.W.keepIn K (.ref f)=true):Fun K x qual st f ‹"aa"›:=⟨⟨oc,od,kV,doc,pm,an,cdv,ct,osl,rfl,l,c⟩,k⟩
end
section
variable {X:Cx}
end
def Same (H H':Hp):Prop:=∀b o,H b=some o->H' b=some o
theorem Same.refl (H:Hp):Same H H:=fun _ _ h=>h
theorem Same.trans {H H1 H2:Hp} (a:Same H H1) (b:Same H1 H2):Same H H2:=fun c o h=>b c o (a c o h)
theorem Same.free {H H':Hp} (e:Same H H') {l:Addr} (h:H' l=Option.none):H l=Option.none:=by
 cases q:H l with
 | none=>rfl
 | some o=>rw [e l o q] at h;cases h
theorem Same.seq {K:PySem.W.Frag} {H H':Hp} {a:Addr} {xs:List V} (e:Same H H') (h:J6 K H a xs):J6 K H' a xs:=by
 rcases h with (h | ⟨o,h⟩) | h
 . exact .inl (.inl (e _ _ h))
 . exact .inl (.inr ⟨o,e _ _ h⟩)
 . exact .inr h
end L2
namespace L2
open PySem PySem.Spec PyProof.Rows
section
variable {κ:Type} [DecidableEq κ]
def jby (kvs:List (κ×V)) (k:κ):Option V:=(kvs.find? fun kv=>decide (kv.1=k)).map (·.2)
def jaB (kvs:List (κ×V)) (k:κ) (v:V):List (κ×V):=if (kvs.any fun kv=>decide (kv.1=k))=true then kvs.map (fun kv=>if kv.1=k then (kv.1,v) else kv) else kvs++[(k,v)]
def jog (kvs:List (κ×V)) (k:κ):List (κ×V):=kvs.filter fun kv=>decide (kv.1≠k)
theorem jbR {p:κ×V} {r:List (κ×V)} {k:κ} (e:p.1=k):jby (p::r) k=some p.2:=by simp [jby,Kv,e]
theorem jbA {p:κ×V} {r:List (κ×V)} {k:κ} (e:¬p.1=k):jby (p::r) k=jby r k:=by simp [jby,Kv,e]
theorem jg8 (k:κ):∀kvs:List (κ×V),(kvs.any fun kv=>decide (kv.1=k))=(jby kvs k).isSome
 | []=>rfl
 | p::r=>by
   rw [List.any_cons];by_cases e:p.1=k
   . simp only [jbR e,YU e,Bool.true_or,Option.isSome_some]
   . rw [jbA e,Y1 e,Bool.false_or];exact jg8 k r
theorem ZX (kvs:List (κ×V)) (k:κ) (v:V):(jaB kvs k v).length<=kvs.length+1:=by
 unfold jaB;split
 . rw [Yd];omega
 . rw [YQ,YH,Y3];omega
theorem RelO.isSome_eq {o:Option V} {u:Option Value} (r:RelO o u):o.isSome=u.isSome:=by
 cases o with
 | none=>cases u with
   | none=>rfl
   | some _=>exact (show False from r).elim
 | some _=>cases u with
   | none=>exact (show False from r).elim
   | some _=>rfl
theorem RelO.getD {o:Option V} {u:Option Value} {d:V} {d':Value} (r:RelO o u) (rd:RelV d d'):RelV (o.getD d) (u.getD d'):=by
 cases o with
 | none=>cases u with
   | none=>exact rd
   | some _=>exact (show False from r).elim
 | some _=>cases u with
   | none=>exact (show False from r).elim
   | some _=>exact r
theorem KV.val {kvs:List (κ×V)} {vs:List (κ×Value)} (r:KV kvs vs) (k:κ):RelO (jby kvs k) (valueAt vs k):=by
 unfold KV at r;induction r with
 | nil=>exact True.intro
 | @cons p q ps qs h t ih=>
   obtain ⟨h1,h2⟩:=h;by_cases e:p.1=k
   . have e':q.1=k:=h1.symm.trans e;have b:valueAt (q::qs) k=some q.2:=by simp [valueAt,Kv,e']
     rw [jbR e,b];exact h2
   . have e':¬q.1=k:=fun z=>e (h1.trans z);have b:valueAt (q::qs) k=valueAt qs k:=by simp [valueAt,Kv,e']
     rw [jbA e,b];exact ih
theorem KV.any {kvs:List (κ×V)} {vs:List (κ×Value)} (r:KV kvs vs) (k:κ):(kvs.any fun kv=>decide (kv.1=k))=vs.any fun kv=>decide (kv.1=k):=by
 unfold KV at r;induction r with
 | nil=>rfl
 | cons h t ih=>rw [List.any_cons,List.any_cons,ih,h.1]
theorem KV.repl {kvs:List (κ×V)} {vs:List (κ×Value)} (r:KV kvs vs) (k:κ) {y:V} {u:Value} (ry:RelV y u) :
 KV (kvs.map fun kv=>if kv.1=k then (kv.1,y) else kv) (vs.map fun kv=>if kv.1=k then (kv.1,u) else kv):=by
 unfold KV at r ⊢;induction r with
 | nil=>exact .nil
 | @cons p q ps qs h t ih=>
   rw [List.map_cons,List.map_cons];refine .cons ?_ ih;obtain ⟨h1,h2⟩:=h;by_cases e:p.1=k
   . rw [if_pos e,if_pos (h1.symm.trans e)];exact ⟨h1,ry⟩
   . rw [if_neg e,if_neg (fun z=>e (h1.trans z))];exact ⟨h1,h2⟩
theorem KV.put {kvs:List (κ×V)} {vs:List (κ×Value)} (r:KV kvs vs) (k:κ) {y:V} {u:Value} (ry:RelV y u):KV (jaB kvs k y) (stored vs k u):=by
 unfold jaB stored;rw [r.any k];by_cases e:(vs.any fun kv=>decide (kv.1=k))=true
 . rw [if_pos e,if_pos e];exact r.repl k ry
 . rw [if_neg e,if_neg e];exact Paired.snoc r ⟨rfl,ry⟩
theorem KV.drop {kvs:List (κ×V)} {vs:List (κ×Value)} (r:KV kvs vs) (k:κ):KV (jog kvs k) (without vs k):=by
 unfold KV at r ⊢;unfold jog without;induction r with
 | nil=>exact .nil
 | @cons p q ps qs h t ih=>
   obtain ⟨h1,h2⟩:=h;rw [yf,yf];by_cases e:p.1=k
   . have a:¬decide (p.1≠k)=true:=by simp [e]
     have b:¬decide (q.1≠k)=true:=by simp [h1.symm.trans e]
     rw [if_neg a,if_neg b];exact ih
   . have e':¬q.1=k:=fun z=>e (h1.trans z);have a:decide (p.1≠k)=true:=by simp [e]
     have b:decide (q.1≠k)=true:=by simp [e']
     rw [if_pos a,if_pos b];exact .cons ⟨h1,h2⟩ ih
theorem KV.length {kvs:List (κ×V)} {vs:List (κ×Value)} (r:KV kvs vs):kvs.length=vs.length:=Paired.length r
end
theorem jdD {P:Program} {w:World} {k:zV} {u:Value} (r:RelV (kV k) u):(qf P w).is k u=true:=by
 cases k with
 | inl i=>obtain ⟨t,e⟩:=(show ∃t,u=Value.int i t from r);subst e;exact jgI P w i t
 | inr x=>obtain ⟨t,e⟩:=(show ∃t,u=Value.str x t from r);subst e;exact jg2 P w x t
theorem jeX {P:Program} {w:World}:∀{ks:List zV} {us:List Value},Vals (ks.map kV) us->ItemsAre (qf P w) ks us
 | [],_,r=>by rw [yD] at r;cases r;exact .nil
 | k::ks,_,r=>by
   rw [List.map_cons] at r;cases r with
   | cons h t=>exact .cons (jdD h) (jeX t)
abbrev KT (H:Hp):List (List zV×V)->List (List zV×Addr×Value)->Prop:=Paired fun p q=>p.1=q.1/\H q.2.1=some (.tup (p.1.map kV))/\RelV p.2 q.2.2
theorem KT.val {H:Hp} {kvs:List (List zV×V)} {xs:List (List zV×Addr×Value)} (r:KT H kvs xs) (k:List zV):RelO (jby kvs k) ((atKey xs k).map (·.2)):=by
 induction r with
 | nil=>exact True.intro
 | @cons p q ps qs h t ih=>
   obtain ⟨h1,_,h2⟩:=h;by_cases e:p.1=k
   . have e':q.1=k:=h1.symm.trans e;have b:atKey (q::qs) k=some q.2:=by simp [atKey,Kv,e']
     rw [jbR e,b];exact h2
   . have e':¬q.1=k:=fun z=>e (h1.trans z);have b:atKey (q::qs) k=atKey qs k:=by simp [atKey,Kv,e']
     rw [jbA e,b];exact ih
theorem KT.repl {H:Hp} {kvs:List (List zV×V)} {xs:List (List zV×Addr×Value)} (r:KT H kvs xs) (k:List zV) {y:V} {u:Value} (ry:RelV y u) :
 KT H (kvs.map fun kv=>if kv.1=k then (kv.1,y) else kv) (xs.map (putAt k u)):=by
 induction r with
 | nil=>exact .nil
 | @cons p q ps qs h t ih=>
   rw [List.map_cons,List.map_cons];refine .cons ?_ ih;obtain ⟨h1,h2,h3⟩:=h;unfold putAt;by_cases e:p.1=k
   . rw [if_pos e,if_pos (h1.symm.trans e)];exact ⟨h1,h2,ry⟩
   . rw [if_neg e,if_neg (fun z=>e (h1.trans z))];exact ⟨h1,h2,h3⟩
theorem KT.put {H:Hp} {kvs:List (List zV×V)} {xs:List (List zV×Addr×Value)} (r:KT H kvs xs) (k:List zV) {b:Addr} {y:V} {u:Value} (hb:H b=some (.tup (k.map kV))) (ry:RelV y u) :
 KT H (jaB kvs k y) (storedH xs k b u):=by
 have e:(kvs.any fun kv=>decide (kv.1=k))=(atKey xs k).isSome:=by rw [jg8,(r.val k).isSome_eq,Option.isSome_map]
 unfold jaB storedH;rw [e];by_cases q:(atKey xs k).isSome=true
 . rw [if_pos q,if_pos q];exact r.repl k ry
 . rw [if_neg q,if_neg q];exact Paired.snoc r ⟨rfl,hb,ry⟩
theorem KT.keeps {H H':Hp} {kvs:List (List zV×V)} {xs:List (List zV×Addr×Value)} (r:KT H kvs xs) (ht:∀b ys,H b=some (.tup ys)->H' b=some (.tup ys)):KT H' kvs xs:=Paired.mapP r fun _ _ z=>⟨z.1,ht _ _ z.2.1,z.2.2⟩
section
variable {P:Program} {w:World} {H:Hp} {h:Heap} {a:Addr}
theorem joU {u:HO} (ok:HOk P w H h) (e:Rd H a u):ObjOk P w H h a u:=e.ok ok
theorem jag {kvs:List (zV×V)} (ok:HOk P w H h) (e:Rd H a (.dK kvs)):kvs.length<=sizeLine/\(a == sysModules)=false/\∃vs,KV kvs vs/\h.DictOf (qf P w) a vs:=show ObjOk P w H h a (.dK kvs) from joU ok e
theorem joN {kvs:List (zV×V)} (ok:HOk P w H h) (e:H a=some (.dK kvs)):kvs.length<=sizeLine/\(a == sysModules)=false/\∃vs,KV kvs vs/\h.DictOf (qf P w) a vs:=jag ok (.inl e)
theorem ja0 {ks:List zV} (ok:HOk P w H h) (e:H a=some (.tup (ks.map kV))):(tupleKind (qf P w)).is h ks a:=by obtain ⟨_,its,r,o,h1,h2,n,h3⟩:=(show ObjOk P w H h a (.tup (ks.map kV)) from ok a _ e);exact ⟨o,its.toArray,n,h1,h2,h3,by simpa using jeX r⟩
theorem jdu {kvs:List (List zV×V)} (ok:HOk P w H h) (e:Rd H a (.dT kvs)):kvs.length<=sizeLine/\(a == sysModules)=false /\
 ∃xs,KT H kvs xs/\h.DictOfH (tupleKind (qf P w)) a xs:=by
 obtain ⟨z,y,xs,r,o,es,ep,h1,h2,h3,h4,h5⟩:=(show ObjOk P w H h a (.dT kvs) from joU ok e);refine ⟨z,y,xs,r,o,es,ep,h1,h2,h3,h4,fun x hx=>?_,h5⟩;have all:∀{l:List (List zV×V)} {m:List (List zV×Addr×Value)},KT H l m->∀x∈m,(tupleKind (qf P w)).is h x.1 x.2.1:=by
  intro l m q;induction q with
  | nil=>intro x hx;exact nomatch hx
  | @cons p q ps qs hq t ih=>
    intro x hx;rcases Yr.mp hx with e | hx
    . subst e;exact ja0 ok (by rw [<-hq.1];exact hq.2.1)
    . exact ih x hx
 exact all r x hx
theorem jrb {kvs:List (List zV×V)} (ok:HOk P w H h) (e:H a=some (.dT kvs)):kvs.length<=sizeLine/\(a == sysModules)=false /\
 ∃xs,KT H kvs xs/\h.DictOfH (tupleKind (qf P w)) a xs:=jdu ok (.inl e)
end
def jgW (H:Hp) (a:Addr) (y:V) (r:Option V):Prop:=(∃kvs k,Rd H a (.dK kvs)/\y=kV k/\r=jby kvs k)\/∃kvs k b,Rd H a (.dT kvs)/\y=.ref b/\H b=some (.tup (k.map kV))/\r=jby kvs k
def jrP (H:Hp) (a:Addr) (y v:V) (H':Hp):Prop:=
 (∃kvs k,H a=some (.dK kvs)/\y=kV k/\kvs.length<sizeLine/\H'=upd H a (.dK (jaB kvs k v))) \/
 ∃kvs k b,H a=some (.dT kvs)/\y=.ref b/\H b=some (.tup (k.map kV))/\kvs.length<sizeLine/\H'=upd H a (.dT (jaB kvs k v))
section
variable {X:Cx} {tf:List (Addr×Obj)} {σ:St} {H:Hp} {s:Shared} {a:Addr} {y v:V} {u r:Value} {o:Option V} {A:Around} {E:Value->Shared->Prop}
theorem Inv.big (I:Inv X tf σ H s):sysModules<s.heap.objs.size:=by have h:mainGlobals<s.heap.objs.size:=(I.mod.glob.keeps I.bk).lt;exact yL (by decide) h
theorem jjO {Q:Value->Shared->Prop} (hu:A.units+1<cLine) (I:Inv X tf σ H s) (g:jgW H a y (some v)) (ry:RelV y u) (h:∀w' s',Inv X tf σ H s'->RelV v w'->Q w' s') :
 wpAny ‹"f"› A (getItem (.ref a) u) Q E s:=by
 rcases g with ⟨kvs,k,e,ey,l⟩ | ⟨kvs,k,b,e,ey,eb,l⟩
 . subst ey;obtain ⟨z,hd,vs,rel,dd⟩:=jag I.hok e;obtain ⟨w',hw,rw'⟩:=RelO.some_of (v:=v) (o:=valueAt vs k) (by rw [l];exact rel.val k);exact wpAny_getItem_of (jdD ry) dd.mapOf hw (h w' _ (I.tok _) rw')
 . subst ey;cases (show u=Value.ref b from ry);obtain ⟨z,hd,xs,rel,dd⟩:=jdu I.hok e;obtain ⟨w',hw,rw'⟩:=RelO.some_of (v:=v) (o:=(atKey xs k).map (·.2)) (by rw [l];exact rel.val k);obtain ⟨p,hp,hp2⟩:=Option.map_eq_some_iff.mp hw;refine wpAny_getItem_heap (Km hu) (ja0 I.hok eb) dd hp ?_;rw [hp2];exact h w' _ (I.tok _) rw'
theorem js2 {Q:Value->Shared->Prop} (hu:A.units+1<cLine) (I:Inv X tf σ H s) (g:jgW H a y o) (ry:RelV y u) (h:∀s',Inv X tf σ H s'->Q (.bool o.isSome) s') :
 wpAny ‹"f"› A (compareOp .In u (.ref a)) Q E s:=by
 rcases g with ⟨kvs,k,e,ey,l⟩ | ⟨kvs,k,b,e,ey,eb,l⟩
 . subst ey;obtain ⟨z,hd,vs,rel,dd⟩:=jag I.hok e;refine wpAny_in_of (jdD ry) hd dd.mapOf ?_;rw [<-(rel.val k).isSome_eq,<- l];exact h _ (I.tok _)
 . subst ey;cases (show u=Value.ref b from ry);obtain ⟨z,hd,xs,rel,dd⟩:=jdu I.hok e;refine wpAny_in_heap (Km hu) (ja0 I.hok eb) hd dd ?_;have q:=(rel.val k).isSome_eq;rw [Option.isSome_map] at q;rw [<-q,<- l];exact h _ (I.tok _)
theorem jnK {Q:Value->Shared->Prop} (hu:A.units+1<cLine) (I:Inv X tf σ H s) (g:jgW H a y o) (ry:RelV y u) (h:∀s',Inv X tf σ H s'->Q (.bool (!o.isSome)) s') :
 wpAny ‹"f"› A (compareOp .NotIn u (.ref a)) Q E s:=by
 rcases g with ⟨kvs,k,e,ey,l⟩ | ⟨kvs,k,b,e,ey,eb,l⟩
 . subst ey;obtain ⟨z,hd,vs,rel,dd⟩:=jag I.hok e;refine wpAny_notIn_of (jdD ry) hd dd.mapOf ?_;rw [<-(rel.val k).isSome_eq,<- l];exact h _ (I.tok _)
 . subst ey;cases (show u=Value.ref b from ry);obtain ⟨z,hd,xs,rel,dd⟩:=jdu I.hok e;refine wpAny_notIn_heap (Km hu) (ja0 I.hok eb) hd dd ?_;have q:=(rel.val k).isSome_eq;rw [Option.isSome_map] at q;rw [<-q,<- l];exact h _ (I.tok _)
theorem jfq {h':Heap} {t':Nat} {ob:HO} (I:Inv X tf σ H s) (mu:Mut (H a)) (hs:Heap.SameBut a s.heap h') (he:∃q,h'.get? a=some q) (new:ObjOk X.prog X.w (upd H a ob) h' a ob) :
 Inv X tf σ (upd H a ob) { s with heap:=h',toks:=t' }:=
 I.write (x:=a) (e:=a) mu (.inl rfl) (fun b q hb z=>(hs.2 b hb).trans z) he new
theorem jhM {P:Program} {w:World} {H':Hp} {h':Heap} {kvs:List (zV×V)} {vs:List (zV×Value)} (z:kvs.length<=sizeLine) (hd:(a == sysModules)=false) (rel:KV kvs vs) (dd:h'.DictOf (qf P w) a vs) :
 ObjOk P w H' h' a (.dK kvs):=⟨z,hd,vs,rel,dd⟩
theorem jjX {H':Hp} {Q:Unit->Shared->Prop} (hu:A.units+1<cLine) (I:Inv X tf σ H s) (g:jrP H a y v H') (ry:RelV y u) (rv:RelV v r) (h:∀s',Inv X tf σ H' s'->Q () s') :
 wpAny ‹"f"› A (setItem (.ref a) u r) Q E s:=by
 rcases g with ⟨kvs,k,e,ey,l,eH⟩ | ⟨kvs,k,b,e,ey,eb,l,eH⟩
 . subst ey eH;obtain ⟨z,hd,vs,rel,dd⟩:=joN I.hok e;have hz:vs.length<=sizeLine:=by rw [<-rel.length];exact z
   have hl:(jaB kvs k v).length<=sizeLine:=by have:=ZX kvs k v;omega
   refine wpAny_setItem_pairs (hsz:=hz) (jdD ry) dd fun h' dd' hs=>h _ ?_;have he:∃q,h'.get? a=some q:=let ⟨q,_,_,hq,_⟩:=dd';⟨q,hq⟩;exact jfq I (by rw [e];exact True.intro) hs he (jhM hl hd (rel.put k rv) dd')
 . subst ey eH;cases (show u=Value.ref b from ry);obtain ⟨z,hd,xs,rel,dd⟩:=jrb I.hok e;have hz:xs.length<=sizeLine:=by rw [<-Paired.length rel];exact z
   have hl:(jaB kvs k v).length<=sizeLine:=by have:=ZX kvs k v;omega
   refine wpAny_setItem_heap (hsz:=hz) (Km hu) (ja0 I.hok eb) dd fun h' dd' hs=>h _ ?_;obtain ⟨q,es,ep,hq,h2,h3,h4,_,h5⟩:=dd';refine jfq I (by rw [e];exact True.intro) hs ⟨q,hq⟩ ⟨hl,hd,_,(rel.put k eb rv).keeps fun c ys ec=>?_,q,es,ep,hq,h2,h3,h4,h5⟩;rw [jF (jrO ec e (fun z=>nomatch z))];exact ec
end
section
variable {X:Cx} {tf:List (Addr×Obj)} {σ:St} {H:Hp} {s:Shared} {a:Addr} {kvs:List (zV×V)} {k:zV} {u:Value} {A:Around} {E:Value->Shared->Prop}
end
def jo3 (i:Expr):Prop:=∀ov iv,subscripted i false ov iv=operate [ov,iv] (getItem ov iv)
theorem jmM {prog:Program} {w:World} {A:Around} {E:Value->Shared->Prop} {s:Shared} {env:Env} {value slice:Expr} {pos:Pos} {T id:String} {Q:Value->Shared->Prop}
 (hl:typeLookup (.type T) "__getitem__"=pure (some (.builtin id))) (hs:jo3 slice)
 (h:wpAny (model prog w) A (eval value env) (fun o s₁=>wpAny (model prog w) A (eval slice env) (fun i s₂=>s₂.TypeIs o T/\wpAny (model prog w) A (getItem o i) Q E s₂) E s₁) E s) :
 wpAny (model prog w) A (eval (.Subscript value slice pos) env) Q E s:=by
 refine Subscript_ (yq h (fun o s₁ h₁=>yq h₁ (fun i s₂ h₂=>?_) fun _ _ x=>x) fun _ _ x=>x);obtain ⟨hT,h₂⟩:=h₂;unfold subscriptTail;refine Yc ?_;rw [getitemInPython_of_ne hT.not_modules];refine Yc (yQ hT hl ?_);have fin:wpAny (model prog w) A (subscripted slice false o i) (fun r s₃=>wpAny (model prog w) A (letTemporaryGo value o r >>= fun _=>pure r) Q E s₃) E s₂:=by rw [hs o i];exact wpAny_operating (yq h₂ (fun r s₃ h₃=>Yc (wpAny_letTemporaryGo (Yk h₃))) fun _ _ x=>x)
 first
  | exact Yk (Yc fin)
  | exact Yc (Yk (Yc fin))
  | exact Yc fin
theorem jhu {X:Cx} {tf:List (Addr×Obj)} {σ:St} {H:Hp} {s:Shared} {a:Addr} {y:V} {o:Option V} (I:Inv X tf σ H s) (g:jgW H a y o):s.TypeIs (.ref a) "dict":=by
 rcases g with ⟨kvs,k,e,_,_⟩ | ⟨kvs,k,b,e,_,_,_⟩
 . obtain ⟨_,_,vs,_,dd⟩:=jag I.hok e;exact dd.typeIs
 . obtain ⟨_,_,xs,_,dd⟩:=jdu I.hok e;exact dd.typeIs
def joq (td ty:TE):TE:=fun σ H Q=>td σ H fun x H1=>ty σ H1 fun y H2=>∃a v,x=.ref a/\jgW H2 a y (some v)/\Q v H2
def jod (td ty tv:TE):TS:=fun D σ H=>tv σ H fun v H1=>td σ H1 fun x H2=>ty σ H2 fun y H3=>∃a H4,x=.ref a/\jrP H3 a y v H4/\D.nx σ H4
section
variable {X:Cx} {o i e value:Expr} {pos pos' tpos:Pos} {td ty tv:TE}
theorem jnZ (hu:X.A.units+1<cLine) (ho:PE X o td) (hi:PE X i ty) (hs:jo3 i):PE X (.Subscript o i pos) (joq td ty):=by intro tf s σ H Q I h;refine jmM PySem.F.slot_dict_getitem.lookup hs (qI (ho tf s σ H _ I h) fun u s1 ⟨x,H1,I1,rx,q1⟩=>qI (hi tf s1 σ H1 _ I1 q1) fun iv s2 zz=>?_);obtain ⟨y,H2,I2,ry,a,v,ex,g,q2⟩:=zz;subst ex;obtain rfl:u=Value.ref a:=rx;exact ⟨jhu I2 g,jjO hu I2 g ry fun w' s3 I3 rw'=>⟨v,H2,I3,rw',q2⟩⟩
theorem jns (hu:X.A.units+1<cLine) (ho:PE X o td) (hi:PE X i ty) (hv:PE X value tv) (hs:swapsWith value (some (.Subscript o i pos')) pos.line X.env=pure false) :
 PS X (.Assign [.Subscript o i pos'] value pos) (jod td ty tv):=by
 intro tf s σ H D I h;refine wpAny_Assign_Subscript (qI (hv tf s σ H _ I h) fun r s1 ⟨v,H1,I1,rv,q1⟩=>qI (ho tf s1 σ H1 _ I1 q1) fun u s2 ⟨x,H2,I2,rx,q2⟩=>qI (hi tf s2 σ H2 _ I2 q2) fun iv s3 zz=>?_) hs;obtain ⟨y,H3,I3,ry,a,H4,ex,g,q3⟩:=zz;subst ex;obtain rfl:u=Value.ref a:=rx;exact jjX hu I3 g ry rv fun s4 I4=>⟨σ,H4,I4,q3⟩
end
theorem jgm {P:Program} {w:World} {H:Hp} (h:Heap) (hb:sysModules<h.objs.size):ObjOk P w H (h.push { cls:=.type "dict",data:=.dict #[] }) h.objs.size (.dK []):=⟨yE _,KJ.mpr (Ne.symm (Yv hb)),[],.nil,Heap.DictOf.new h⟩
def jl5:TE:=fun _ H Q=>∀p,H p=none->Q (.ref p) (upd H p (.dK []))
section
variable {X:Cx} {pos:Pos}
theorem jma:PE X (.Dict [] [] pos) jl5:=fun tf s σ H Q I h=>wpAny_Dict_empty ⟨.ref s.heap.objs.size,_,I.laid (a:=s.heap.objs.size) (o:=.dK []) (t':=s.toks) (fun _ _ q=>Yj _ q) (Ys _) (jgm s.heap I.big),rfl,h _ (I.hok.fresh (Ys _))⟩
end
def jhN:List (TE×TE)->St->Hp->(List (V×V)->Hp->Prop)->Prop
 | [],_,H,Q=>Q [] H
 | (tk,tv)::r,σ,H,Q=>tk σ H fun x H1=>tv σ H1 fun y H2=>jhN r σ H2 fun ps H3=>Q ((x,y)::ps) H3
abbrev VV:List (V×V)->List (Value×Value)->Prop:=Paired fun p q=>RelV p.1 q.1/\RelV p.2 q.2
def PPs (X:Cx) (pos:Pos) (keys:List (Option Expr)) (values:List Expr) (trs:List (TE×TE)):Prop:=
 ∀(tf:List (Addr×Obj)) (s:Shared) (σ:St) (H:Hp) (Q:List (V×V)->Hp->Prop),Inv X tf σ H s->jhN trs σ H Q->
   wpAny ‹"f"› X.A (evalPairs (pairTrees keys values X.env pos)) (fun vs s'=>∃ps H',Inv X tf σ H' s'/\VV ps vs/\Q ps H') X.xe s
theorem jm7 {X:Cx} {pos:Pos}:PPs X pos [] [] []:=fun tf s σ H Q I h=>pairTrees_nil_walk ⟨[],H,I,.nil,h⟩
theorem jmb {X:Cx} {pos:Pos} {k v:Expr} {ks:List (Option Expr)} {vs:List Expr} {tk tv:TE} {trs:List (TE×TE)} (hk:PE X k tk) (hv:PE X v tv) (hr:PPs X pos ks vs trs) :
 PPs X pos (some k::ks) (v::vs) ((tk,tv)::trs):=fun tf s σ H Q I h=>
 pairTrees_cons_walk (qI (hk tf s σ H _ I h) fun u s1 ⟨x,H1,I1,rx,q1⟩=>qI (hv tf s1 σ H1 _ I1 q1) fun w2 s2 ⟨y,H2,I2,ry,q2⟩=>qI (hr tf s2 σ H2 _ I2 q2) fun ws s3 ⟨ps,H3,I3,rel,q3⟩=>⟨(x,y)::ps,H3,I3,.cons ⟨rx,ry⟩ rel,q3⟩)
def jc7 (kvs more:List (zV×V)):List (zV×V):=more.foldl (fun tI kv=>jaB tI kv.1 kv.2) kvs
theorem KV.merge:∀{more:List (zV×V)} {rs:List (zV×Value)} {kvs:List (zV×V)} {vs:List (zV×Value)},KV more rs->KV kvs vs->KV (jc7 kvs more) (merged vs rs):=by
 intro more rs kvs vs r;unfold KV at r;induction r generalizing kvs vs with
 | nil=>intro q;exact q
 | @cons p q ps qs h t ih=>
   intro r0;have e:KV (jaB kvs p.1 p.2) (stored vs q.1 q.2):=by have:=r0.put p.1 h.2;rw [<-h.1];exact this
   exact ih e
theorem jaQ:∀(more kvs:List (zV×V)),(jc7 kvs more).length<=kvs.length+more.length
 | [],kvs=>by show kvs.length<=kvs.length+0;omega
 | p::r,kvs=>by have h1:=jaQ r (jaB kvs p.1 p.2);have h2:=ZX kvs p.1 p.2;show (jc7 (jaB kvs p.1 p.2) r).length<=_;rw [YH];omega
theorem jc8 {P:Program} {w:World}:∀{kvs:List (zV×V)} {ws:List (Value×Value)},VV (kvs.map fun kv=>(kV kv.1,kv.2)) ws->∃rs,Carries (qf P w) ws rs/\KV kvs rs
 | [],_,r=>by rw [yD] at r;cases r;exact ⟨[],True.intro,.nil⟩
 | p::kvs,_,r=>by
   rw [List.map_cons] at r;cases r with
   | @cons a b as bs h t=>obtain ⟨rs,c,q⟩:=jc8 (P:=P) (w:=w) t;obtain ⟨b1,b2⟩:=b;exact ⟨(p.1,b2)::rs,⟨jdD h.1,rfl,c⟩,.cons ⟨rfl,h.2⟩ q⟩
def joJ (trs:List (TE×TE)):TE:=fun σ H Q=>∀p,H p=none->jhN trs σ (upd H p (.dK [])) fun ps H2=>H2 p=some (.dK [])/\∃kvs:List (zV×V),ps=kvs.map (fun kv=>(kV kv.1,kv.2))/\kvs.length<=15/\Q (.ref p) (upd H2 p (.dK (jc7 [] kvs)))
theorem jnG {X:Cx} {pos:Pos} {keys:List (Option Expr)} {values:List Expr} {trs:List (TE×TE)} (h:PPs X pos keys values trs) (hall:keys.all (·.isSome)=true) (hl:keys.length=values.length) (h0:keys≠[])
 (h15:keys.length<=15):PE X (.Dict keys values pos) (joJ trs):=by
 intro tf s σ H Q I q;have hn:=I.hok.fresh (Ys s.heap.objs.size);have I1:=I.laid (a:=s.heap.objs.size) (o:=.dK []) (h':=s.heap.push { cls:=.type "dict",data:=.dict #[] }) (t':=s.toks) (fun _ _ q=>Yj _ q) (Ys _) (jgm s.heap I.big);refine wpAny_Dict_walk (knd:=qf X.prog X.w) hall hl h0 h15 (qI (h tf _ σ _ _ I1 (q _ hn)) fun ws s2 zz=>?_);obtain ⟨ps,H2,I2,rel,e,kvs,ep,lk,q2⟩:=zz;subst ep;obtain ⟨rs,c,rk⟩:=jc8 (P:=X.prog) (w:=X.w) rel;obtain ⟨z,hd,vs0,r0,dd⟩:=joN I2.hok e;cases r0;refine ⟨rs,c,dd,fun h' dd' hs=>⟨.ref s.heap.objs.size,_,?_,rfl,q2⟩⟩;have hz:(jc7 [] kvs).length<=sizeLine:=by have h1:=jaQ kvs [];rw [Y3] at h1;rw [sizeLine_eq];omega
 have he:∃q,h'.get? s.heap.objs.size=some q:=let ⟨q,_,_,hq,_⟩:=dd';⟨q,hq⟩;exact jfq I2 (by rw [e];exact True.intro) hs he (jhM hz hd (rk.merge .nil) dd')
structure M1 (X:Cx) (o:Expr) (m:Str) (apos:Pos) (e:Expr) (cpos:Pos):Prop where
 base:attributeBase o m X.env (eval o X.env)=eval o X.env
 few:((backTo cpos (starEach [e] X.env)).all (fun x=>!x.1) && (backToKw cpos (keywordEach [] X.env)).all (fun x=>x.1.isSome)
  && decide (([e]:List Expr).length+([]:List Keyword).length+(if ([]:List Keyword).isEmpty then 0 else 1)<30))=true
 line:(apos.endLine == cpos.line)=true
 trees:backTo cpos (starEach [e] X.env)=[(false,eval e X.env)]
def IsD (H:Hp) (a:Addr):Prop:=(∃kvs,Rd H a (.dK kvs))\/∃kvs,Rd H a (.dT kvs)
theorem jpc {X:Cx} {tf:List (Addr×Obj)} {σ:St} {H:Hp} {s:Shared} {a:Addr} (I:Inv X tf σ H s) (d:IsD H a) :
 s.TypeIs (.ref a) "dict" ∧ (∀b,Value.ref a=.ref b → ∃ob,s.heap.get? b=some ob ∧ ob.dict=none) ∧ (a == sysModules)=false:=by
 rcases d with ⟨kvs,e⟩ | ⟨kvs,e⟩
 . obtain ⟨_,hd,vs,_,dd⟩:=jag I.hok e;refine ⟨dd.typeIs,fun b q=>?_,hd⟩;cases q;obtain ⟨ob,_,_,h1,h2,_⟩:=dd;exact ⟨ob,h1,h2.2.1⟩
 . obtain ⟨_,hd,xs,_,dd⟩:=jdu I.hok e;refine ⟨dd.typeIs,fun b q=>?_,hd⟩;cases q;obtain ⟨ob,_,_,h1,h2,_⟩:=dd;exact ⟨ob,h1,h2.2.1⟩
section
variable {X:Cx} {tf:List (Addr×Obj)} {σ:St} {H:Hp} {s:Shared} {a:Addr} {y d:V} {u r:Value} {o:Option V} {A:Around} {E:Value->Shared->Prop}
theorem jp0 {Q:Value->Shared->Prop} (hu:A.units+1<cLine) (I:Inv X tf σ H s) (g:jgW H a y o) (ry:RelV y u) (h:∀w' s',Inv X tf σ H s'->RelV (o.getD .non) w'->Q w' s') :
 wpAny ‹"f"› A (call (.builtin "dict.get") [.ref a,u]) Q E s:=by
 rcases g with ⟨kvs,k,e,ey,l⟩ | ⟨kvs,k,b,e,ey,eb,l⟩
 . subst ey;obtain ⟨z,hd,vs,rel,dd⟩:=jag I.hok e;refine call_meetsIn Kp dd.typeIs KU (KQ _ _) (meets_dict_get (qf X.prog X.w) a (jdD ry) hd) ⟨_,dd.mapOf,h _ _ (I.tok _) ?_⟩;rw [l];exact (rel.val k).getD rfl
 . subst ey;cases (show u=Value.ref b from ry);obtain ⟨z,hd,xs,rel,dd⟩:=jdu I.hok e;refine call_meetsIn Kp dd.typeIs KU (KQ _ _) (meetsH_dict_get (tupleKind (qf X.prog X.w)) a b hd) ⟨Km hu,k,xs,ja0 I.hok eb,dd,h _ _ (I.tok _) ?_⟩;rw [l];exact (rel.val k).getD rfl
end
section
variable {X:Cx} {o e f:Expr} {apos cpos:Pos} {td ty tx:TE}
end
section
variable {X:Cx} {tf:List (Addr×Obj)} {σ:St} {H:Hp} {s:Shared} {a:Addr} {kvs:List (zV×V)} {A:Around} {E:Value->Shared->Prop}
theorem jlB {Q:Value → Shared → Prop} (I:Inv X tf σ H s) (e:Rd H a (.dK kvs)) (h:∀p s',H p=none → Inv X tf σ (upd H p (.dK kvs)) s' → Q (.ref p) s'):wpAny ‹"f"› A (call (.type "dict") [.ref a]) Q E s:=by obtain ⟨z,hd,vs,rel,dd⟩:=jag I.hok e;refine kt_call_dict hd dd (by rw [<-rel.length];exact z) fun h' dd' hs=>?_;refine h _ _ (I.hok.fresh (Ys _)) (I.laid (a:=s.heap.objs.size) (o:=.dK kvs) (t':=s.toks) (fun b q hq=>?_) (Ys _) (jhM z (KJ.mpr (Ne.symm (Yv I.big))) rel dd'));exact (hs.2 b (Yv (Yy hq))).trans (Yj _ hq)
end
section
variable {X:Cx} {tf:List (Addr×Obj)} {σ:St} {H:Hp} {s:Shared} {a:Addr} {y:V} {u:Value} {A:Around} {E:Value->Shared->Prop}
end
end L2
namespace L2S
open PySem
def Ris (xs:Array Nat):Prop:=∀i j,i<j->j<xs.size->xs.getD i 0<xs.getD j 0
theorem jdi {xs:Array Nat} {j:Nat} (R:Ris xs):∀(fuel lo hi:Nat),lo<=hi->hi<=xs.size->hi-lo<=fuel->(∀i,i<lo->xs.getD i 0<j)->(∀i,hi<=i->i<xs.size->j<=xs.getD i 0)->
 (SetTable.below.go xs j fuel lo hi<=xs.size)/\(∀i,i<SetTable.below.go xs j fuel lo hi->xs.getD i 0<j)/\(∀i,SetTable.below.go xs j fuel lo hi<=i->i<xs.size->j<=xs.getD i 0)
 | 0,lo,hi,h1,h2,h3,h4,h5=>by
   have:lo=hi:=by omega
   subst this;exact ⟨h2,h4,h5⟩
 | fuel+1,lo,hi,h1,h2,h3,h4,h5=>by
   unfold SetTable.below.go;by_cases hlt:lo<hi
   . rw [if_pos hlt];dsimp only;have hm:(lo+hi)/2<xs.size:=by omega
     have e:xs.getD ((lo+hi)/2) j=xs.getD ((lo+hi)/2) 0:=by simp [Array.getD,hm]
     rw [e];by_cases hc:xs.getD ((lo+hi)/2) 0<j
     . rw [if_pos hc];refine jdi R fuel _ _ (by omega) h2 (by omega) (fun i hi'=>?_) h5;rcases YX i ((lo+hi)/2) with q | q
       . exact yL (R i _ q hm) hc
       . have:i=(lo+hi)/2:=by omega
         subst this;exact hc
     . rw [if_neg hc];refine jdi R fuel _ _ (by omega) (by omega) (by omega) h4 (fun i hi' hs=>?_);rcases YX ((lo+hi)/2) i with q | q
       . exact Y5 (Nat.le_of_not_lt hc) (yM (R _ i q hs))
       . have:i=(lo+hi)/2:=by omega
         subst this;exact Nat.le_of_not_lt hc
   . rw [if_neg hlt];have:lo=hi:=by omega
     subst this;exact ⟨h2,h4,h5⟩
theorem jdJ {xs:Array Nat} {j:Nat} (R:Ris xs):SetTable.below xs j<=xs.size/\(∀i,i<SetTable.below xs j->xs.getD i 0<j)/\(∀i,SetTable.below xs j<=i->i<xs.size->j<=xs.getD i 0):=jdi R xs.size 0 xs.size (yE _) (Ys _) (by omega) (fun i h=>absurd h (Ks _)) fun i h1 h2=>absurd h2 (Nat.not_lt.mpr h1)
theorem jh8 {xs:Array Nat} {i:Nat} (R:Ris xs) (hi:i<xs.size):SetTable.below xs (xs.getD i 0+1)=i+1:=by
 obtain ⟨b1,b2,b3⟩:=jdJ (j:=xs.getD i 0+1) R;rcases Nat.lt_trichotomy (SetTable.below xs (xs.getD i 0+1)) (i+1) with q | q | q
 . have:=b3 i (by omega) hi;omega
 . exact q
 . have:=b2 (i+1) q;have h2:i+1<xs.size:=by omega
   have:=R i (i+1) (by omega) h2;omega
theorem jiq {xs:Array Nat} (R:Ris xs):SetTable.below xs 0=0:=by
 obtain ⟨b1,b2,b3⟩:=jdJ (j:=0) R;rcases Nat.eq_zero_or_pos (SetTable.below xs 0) with q | q
 . exact q
 . have:=b2 0 q;omega
theorem jet {α:Type} (xs:Array α) (p:Nat) (x:α) (hp:p<=xs.size):(SetTable.insertAt xs p x).size=xs.size+1:=by unfold SetTable.insertAt;simp only [Array.size_append,Array.size_push,Array.size_extract];omega
theorem jcO {α:Type} (xs:Array α) (p:Nat) (x:α):(SetTable.insertAt xs p x).toList=xs.toList.take p++[x]++xs.toList.drop p:=by unfold SetTable.insertAt;simp [Array.toList_extract,List.extract];rw [List.take_of_length_le (by simp)]
theorem jaM (xs:Array Nat) (p x i:Nat) (hp:p<=xs.size):(SetTable.insertAt xs p x).getD i 0=if i<p then xs.getD i 0 else if i=p then x else xs.getD (i-1) 0:=by
 have e:=jcO xs p x;have g:∀(ys:Array Nat) (k:Nat),ys.getD k 0=ys.toList.getD k 0:=fun ys k=>by simp [Kw,Yb]
 rw [g,e,g,g];simp only [Yb];have hl:(xs.toList.take p).length=p:=by simp;omega
 split
 . rename_i h;rw [Ke,YC (by omega),List.getElem?_take_of_lt h]
 . split
   . rename_i h1 h2;subst h2;rw [Ke,Yz (by omega)];simp [hl]
   . rename_i h1 h2;rw [Yz (by simp;omega),List.getElem?_drop];simp only [YQ,hl,YH,Y3];rw [show p+(i-(p+(0+1)))=i-1 by omega]
theorem jiz {xs:Array Nat} {j:Nat} (R:Ris xs) (hn:xs[SetTable.below xs j]?≠some j):Ris (SetTable.insertAt xs (SetTable.below xs j) j):=by
 obtain ⟨b1,b2,b3⟩:=jdJ (j:=j) R;generalize SetTable.below xs j=p at *
 intro a b hab hb;rw [jet _ _ _ b1] at hb;rw [jaM _ _ _ _ b1,jaM _ _ _ _ b1];have hp:p<xs.size->j<xs.getD p 0:=fun h=>by
  have h1:=b3 p (Ys _) h;have h2:xs.getD p 0≠j:=fun z=>hn (by rw [YK h];simp [Array.getD,h] at z;rw [z])
  omega
 have mono:∀c,p<=c->c<xs.size->j<xs.getD c 0:=fun c h1 h2=>by
  rcases YX p c with q | q
  . have:=R p c q h2;have:=hp (by omega);omega
  . have:c=p:=by omega
    subst this;exact hp h2
 split <;> split <;> (try split) <;> (try split);all_goals first
  | (rename_i h1 h2;exact R a b hab (by omega))
  | skip
 all_goals first
  | omega
  | (apply R;omega;omega)
  | (rename_i h1 h2 h3;exact b2 a h1)
  | skip
 all_goals first
  | (exact b2 _ (by omega))
  | (exact mono _ (by omega) (by omega))
  | (exact yL (b2 _ (by omega)) (mono _ (by omega) (by omega)))
  | skip
theorem jar (n:Nat):Ris (Array.range n):=by intro i j h1 h2;rw [Array.size_range] at h2;simp [Array.getD,h2,show i<n by omega];exact h1
theorem jcf (f:Nat->Option Nat):∀(l:List Nat),((l.filterMap fun j=>(f j).map (j,·)).map (·.1)).Sublist l
 | []=>by simp
 | a::l=>by
   rw [Ki];cases e:f a with
   | none=>exact (jcf f l).cons a
   | some b=>exact (jcf f l).cons₂ a
theorem jcT {l:List Nat} (h:l.Pairwise (· < ·)):Ris l.toArray:=by
 intro i j h1 h2;have h2':j<l.length:=by simpa using h2
 have:=(KD.mp h) i j (by omega) h2' h1;simp [Array.getD,h2',show i<l.length by omega];exact this
theorem jmr {mask finger moves:Nat} {led plain:Bool} {hs:Array Int} {t:SetTable} {o:Array Nat} (h:SetTable.laid mask finger moves led plain hs=some (t,o)):Ris t.place/\t.led=led/\t.plain=plain:=by
 unfold SetTable.laid at h;cases e:SetTable.layClean mask hs with
 | none=>rw [e] at h;cases h
 | some ow=>rw [e] at h;have h':=Option.some.inj h;have h1:=congrArg (·.1) h';dsimp only at h1;subst h1;refine ⟨?_,rfl,rfl⟩;dsimp only;refine jcT ?_;exact (List.pairwise_lt_range).sublist (jcf (fun j=>ow.getD j none) (List.range (mask+1)))
end L2S
set_option maxHeartbeats 4000000
namespace L2
open PySem PySem.Spec PyProof.Rows
abbrev Qg (h:Heap) (z TI TO a:Addr) (f:Bool):Prop:=h.get? z=some { cls:=.type "zip",dict:=none,data:=.fields #[rawInt a,.bool f,.bool false,.ref TI,.ref TO],slots:=#[] }
section
variable {prog:Program} {w:World} {A:Around} {E:Value->Shared->Prop} {s:Shared}
theorem ltN {h:Heap} {b:Addr} {o:Obj} (e:h.get? b=some o):@LT.lt Nat instLTNat b h.objs.size:=Yy e
theorem jlJ {a:Addr} {o:Obj} {Q:Option Obj->Shared->Prop} (ho:s.heap.get? a=some o) (h:Q (some o) s):wpAny (model prog w) A (loadIfAlive a) Q E s:=by
 have q:Q (s.heap.get? a) s:=by rw [ho];exact h
 exact fun _ _ _=>q
theorem jdo {z TI TO a:Addr} {f:Bool} {oa:Obj} {Q:Bool->Shared->Prop} (hz:Qg s.heap z TI TO a f) (ha:s.heap.get? a=some oa)
 (hQ:∀h',Qg h' z TI TO a true->Heap.SameBut z s.heap h'->Q false { s with heap:=h' }):wpAny (model prog w) A (Builtin.SmallTypes.ownedTupleIsFree (.ref z)) Q E s:=by
 unfold Builtin.SmallTypes.ownedTupleIsFree;refine Yc (K6 hz rfl (x:=rawInt a) rfl ?_);show wpAny _ _ (loadIfAlive ((a:Int).toNat) >>= _) _ _ _;rw [Yq];refine Yc (jlJ ha ?_);simp only [Option.isNone_some,Y0,yx];refine Yc (K6 hz rfl (x:=.bool f) rfl ?_);cases f with
 | true=>rw [if_neg (show ¬((Value.bool true != Value.bool true)=true) from Yh)];exact Yk (hQ s.heap hz (Heap.SameBut.refl _ _))
 | false=>rw [if_pos (show (Value.bool false != Value.bool true)=true from rfl)];refine Yc (yy hz (by simp) fun h' hz' hs'=>?_);exact Yk (hQ h' hz' hs')
theorem jeq {z TI TO i1 i2 l1 l2 a:Addr} {f:Bool} {oa:Obj} {k1 k2:Nat} {xs ys:Array Value} {x y:Value} {Q:Option Value->Shared->Prop} (D:ZipApart z TI TO i1 i2 l1 l2)
 (hz:Qg s.heap z TI TO a f) (ha:s.heap.get? a=some oa) (hTI:IsPair s.heap TI (.ref i1) (.ref i2))
 (h1:s.heap.IsListIter i1 l1 k1) (h2:s.heap.IsListIter i2 l2 k2) (hl1:s.heap.IsList l1 xs) (hl2:s.heap.IsList l2 ys) (hx:xs[k1]?=some x) (hy:ys[k2]?=some y)
 (hQ:∀h',Qg h' z TI TO a true->h'.IsListIter i1 l1 (k1+1)->h'.IsListIter i2 l2 (k2+1)->IsPair h' s.heap.objs.size x y->h'.objs.size=s.heap.objs.size+1->
  (∀c o,c≠z->c≠i1->c≠i2->s.heap.get? c=some o->h'.get? c=some o)->Q (some (.ref s.heap.objs.size)) { s with heap:=h' }) :
 wpAny (model prog w) A (pyNext (.ref z)) Q E s:=by
 have hT:s.TypeIs (.ref z) "zip":=⟨_,hz,rfl⟩;unfold pyNext;refine Yc ‹"ao"›;show wpAny _ _ (field (.ref z) 2 >>= _) _ _ _;refine Yc (K6 hz rfl (x:=.bool false) rfl ?_);show wpAny _ _ (field (.ref z) 3 >>= _) _ _ _;refine Yc (K6 hz rfl (x:=.ref TI) rfl ?_);refine Yc (KB hTI rfl ?_);show wpAny _ _ (Builtin.SmallTypes.ownedTupleIsFree (.ref z) >>= _) _ _ _;refine Yc (jdo hz ha fun g1 hz1 s1=>?_);simp only [Y0,yx];rw [<-Array.forIn_toList];simp only [List.forIn_cons,List.forIn_nil];refine Yc (Yc (Yc (yn ?_)));show wpAny _ _ (Builtin.SmallTypes.nextOf (.ref i1) >>= _) _ _ _;refine Yc ‹"aY"›;refine Yc (Yc (yn ?_));show wpAny _ _ (Builtin.SmallTypes.nextOf (.ref i2) >>= _) _ _ _;refine Yc (KS ((h2.extBut s1.extBut D.i2z).extBut s2.extBut D.i12.symm) ((hl2.extBut s1.extBut D.l2z).extBut s2.extBut D.l2i1) hy fun g3 p3 s3=>Yk (Yk (Yk ?_)));dsimp only;refine Yc (wpAny_newTuple (hsz:=by show 2<=sizeLine;decide) ?_);have hsz:g3.objs.size=s.heap.objs.size:=by rw [s3.1,s2.1,s1.1]
 have hz3:Qg g3 z TI TO a true:=s3.extBut _ _ D.i2z.symm (s2.extBut _ _ D.i1z.symm hz1);refine Yk ⟨_,rfl,Yk ?_⟩;show Q (some (.ref g3.objs.size)) _;rw [hsz];refine hQ _ (Yj _ hz3) ((p2.extBut s3.extBut D.i12).at fun o e=>Yj _ e) (p3.at fun o e=>Yj _ e) ?_ (by rw [yi,hsz]) fun c o c1 c2 c3 e=>Yj _ (s3.extBut _ _ c3 (s2.extBut _ _ c2 (s1.extBut _ _ c1 e)));rw [<-hsz];exact YA _ rfl
theorem jf9 {z TI TO i1 i2 l1 l2 a:Addr} {f:Bool} {oa:Obj} {k1 k2:Nat} {xs ys:Array Value} {Q:Option Value->Shared->Prop} (hh:A.handled=none) (D:ZipApart z TI TO i1 i2 l1 l2)
 (hz:Qg s.heap z TI TO a f) (ha:s.heap.get? a=some oa) (hTI:IsPair s.heap TI (.ref i1) (.ref i2))
 (h1:s.heap.IsListIter i1 l1 k1) (h2:s.heap.IsListIter i2 l2 k2) (hl1:s.heap.IsList l1 xs) (hl2:s.heap.IsList l2 ys) (hend:xs[k1]?=none\/ys[k2]?=none)
 (hQ:∀h',(∀c o,c≠z->c≠i1->c≠i2->s.heap.get? c=some o->h'.get? c=some o)->Q none { s with heap:=h' }):wpAny (model prog w) A (pyNext (.ref z)) Q E s:=by
 have hT:s.TypeIs (.ref z) "zip":=⟨_,hz,rfl⟩;have stop:∀(h':Heap) (e:Addr),(∀c o,c≠z → c≠i1 → c≠i2 → s.heap.get? c=some o → h'.get? c=some o) → (∃o,h'.get? e=some o ∧ o.cls=.type "StopIteration") →
  wpAny (model prog w) A (do let b ← isInstance (.ref e) (.type "StopIteration");if b=true then pure none else throw (.ref e)) Q E { s with heap:=h' }:=by
  rintro h' e hk ⟨o,ho,hc⟩;refine Yc (K2 (T := "StopIteration") (b:=true) ⟨o,ho,hc⟩ isSubtype_stop ?_);exact Yk (hQ _ hk)
 unfold pyNext;refine Yc ‹"ao"›;show wpAny _ _ (field (.ref z) 2 >>= _) _ _ _;refine Yc (K6 hz rfl (x:=.bool false) rfl ?_);show wpAny _ _ (field (.ref z) 3 >>= _) _ _ _;refine Yc (K6 hz rfl (x:=.ref TI) rfl ?_);refine Yc (KB hTI rfl ?_);show wpAny _ _ (Builtin.SmallTypes.ownedTupleIsFree (.ref z) >>= _) _ _ _;refine Yc (jdo hz ha fun g1 hz1 s1=>?_);simp only [Y0,yx];rw [<-Array.forIn_toList];simp only [List.forIn_cons,List.forIn_nil];refine Yc (Yc (Yc (yn ?_)));show wpAny _ _ (Builtin.SmallTypes.nextOf (.ref i1) >>= _) _ _ _;cases hx:xs[k1]? with
 | none=>exact Yc (wpAny_nextOf_list_end hh (h1.extBut s1.extBut D.i1z) (hl1.extBut s1.extBut D.l1z) hx fun g2 e s2 he=>stop g2 e (fun c o c1 c2 c3 q=>s2 _ _ c2 (s1.extBut _ _ c1 q)) he)
 | some x=>
   have hy:ys[k2]?=none:=by
    rcases hend with q | q
    . rw [hx] at q;cases q
    . exact q
   refine Yc ‹"aY"›;refine Yc (Yc (yn ?_));show wpAny _ _ (Builtin.SmallTypes.nextOf (.ref i2) >>= _) _ _ _;exact Yc (wpAny_nextOf_list_end hh ((h2.extBut s1.extBut D.i2z).extBut s2.extBut D.i12.symm) ((hl2.extBut s1.extBut D.l2z).extBut s2.extBut D.l2i1) hy fun g3 e s3 he=>stop g3 e (fun c o c1 c2 c3 q=>s3 _ _ c3 (s2.extBut _ _ c2 (s1.extBut _ _ c1 q))) he)
theorem jcr {R:Result->Shared->Prop} {S I:Addr} {res:Value} (St:Nat->Array Value->Shared->Prop)
 (turn:∀n tI s,St n tI s->tI.size<sizeLine/\wpAny (model prog w) A.in1 (pyNext (.ref I)) (fun r s'=>match r with
  | none=>R (.ok (.ret res)) s'
  | some v=>(∃c,s'.heap.get? S=some { cls:=.type "list",data:=.seq tI c }) ∧
      ∀h' c',h'.get? S=some { cls:=.type "list",data:=.seq (tI.push v) c' } → Heap.SameBut S s'.heap h' → ∃m,m<n ∧ St m (tI.push v) { s' with heap:=h' }) (fun e s'=>R (.error e) s') s) :
 ∀n tI s,St n tI s → codeAny (model prog w) A (.builtin "list.extend.loop" ⟨[.ref S,.ref I,res],[]⟩) R s:=by
 intro n;induction n using Nat.strongRecOn with
 | ind n ih=>
   intro tI s hs;obtain ⟨hz,t⟩:=turn n tI s hs;refine Kc F.entry_extend_loop ?_;rw [yJ kc _];show wpAny _ A.in1 (pyNext (.ref I) >>= _) _ _ s;refine Yc (yq t (fun r s' q=>?_) fun _ _ q=>q);cases r with
   | none=>exact Yk q
   | some v=>obtain ⟨⟨c,e⟩,q⟩:=q;show wpAny _ A.in1 (updateSeq S (·.push v) >>= _) _ _ _;refine Yc ?_;refine yF e rfl (Yk ⟨yU kc _,?_⟩) (by omega) (by show (tI.push v).size<=sizeLine+1;rw [Array.size_push];omega);have e2:=YZ (Obj.mapSeq (·.push v)) e rfl;obtain ⟨m,hm,hs'⟩:=q _ _ e2 (Heap.SameBut.update ..);exact ih m hm _ _ hs'
theorem jio:typeLookup (.type "zip") "__len__"=pure none:=by rw [KO,yV];kernel_rfl
theorem jgy:typeLookup (.type "zip") "__length_hint__"=pure none:=by rw [KO,yV];kernel_rfl
theorem jmB {z TI TO:Addr} {f0:Value} {Q:Bool->Shared->Prop} (hz:IsZip s.heap z TI TO f0) (h:Q true s):wpAny (model prog w) A (Builtin.List.listLengthHint (.ref z)) Q E s:=by have hT:s.TypeIs (.ref z) "zip":=⟨_,hz,rfl⟩;unfold Builtin.List.listLengthHint;refine Yc (yQ hT jio ?_);show wpAny _ _ (specialOf (Value.ref z) (Str.ofString "__length_hint__") >>= _) _ _ s;refine Yc (yQ hT jgy ?_);exact Yk h
structure ZipMade (h₀ h:Heap) (S z TO i1 i2:Addr) (xs ys tI:Array Value) (i:Nat):Prop where
 size:tI.size=i
 pair:∀j,j<i->∃T x y,tI[j]?=some (.ref T)/\xs[j]?=some x/\ys[j]?=some y/\IsPair h T x y/\h₀.objs.size<=T/\T≠S/\(T≠z/\T≠TO/\T≠i1/\T≠i2)/\∀k,k<j->tI[k]?≠some (.ref T)
 keep:∀b o,h₀.get? b=some o->h.get? b=some o
theorem jld {z TI TO i1 i2 l1 l2:Addr} {xs ys:Array Value} {h₀:Heap} {Q:Value->Shared->Prop} (hh:A.handled=none) (D:ZipApart z TI TO i1 i2 l1 l2)
 (hz:IsZip s.heap z TI TO .none) (hTI:IsPair s.heap TI (.ref i1) (.ref i2)) (hTO:∃a b,IsPair s.heap TO a b) (h1:s.heap.IsListIter i1 l1 0) (h2:s.heap.IsListIter i2 l2 0) (hl1:h₀.IsList l1 xs) (hl2:h₀.IsList l2 ys)
 (hk:∀b o,h₀.get? b=some o->s.heap.get? b=some o) (hge:h₀.objs.size<=z/\h₀.objs.size<=TO/\h₀.objs.size<=i1/\h₀.objs.size<=i2) (hle:h₀.objs.size<=s.heap.objs.size) (hn:xs.size<sizeLine)
 (hQ:∀S h' tI c,h₀.objs.size ≤ S → h'.get? S=some { cls:=.type "list",data:=.seq tI c } → ZipMade h₀ h' S z TO i1 i2 xs ys tI (min xs.size ys.size) → Q (.ref S) { s with heap:=h' }) :
 wpAny (model prog w) A (call (.type "list") [.ref z]) Q E s:=by
 refine callType_codes (Q₁:=fun obj s₁=>obj=.ref s.heap.objs.size ∧ s₁={ s with heap:=s.heap.push { cls:=.type "list",data:=.seq #[] } }) F.called_list (F.typeCall_list_1 _) F.entry_list_init (code_list_new _ ⟨rfl,rfl⟩) fun obj s₁ e₁=>?_;obtain ⟨rfl,rfl⟩:=e₁;generalize hSd:s.heap.objs.size=S at *
 have hS:(s.heap.push { cls:=.type "list",data:=.seq #[] }).get? S=some { cls:=.type "list",data:=.seq #[] }:=by rw [← hSd];exact YA _ rfl
 refine ⟨⟨_,hS,rfl⟩,F.args_list_init_2 _ _,?_⟩;generalize hG:s.heap.push { cls:=.type "list",data:=.seq #[] }=G at *
 have up:∀b o,s.heap.get? b=some o->G.get? b=some o:=fun b o e=>by rw [<-hG];exact Yj _ e
 have nS:∀b o,s.heap.get? b=some o->b≠S:=fun b o e=>by rw [<-hSd];exact Yv (Yy e)
 obtain ⟨ta,tb,hTO⟩:=hTO;obtain ⟨oi1,ei1,_⟩:=id h1;obtain ⟨oi2,ei2,_⟩:=id h2;have zS:=nS _ _ hz;have i1S:=nS _ _ ei1;have i2S:=nS _ _ ei2;have TIS:=nS _ _ hTI;have TOS:=nS _ _ hTO;have zl:z<S:=by have q:=ltN hz;rw [hSd] at q;exact q
 have TOl:TO<S:=by have q:=ltN hTO;rw [hSd] at q;exact q
 have i1l:i1<S:=by have q:=ltN ei1;rw [hSd] at q;exact q
 have i2l:i2<S:=by have q:=ltN ei2;rw [hSd] at q;exact q
 -- the list is emptied, then filled
 show wpAny _ _ (do let old <- Builtin.List.listItems (.ref S);Builtin.List.listUpdate (.ref S) (fun _=>#[]);letGo old.toList.reverse;Builtin.List.listExtendWith (.ref S) (.ref z) .none) _ _ _;refine Yc ?_;unfold Builtin.List.listItems;refine Yc (KB hS rfl (Yk ?_));show wpAny _ _ (updateSeq S (fun _=>#[]) >>= fun _=>letGo (#[]:Array Value).toList.reverse >>= fun _=>Builtin.List.listExtendWith (.ref S) (.ref z) .none) _ _ _;refine Yc (yF hS rfl ?_);have hS2:=YZ (Obj.mapSeq (fun _=>(#[]:Array Value))) hS rfl;refine Yc (wpAny_letGo ?_);have sb1:Heap.SameBut S G (G.update S ‹"aV"›):=Heap.SameBut.update ..
 generalize G.update S ‹"aV"›=G1 at hS2 sb1 ⊢;have up1:∀b o,s.heap.get? b=some o->G1.get? b=some o:=fun b o e=>sb1.extBut b o (nS b o e) (up b o e);unfold Builtin.List.listExtendWith;refine Yc (wpAny_typeOf (T := "zip") ⟨_,up1 _ _ hz,rfl⟩ ?_);have hsr:Builtin.List.listSameRef (.ref S) (.ref z)=false:=by simp [Builtin.List.listSameRef,Ne.symm zS]
 have t1:(Value.type "zip" == Value.type "list")=false:=by decide
 have t2:(Value.type "zip" == Value.type "tuple")=false:=by decide
 simp only [hsr,t1,t2,Bool.or_false,Y0,yx];refine Yc (wpAny_pyIter_zip (up1 _ _ hz) ?_);refine Yc (yn (jmB (up1 _ _ hz) ?_));simp only [Bool.true_or,yo];refine Yc (wpAny_rule ?_);refine Yc ?_;show wpAny _ _ (updateSeq S (·.push .none) >>= fun _=>updateSeq S (·.pop)) _ _ _;refine Yc (yF hS2 rfl ?_);have hS3:=YZ (Obj.mapSeq (·.push Value.none)) hS2 rfl;have sb2:Heap.SameBut S G1 (G1.update S (Obj.mapSeq (·.push Value.none))):=Heap.SameBut.update ..
 generalize G1.update S (Obj.mapSeq (·.push Value.none))=G2 at hS3 sb2 ⊢;refine yF (hz:=by seq_fits) hS3 rfl ?_;have hS4:=YZ (Obj.mapSeq (·.pop)) hS3 rfl;have sb3:Heap.SameBut S G2 (G2.update S (Obj.mapSeq (·.pop))):=Heap.SameBut.update ..
 generalize G2.update S (Obj.mapSeq (·.pop))=G3 at hS4 sb3 ⊢;have up3:∀b o,s.heap.get? b=some o->G3.get? b=some o:=fun b o e=>sb3.extBut b o (nS b o e) (sb2.extBut b o (nS b o e) (up1 b o e));refine Yk ⟨yU kc _,?_⟩;refine jcr (fun n tI s'=>∃(i c:Nat) (h:Heap),s'={ s with heap:=h } ∧ n=xs.size+1-i ∧ i ≤ xs.size ∧ i ≤ ys.size ∧ ZipMade h₀ h S z TO i1 i2 xs ys tI i ∧ h.get? S=some { cls:=.type "list",data:=.seq tI c } ∧ IsPair h TI (.ref i1) (.ref i2) ∧
  h.IsListIter i1 l1 i/\h.IsListIter i2 l2 i/\h₀.objs.size<=h.objs.size/\((IsZip h z TI TO .none/\∃a b,IsPair h TO a b)\/∃a f oa,Qg h z TI TO a f/\h.get? a=some oa/\a≠z/\a≠i1/\a≠i2/\a≠S)) ?_ (xs.size+1) #[] _
  ⟨0,_,G3,rfl,by omega,yE _,yE _,⟨rfl,fun j hj=>absurd hj (Ks _),fun b o e=>up3 b o (hk b o e)⟩,hS4,up3 _ _ hTI,h1.at fun o e=>up3 _ o e,h2.at fun o e=>up3 _ o e,
   by rw [sb3.1,sb2.1,sb1.1,<- hG,yi];omega,.inl ⟨up3 _ _ hz,_,_,up3 _ _ hTO⟩⟩
 rintro n tI s' ⟨i,c,h,rfl,rfl,hix,hiy,M,hSl,pTI,p1,p2,hsz,zs⟩;have hb0:∀{b:Addr} {o:Obj},h₀.get? b=some o->b≠z/\b≠TO/\b≠i1/\b≠i2/\b≠S:=fun {b o} e=>by have q:=ltN e;exact ⟨Yv (Yn q hge.1),Yv (Yn q hge.2.1),Yv (Yn q hge.2.2.1),Yv (Yn q hge.2.2.2),Yv (Yn q hle)⟩
 have hl1':h.IsList l1 xs:=hl1.at fun o e=>M.keep _ o e;have hl2':h.IsList l2 ys:=hl2.at fun o e=>M.keep _ o e;obtain ⟨ol1,el1,_⟩:=id hl1;obtain ⟨ol2,el2,_⟩:=id hl2;refine ⟨by rw [M.size];omega,?_⟩;have ltS:S<h.objs.size:=ltN hSl
 -- behind a pair
 have next:∀(h':Heap) (x y:Value) (a:Addr) (f:Bool) (oa:Obj),xs[i]?=some x->ys[i]?=some y->IsPair h' h.objs.size x y->h'.objs.size=h.objs.size+1->Qg h' z TI TO a f->h'.get? a=some oa->a≠z->a≠i1->a≠i2->a≠S->
  h'.IsListIter i1 l1 (i+1)->h'.IsListIter i2 l2 (i+1)->(∀c o,c≠z->c≠TO->c≠i1->c≠i2->h.get? c=some o->h'.get? c=some o)->
  (∃c,h'.get? S=some { cls:=.type "list",data:=.seq tI c }) ∧
  ∀h'' c',h''.get? S=some { cls:=.type "list",data:=.seq (tI.push (.ref h.objs.size)) c' } → Heap.SameBut S h' h'' → ∃m,m<xs.size+1-i ∧ ∃(i' c:Nat) (g:Heap),({ s with heap:=h'' }:Shared)={ s with heap:=g } ∧ m=xs.size+1-i' ∧ i' ≤ xs.size ∧ i' ≤ ys.size ∧ ZipMade h₀ g S z TO i1 i2 xs ys (tI.push (.ref h.objs.size)) i' ∧
    g.get? S=some { cls:=.type "list",data:=.seq (tI.push (.ref h.objs.size)) c } ∧ IsPair g TI (.ref i1) (.ref i2) ∧ g.IsListIter i1 l1 i' ∧ g.IsListIter i2 l2 i' ∧ h₀.objs.size ≤ g.objs.size ∧
    ((IsZip g z TI TO .none/\∃a b,IsPair g TO a b)\/∃a f oa,Qg g z TI TO a f/\g.get? a=some oa/\a≠z/\a≠i1/\a≠i2/\a≠S):=by
  intro h' x y a f oa hx hy pT hs' zh ea az a1 a2 aS q1 q2 kk;have hxl:i<xs.size:=by
   rcases YX i xs.size with q | q
   . exact q
   . rw [yr q] at hx;cases hx
  have hyl:i<ys.size:=by
   rcases YX i ys.size with q | q
   . exact q
   . rw [yr q] at hy;cases hy
  have TS:h.objs.size≠S:=yp ltS;refine ⟨⟨c,kk _ _ (Ne.symm zS) (Ne.symm TOS) (Ne.symm i1S) (Ne.symm i2S) hSl⟩,fun h'' c' eS sb=>⟨xs.size+1-(i+1),by omega,i+1,c',h'',rfl,rfl,hxl,hyl,⟨by rw [Array.size_push,M.size],fun j hj=>?_,fun b o e=>?_⟩,eS,sb.extBut _ _ TIS (kk _ _ D.TIz D.TITO D.TIi1 D.TIi2 pTI),q1.extBut sb.extBut i1S,q2.extBut sb.extBut i2S,by rw [sb.1];omega,
   .inr ⟨a,f,oa,sb.extBut _ _ zS zh,sb.extBut _ _ aS ea,az,a1,a2,aS⟩⟩⟩
  . rcases YX j i with q | q
    . obtain ⟨T',x',y',e1,e2,e3,e4,e5,e6,e8,e7⟩:=M.pair j q;have hT':=ltN e4;refine ⟨T',x',y',by rw [KM,if_neg (by rw [M.size];omega)];exact e1,e2,e3,?_,e5,e6,e8,fun k hk'=>by rw [KM,if_neg (by rw [M.size];omega)];exact e7 k hk'⟩;obtain ⟨t1',t2',t3',t4'⟩:=e8;exact sb.extBut _ _ e6 (kk _ _ t1' t2' t3' t4' e4)
    . have e:j=i:=by omega
      subst e;refine ⟨h.objs.size,x,y,by rw [KM,if_pos M.size.symm],hx,hy,sb.extBut _ _ TS pT,hsz,TS,⟨yp (yL zl ltS),yp (yL TOl ltS),yp (yL i1l ltS),yp (yL i2l ltS)⟩,fun k hk'=>?_⟩;obtain ⟨T',x',y',e1,e2,e3,e4,e5,e6,e8,e7⟩:=M.pair k hk';have hT':=ltN e4;rw [KM,if_neg (by rw [M.size];omega),e1];intro z';have:T'=h.objs.size:=by injection z' with z';injection z'
      exact absurd this (Yv hT')
  . obtain ⟨b1,b2,b3,b4,b5⟩:=hb0 e;exact sb.extBut _ _ b5 (kk _ _ b1 b2 b3 b4 (M.keep b o e))
 have none_of:¬(i<xs.size/\i<ys.size)->(xs[i]?=none\/ys[i]?=none)/\i=min xs.size ys.size:=fun q=>by
  refine ⟨?_,by omega⟩;rcases YX i xs.size with q1 | q1
  . exact .inr (yr (by omega))
  . exact .inl (yr q1)
 by_cases hij:i<xs.size/\i<ys.size
 . have hx:=YK hij.1;have hy:=YK hij.2;rcases zs with ⟨zf,ta',tb',pTO⟩ | ⟨a,f,oa,zh,ea,az,a1,a2,aS⟩
   . refine wpAny_pyNext_zip_item D zf pTI pTO p1 p2 hl1' hl2' hx hy fun h' r1 r2 r3 r4 r5 r6 r7=>?_;exact next h' _ _ _ false _ hx hy r5 r6 r1 r5 (yp (yL zl ltS)) (yp (yL i1l ltS)) (yp (yL i2l ltS)) (yp ltS) r3 r4 r7
   . refine jeq D zh ea pTI p1 p2 hl1' hl2' hx hy fun h' r1 r3 r4 r5 r6 r7=>?_;exact next h' _ _ a true oa hx hy r5 r6 r1 (r7 _ _ az a1 a2 ea) az a1 a2 aS r3 r4 fun c o c1 _ c3 c4 e=>r7 c o c1 c3 c4 e
 . obtain ⟨he,hm⟩:=none_of hij;have fin:∀h':Heap,(∀c o,c≠z->c≠TO->c≠i1->c≠i2->h.get? c=some o->h'.get? c=some o)->wants (fun r s₂=>r=Value.none/\Q (.ref S) s₂) E (.ok (.ret .none)) { s with heap:=h' }:=fun h' kk=>by
    refine ⟨rfl,hQ S h' tI c hle (kk _ _ (Ne.symm zS) (Ne.symm TOS) (Ne.symm i1S) (Ne.symm i2S) hSl) ⟨by rw [M.size,hm],fun j hj=>?_,fun b o e=>?_⟩⟩
    . obtain ⟨T',x',y',e1,e2,e3,e4,e5,e6,e8,e7⟩:=M.pair j (by omega);exact ⟨T',x',y',e1,e2,e3,kk _ _ e8.1 e8.2.1 e8.2.2.1 e8.2.2.2 e4,e5,e6,e8,e7⟩
    . obtain ⟨b1,b2,b3,b4,b5⟩:=hb0 e;exact kk _ _ b1 b2 b3 b4 (M.keep b o e)
   rcases zs with ⟨zf,ta',tb',pTO⟩ | ⟨a,f,oa,zh,ea,az,a1,a2,aS⟩
   . exact wpAny_pyNext_zip_end hh D zf pTI pTO p1 p2 hl1' hl2' he fun h' kk=>fin h' kk
   . exact jf9 hh D zh ea pTI p1 p2 hl1' hl2' he fun h' kk=>fin h' fun c o c1 _ c3 c4 e=>kk c o c1 c3 c4 e
end
end L2
namespace L2S
open PySem PySem.Spec PyProof.Rows
def jbM (t:SetTable) (j:Nat):Prop:=t.place[SetTable.below t.place j]?≠some j
theorem jdH {t:SetTable} {j:Nat} (h:∀i,t.slot j≠.live i):jbM t j:=by intro q;refine h (SetTable.below t.place j) ?_;unfold SetTable.slot;simp [q]
theorem jbd {t:SetTable} {f:Nat->Int} {h:Int}:∀(fuel:Nat) (p:SetTable.Probe) (j:Nat) (d:Option Nat),(∀x,p.dummy=some x->jbM t x)->SetTable.probe.go t f h fuel p=some (.empty j d)->jbM t j/\∀x,d=some x->jbM t x
 | 0,p,j,d,_,e=>by unfold SetTable.probe.go at e;cases e
 | fuel+1,p,j,d,hp,e=>by
   unfold SetTable.probe.go at e;have adv:∀q:SetTable.Probe,(t.advance q).dummy=q.dummy:=fun q=>by unfold SetTable.advance;split <;> rfl
   cases hs:t.slot p.j with
   | empty=>rw [hs] at e;have e':=Option.some.inj e;injection e' with e1 e2;subst e1 e2;exact ⟨jdH (fun i z=>by rw [hs] at z;cases z),hp⟩
   | dummy=>rw [hs] at e;refine jbd fuel _ j d (fun x hx=>?_) e;rw [adv] at hx;have hx':p.j=x:=Option.some.inj hx;subst hx';exact jdH fun i z=>by rw [hs] at z;cases z
   | live i=>
     rw [hs] at e;dsimp only at e;split at e
     . cases e
     . exact jbd fuel _ j d (fun x hx=>by rw [adv] at hx;exact hp x hx) e
theorem jgE {t:SetTable} {h:Int} {j:Nat} {b:Bool} (e:t.freeSlot h=some (j,b)):jbM t j:=by
 unfold SetTable.freeSlot at e;split at e
 . rename_i j' d hp;have q:=jbd _ _ _ _ (fun x hx=>by cases hx) hp;have e':=congrArg Prod.fst (Option.some.inj e);dsimp only at e';subst e';cases d with
   | none=>exact q.1
   | some x=>exact q.2 x rfl
 . cases e
theorem jhS {t:SetTable} (es:Array (Int×Value)) (h:Int) (x:Value) (R:Ris t.place):Ris (layNew t es h x).2.1.place/\(layNew t es h x).2.1.led=t.led:=by
 unfold layNew;split
 . rename_i j wd e;dsimp only;unfold SetTable.orStandIn;split
   . exact ⟨jiz R (jgE e),rfl⟩
   . exact ⟨jar _,rfl⟩
 . exact ⟨jar _,rfl⟩
theorem jfE {t:SetTable} (es:Array (Int×Value)) (n:Nat):Ris (relayAll t es n).2.1.place/\(relayAll t es n).2.1.led=t.led:=by
 unfold relayAll;split
 . rename_i t' o e;dsimp only;split
   . have q:=jmr e;exact ⟨q.1,q.2.1⟩
   . exact ⟨jar _,rfl⟩
 . exact ⟨jar _,rfl⟩
theorem ja2 {α:Type}:∀{l:List α} {i:Nat} (h:i<l.length),(l[i]::l.eraseIdx i).Perm l
 | a::l,0,_=>.rfl
 | a::l,i+1,h=>by have ih:=ja2 (l:=l) (i:=i) (by simpa using h);rw [List.eraseIdx_cons_succ,List.getElem_cons_succ];exact (List.Perm.swap _ _ _).trans (ih.cons a)
theorem jiZ {α:Type} (next:Nat->Nat):∀(fuel k:Nat) (left:List α) (out:Array α),left.length<=fuel->(pickOrder.go next fuel k left out).toList.Perm (out.toList++left)
 | 0,k,left,out,h=>by have:left=[]:=List.length_eq_zero_iff.mp (by omega);subst this;unfold pickOrder.go;simp
 | fuel+1,k,left,out,h=>by
   unfold pickOrder.go;cases left with
   | nil=>simp
   | cons a l=>
     have hlt:next k%(a::l).length<(a::l).length:=Nat.mod_lt _ (by simp)
     rw [Ya hlt];dsimp only;refine (jiZ next fuel (k+1) _ _ ?_).trans ?_
     . rw [List.length_eraseIdx_of_lt hlt];simp at h ⊢;omega
     . rw [Array.toList_push,Ke];refine List.Perm.append_left _ ?_;exact (ja2 hlt)
theorem jky {α:Type} (next:Nat->Nat) (xs:Array α):(pickOrder next xs).toList.Perm xs.toList:=by
 have:=jiZ next xs.size 0 xs.toList #[] (by simp)
 simpa [pickOrder] using this
section
variable {prog:Program} {w:World} {A:Around} {E:Value->Shared->Prop} {s:Shared}
theorem jjQ {src:Source} {n:Nat} {Q:Nat->Shared->Prop} (hn:n≠0) (h:∀i d,i<n->Q i { s with drawn:=d }):wpAny (model prog w) A (choose src n) Q E s:=fun _ _ _=>⟨hn,h _ _ (Nat.mod_lt _ (Nat.pos_of_ne_zero hn))⟩
theorem jiF {α:Type}:∀(n:Nat) (xs:List α) (s:Shared) {Q:List α->Shared->Prop},n=xs.length->(∀ys d,ys.Perm xs->Q ys { s with drawn:=d })->wpAny (model prog w) A (drawOrder n xs) Q E s
 | 0,xs,s,Q,hn,h=>by have:xs=[]:=List.length_eq_zero_iff.mp hn.symm;subst this;unfold drawOrder;exact Yk (h [] s.drawn .rfl)
 | n+1,[],s,Q,hn,h=>by simp at hn
 | n+1,x::xs,s,Q,hn,h=>by unfold drawOrder;refine Yc (jjQ (by simp) fun i d hi=>?_);rw [Ya hi];dsimp only;refine Yc (jiF n ((x::xs).eraseIdx i) _ (by rw [List.length_eraseIdx_of_lt hi];omega) fun ys d' hp=>Yk ?_);exact h _ d' (((List.Perm.cons _ hp)).trans (ja2 hi))
def jfo:Value->Int
 | .int k _=>k
 | _=>0
def jaC (prog:Program) (w:World) (h:Heap) (a:Addr) (ns:List Int):Prop:=
 ∃o es ep t,h.get? a=some o/\o.ExactSet/\o.data=.set es ep t/\ElemsOf ‹"af"› es.toList/\(∀k,k∈ns ↔ ∃e∈es.toList,‹"af"›.is k e.2=true)/\t.fits es.size=true/\es.size<=ns.length /\
   (es.toList.map fun e=>jfo e.2).Nodup ∧ Ris t.place ∧ (w.params.followText "set-order"=false → t.led=true)
theorem jbL {es:List (Int×Value)} (h:ElemsOf ‹"af"› es) {e:Int×Value} (he:e∈es):∃k t,e.2=.int k t:=by obtain ⟨⟨k,hk,_⟩,_⟩:=h e he;obtain ⟨t,q⟩:=Value.isInt_shape (k:=k) (v:=e.2) hk;exact ⟨k,t,q⟩
theorem is_int {k j:Int} {t:Tok}:‹"af"›.is k (.int j t)=true ↔ k=j:=by
 constructor
 . intro h;obtain ⟨t',e⟩:=Value.isInt_shape (k:=k) (v:=.int j t) h;injection e with e1 _;exact e1.symm
 . rintro rfl;exact intKind_is _ _ _ _
theorem jiU {b:Bool} {Q:Unit → Shared → Prop} (h:Q () s):wpAny (model prog w) A (match b with | true=>rule "set.scan.the-table-gave-way" | false=>pure ()) Q E s:=by
 cases b
 . exact Yk h
 . exact wpAny_rule h
theorem stored {a:Addr} {o:Obj} {es es':Array (Int×Value)} {ep:Nat} {t t':SetTable} {ns:List Int} {h:Heap} (ho:h.get? a=some o) (hex:o.ExactSet) (hd:o.data=.set es ep t) (h1:ElemsOf ‹"af"› es'.toList)
 (h2:∀k,k∈ns ↔ ∃e∈es'.toList,‹"af"›.is k e.2=true) (h3:t'.fits es'.size=true) (h4:es'.size ≤ ns.length) (h5:(es'.toList.map fun e=>jfo e.2).Nodup) (h6:Ris t'.place) (h7:w.params.followText "set-order"=false → t'.led=true) :
 (h.update a (Obj.putSet es' t')).get? a=some { o with data:=.set es' (ep+1) t' }/\jaC prog w (h.update a (Obj.putSet es' t')) a ns:=by
 have e:(h.update a (Obj.putSet es' t')).get? a=some { o with data:=.set es' (ep+1) t' }:=by
  have q:=YZ (Obj.putSet es' t') ho (by rw [putSet_of es' t' hd];rfl)
  rwa [putSet_of es' t' hd] at q
 exact ⟨e,_,es',ep+1,t',e,hex,rfl,h1,h2,h3,h4,h5,h6,h7⟩
theorem jrm {a:Addr} {ns:List Int} {k:Int} {tk:Tok} {Q:Bool->Shared->Prop} (hS:jaC prog w s.heap a ns) (hroom:ns.length+1<scanBound)
 (h:∀h' b,Heap.SameBut a s.heap h'->jaC prog w h' a (ns++[k])->Q b { s with heap:=h' }):wpAny (model prog w) A (setAddHashed a (.int k tk) (‹"af"›.hash k)) Q E s:=by
 obtain ⟨o,es,ep,t,ho,hex,hd,hel,hmem,hf,hle,hnd,hris,hled⟩:=hS;have hb:es.size<scanBound:=by omega
 have hkey:‹"af"›.is k (.int k tk)=true:=intKind_is _ _ _ _;have hsc:(Value.int k tk).scannable=true:=rfl;unfold setAddHashed setAddHashedIn;refine yn (Yc (yj ho hd hf ?_));dsimp only;rw [byScan_of hsc hb hel,if_pos rfl];unfold setAddByScan;refine Yc (Yc (wpAny_rule (Yc (wpAny_setScan_of hkey ho hd hf hel ?_))));cases hr:List.findIdx? (fun e=>‹"af"›.is k e.2) es.toList with
 | some j=>
   dsimp only;obtain ⟨hj,hpj,_⟩:=List.findIdx?_eq_some_iff_getElem.mp hr;have hk:k∈ns:=(hmem k).mpr ⟨es.toList[j],KH hj,hpj⟩;refine Yk (Yk ?_);have:=h s.heap false (Heap.SameBut.refl a s.heap) ⟨o,es,ep,t,ho,hex,hd,hel,fun k'=>by rw [YV,Yu,<- hmem k'];exact ⟨fun z=>z.elim id fun e=>e ▸ hk,.inl⟩,hf,by rw [YQ];omega,hnd,hris,hled⟩
   exact this
 | none=>
   dsimp only;have hno:∀e∈es.toList,‹"af"›.is k e.2=false:=fun e he=>by have:=List.findIdx?_eq_none_iff.mp hr e he;simpa using this
   have hp:=layNew_perm t es (‹"af"›.hash k) (.int k tk);have hfits:=layNew_fits t es (‹"af"›.hash k) (.int k tk);have hR:=jhS es (‹"af"›.hash k) (.int k tk) hris;generalize layNew t es (‹"af"›.hash k) (.int k tk)=L at hp hfits hR ⊢;obtain ⟨es1,t1,wd,gave⟩:=L;dsimp only at hp hfits hR ⊢;rw [Array.toList_push] at hp;have hel1:ElemsOf ‹"af"› es1.toList:=(hel.push hkey hsc).perm hp;have hmem1:∀k',k'∈ns++[k] ↔ ∃e∈es1.toList,‹"af"›.is k' e.2=true:=fun k'=>by
    rw [YV,Yu,hmem k'];constructor
    . rintro (⟨e,he,q⟩ | rfl)
      . exact ⟨e,hp.mem_iff.mpr (Yx _ he),q⟩
      . exact ⟨_,hp.mem_iff.mpr (YL _ (Yu.mpr rfl)),hkey⟩
    . rintro ⟨e,he,q⟩;rcases YV.mp (hp.mem_iff.mp he) with he | he
      . exact .inl ⟨e,he,q⟩
      . rw [Yu] at he;subst he;exact .inr (is_int.mp q)
   have hsz1:es1.size=es.size+1:=by rw [<-ye,hp.length_eq,YQ,ye];rfl
   have hnd1:(es1.toList.map fun e=>jfo e.2).Nodup:=by refine ((hp.map _).nodup_iff).mpr ?_;rw [YW,List.nodup_append];refine ⟨hnd,by simp,fun x hx y hy=>?_⟩;rw [List.map_singleton,Yu] at hy;rw [hy];obtain ⟨e,he,rfl⟩:=Y6.mp hx;obtain ⟨j,tj,q⟩:=jbL hel he;have:=hno e he;rw [q] at this ⊢;intro z;have z':j=k:=z;rw [z',intKind_is] at this;cases this
   refine Yc (jiU ?_);have tail:∀t2:SetTable,t2.fits es1.size=true->Ris t2.place->t2.led=t.led->wpAny (model prog w) A (do
       storeSet a es1 t2
       if (!wd && t2.tooFull)=true then do
           (match (relayAll t2 es1 ‹"aw"›).2.2 with | true=>rule "set.scan.the-table-gave-way" | false=>pure ())
           storeSet a (relayAll t2 es1 ‹"aw"›).1 (relayAll t2 es1 ‹"aw"›).2.1
           pure (some true)
        else pure (some true)) (fun (x:Option Bool) s'=>∃h',x=some true/\s'={ s with heap:=h' }/\Heap.SameBut a s.heap h'/\jaC prog w h' a (ns++[k])) E s:=by
    intro t2 hf2 hr2 hl2;have hz1:es1.size<scanBound:=by omega
    refine Yc (wpAny_storeSet_of ho hd ?_ (fits_of_scanBound hz1));obtain ⟨ho1,hS1⟩:=stored (prog:=prog) (w:=w) (ns:=ns++[k]) ho hex hd hel1 hmem1 hf2 (by rw [YQ,hsz1];simp;omega) hnd1 hr2 (fun q=>hl2.trans (hled q));have sb:=Heap.SameBut.update s.heap a (Obj.putSet es1 t2);split
    . have hp2:=relayAll_perm t2 es1 ‹"aw"›;have hf3:=relayAll_fits t2 es1 ‹"aw"›;have hR2:=jfE (t:=t2) es1 ‹"aw"›;generalize relayAll t2 es1 ‹"aw"›=L2 at hp2 hf3 hR2 ⊢;obtain ⟨es2,t3,g2⟩:=L2;dsimp only at hp2 hf3 hR2 ⊢;have hsz2:es2.size=es1.size:=by rw [<-ye,hp2.length_eq,ye]
      refine Yc (jiU ?_);refine Yc (wpAny_storeSet_of ho1 rfl ?_ (fits_of_scanBound (by rw [hsz2];exact hz1)));obtain ⟨_,hS2⟩:=stored (prog:=prog) (w:=w) (ns:=ns++[k]) ho1 hex rfl (hel1.perm hp2) (fun k'=>(hmem1 k').trans ⟨fun ⟨e,he,q⟩=>⟨e,hp2.mem_iff.mpr he,q⟩,fun ⟨e,he,q⟩=>⟨e,hp2.mem_iff.mp he,q⟩⟩) hf3
       (by rw [YQ,hsz2,hsz1];simp;omega) (((hp2.map _).nodup_iff).mpr hnd1) hR2.1 (fun q=>(hR2.2.trans hl2).trans (hled q))
      exact Yk ⟨_,rfl,rfl,sb.trans (Heap.SameBut.update _ a _),hS2⟩
    . exact Yk ⟨_,rfl,rfl,sb,hS1⟩
   have fin:∀(x:Option Bool) (s':Shared),(∃h',x=some true/\s'={ s with heap:=h' }/\Heap.SameBut a s.heap h'/\jaC prog w h' a (ns++[k]))->
       wpAny (model prog w) A (match x with | some added=>pure added | none=>setAddHashedIn a (.int k tk) (‹"af"›.hash k) 99999) Q E s':=by
    rintro _ _ ⟨h',rfl,rfl,sb,hS'⟩;exact Yk (h h' true sb hS')
   split
   . rw [hashByValue_scannable 8 hsc];refine Yc (Yk ?_);exact yq (tail t1 hfits hR.1 hR.2) fin fun _ _ q=>q
   . refine Yc (Yk ?_);exact yq (tail t1 hfits hR.1 hR.2) fin fun _ _ q=>q
theorem jep {R:Result->Shared->Prop} {S l I:Addr} {items:Array Value} {ns:List Int} (hh:A.handled=none) (hi:IntsAre items.toList ns) (hlI:l≠I) (hSl:S≠l) (hSI:S≠I) (hb:ns.length+1<scanBound) :
 ∀(k i:Nat) (s:Shared),ns.length-i=k->i<=ns.length->s.heap.IsListIter I l i->s.heap.IsList l items->jaC prog w s.heap S (ns.take i)->
   (∀h' tk,(∀b o,b≠S->b≠I->s.heap.get? b=some o->h'.get? b=some o)->jaC prog w h' S ns->R (.ok (.ret .none)) { s with heap:=h',toks:=tk })->
   codeAny (model prog w) A (.builtin "set.update.loop" ⟨[.ref S,.ref I],[]⟩) R s:=by
 have tL:items.size=ns.length:=by have:=hi.length;simpa using this
 have moveS:∀{h h':Heap} {m:List Int},jaC prog w h S m->(∀o,h.get? S=some o->h'.get? S=some o)->jaC prog w h' S m:=by rintro h h' m ⟨o,es,ep,t,ho,r⟩ hk;exact ⟨o,es,ep,t,hk o ho,r⟩
 intro k;induction k with
 | zero=>
   intro i s hk hi' st hl hS hR;have e:i=ns.length:=by omega
   subst e;refine Kc KC ?_;rw [yJ yK _];show wpAny _ A.in1 (pyNext (.ref I) >>= _) _ _ s;refine Yc (wpAny_pyNext_list_end hh st hl (yr (by omega)) fun h' he=>?_);show wpAny _ A.in1 (ret Value.none) _ _ _;refine Yk (hR h' s.toks (fun b o _ b2 q=>he b o b2 q) (moveS (by rw [List.take_length] at hS;exact hS) fun o q=>he S o hSI q))
 | succ k ih=>
   intro i s hk hi' st hl hS hR;have hlt:i<ns.length:=by omega
   have hlt':i<items.size:=by omega
   obtain ⟨tk,hv⟩:=IntsAre.int_at hi i items[i] (by rw [yI];exact YK hlt');refine Kc KC ?_;rw [yJ yK _];show wpAny _ A.in1 (pyNext (.ref I) >>= _) _ _ s;refine Yc (wpAny_pyNext_list_item st hl (x:=items[i]) (YK hlt') fun h1 st1 sb1=>?_);rw [hv];generalize hval:ns.getD i 0=v;show wpAny _ A.in1 (holding [Value.int v tk] (setAdd S (.int v tk)) >>= _) _ _ _;refine Yc (yn ?_);unfold setAdd;refine yn (Yc (‹"af"›.pyHash (k:=v) (intKind_is _ _ _ _) ?_));have hS1:jaC prog w h1 S (ns.take i):=moveS hS fun o q=>sb1.extBut S o hSI q;refine jrm (s:={ s with heap:=h1,toks:=s.toks+1 }) hS1 (by rw [K5];omega) fun h2 b sb2 hS2=>?_;have e2:ns.take i++[v]=ns.take (i+1):=by rw [List.take_succ,Ya hlt,<- hval,Yb,Ya hlt];rfl
   rw [e2] at hS2;refine Yk ⟨yU yK _,ih (i+1) _ (by omega) hlt (st1.extBut sb2.extBut (Ne.symm hSI)) ((hl.extBut sb1.extBut hlI).extBut sb2.extBut (Ne.symm hSl)) hS2 fun h' tk' kk hS'=>?_⟩;exact hR h' tk' (fun b o b1 b2 q=>kk b o b1 b2 (sb2.extBut b o b1 (sb1.extBut b o b2 q))) hS'
theorem jkg (a:Value) {Q₁:Value->Shared->Prop}
 (h:∀led:Bool,led=!w.params.followText "set-order" → Q₁ (.ref s.heap.objs.size) { s with heap:=s.heap.push { cls:=.type "set",dict:=none,data:=.set #[] 0 (.fresh 0 0 led) } }) :
 codeAny (model prog w) A (.call (.builtin "set.__new__") ⟨[.type "set",a],[]⟩) (wants Q₁ E) s:=by
 refine codeAny_of_tree ?_;show wpAny _ A.in1 (do checkBuiltinCall "set.__new__" ⟨[.type "set",a],[]⟩;again (.builtin "set.__new__" ⟨[.type "set",a],[]⟩)) _ _ s;refine Yc (wpAny_of_eq (PySem.F.newCall_set_1 a) (Yk ⟨yU PySem.F.plain_set_new _,Kc PySem.F.entry_set_new ?_⟩));rw [yJ PySem.F.plain_set_new _];unfold Builtin.«set.__new__» Builtin.Frozenset.newClass;have hsub:=sub_set_self;obtain ⟨hp,g,d,tk,os⟩:=s;dsimp only
 wp_walk
 refine K3 (Yk ?_);dsimp only;simp only [newObj];refine Yc (wpAny_alloc (Yk ?_));exact Yk (h _ rfl)
set_option maxHeartbeats 4000000 in
theorem jip {l:Addr} {items:Array Value} {ns:List Int} {Q:Value->Shared->Prop} (hh:A.handled=none) (hl:s.heap.IsList l items) (hi:IntsAre items.toList ns) (hb:ns.length+1<scanBound)
 (h:∀(h':Heap) (tk:Nat),jaC prog w h' s.heap.objs.size ns->(∀b o,s.heap.get? b=some o->h'.get? b=some o)->Q (.ref s.heap.objs.size) { s with heap:=h',toks:=tk }) :
 wpAny (model prog w) A (call (.type "set") [.ref l]) Q E s:=by
 obtain ⟨c,tl,hmro⟩:=PySem.F.called_set.mro;have hmade:=PySem.F.called_set.made;have hsub:=PySem.F.called_set.sub;refine wpAny_call (codeAny_of_tree ?_);show wpAny _ _ (callAny (.type "set") _) _ _ _;refine Yk ⟨Code.quiet_builtin _ ‹"aF"›,Kc PySem.F.entry_type_call ?_⟩;rw [Around.under_plain (weight_type_call_type "set" [.ref l] []) rfl];have h1:=PySem.F.called_set.notType;have h2:=PySem.F.called_set.canCreate;have hct:=PySem.F.typeCall_set_1 (.ref l)
 repeat (any_goals (first | assumption | wp_step))
 refine kj (jkg (.ref l) (E:=E) (Q₁:=fun obj s₁=>∃led:Bool,led=(!w.params.followText "set-order") ∧ obj=.ref s.heap.objs.size ∧ s₁={ s with heap:=s.heap.push { cls:=.type "set",dict:=none,data:=.set #[] 0 (.fresh 0 0 led) } }) fun led e=>⟨led,e,rfl,rfl⟩) fun r s₁ hr=>?_;cases r with
 | error e=>exact hr
 | ok fl=>
   cases fl with
   | ret obj=>
     obtain ⟨led,hled,rfl,rfl⟩:=hr;generalize hSd:s.heap.objs.size=S at *
     have hS:‹"3"›.get? S=some { cls:=.type "set",dict:=none,data:=.set #[] 0 (.fresh 0 0 led) }:=by rw [← hSd];exact YA _ rfl
     have hGs:‹"3"›.objs.size=S+1:=by rw [← hSd,yi]
     have up:∀b o,s.heap.get? b=some o → ‹"3"›.get? b=some o:=fun b o e=>Yj _ e;generalize s.heap.push { cls:=.type "set",dict:=none,data:=.set #[] 0 (.fresh 0 0 led) }=G at *
     have hT:Shared.TypeIs { s with heap:=G } (.ref S) "set":=⟨_,hS,rfl⟩;have hli:=PySem.F.called_set.init.lookup;have hbi:=PySem.F.called_set.init.bind (.ref S)
     repeat (any_goals (first | assumption | wp_step))
     refine kj (codeAny_call_builtin (R:=wants (fun r s₂=>r=.none/\∃h' tk,s₂={ s with heap:=h',toks:=tk }/\jaC prog w h' S ns/\(∀b o,s.heap.get? b=some o->h'.get? b=some o)) E) PySem.F.called_set.init.plain PySem.F.entry_set_init (check_set_init_1 hT ?_)) fun r₂ s₂ hr₂=>?_
     . obtain ⟨ol,hol,hcl,nl,hdl⟩:=hl;obtain ⟨ocls,odict,odata,oslots⟩:=ol;simp only at hcl hdl;subst hcl;subst hdl;have hol':=up _ _ hol;have hsls:=PySem.F.sub_list_set;have hslf:=PySem.F.sub_list_frozenset;have hne:(Value.type "list" == Value.type "dict")=false:=by decide
       have hl1:G.IsList l items:=⟨_,hol',rfl,nl,rfl⟩;unfold Builtin.«set.__init__» noKeywords Builtin.Frozenset.updateFrom;generalize hPI:pyIter=PI
       wp_walk
       subst hPI;refine wpAny_pyIter_list hl1 ?_;refine Yc (wpAny_runValue ?_);have hlS:@LT.lt Nat instLTNat l S:=by have q:=L2.ltN hol;rwa [hSd] at q
       have hh3:A.in1.in1.in1.handled=none:=by simp [hh]
       refine jep (A:=A.in1.in1) (S:=S) (l:=l) (items:=items) (ns:=ns) hh3 hi (I:=G.objs.size) ?_ (yp hlS) ?_ hb (ns.length-0) 0 _ rfl (yE _) ⟨_,YA _ rfl,rfl,rfl⟩ (hl1.push _) ?_ ?_
       . rw [hGs];exact Yv (yP hlS)
       . rw [hGs];exact Yv (yT _)
       . refine ⟨_,#[],0,.fresh 0 0 led,Yj _ hS,⟨rfl,rfl,rfl⟩,rfl,fun e he=>by simp at he,fun k=>by simp,rfl,by simp,by simp,fun i j _ hj=>by simp [SetTable.fresh] at hj,fun q=>?_⟩;show led=true;rw [hled,q];rfl
       . intro h' tk kk hS';show wpAny _ _ _ _ _ _;refine Yk ?_;show wpAny _ _ (ret Value.none) _ _ _;refine Yk ⟨rfl,h',tk,rfl,hS',fun b o e=>kk b o ?_ ?_ (Yj _ (up b o e))⟩
         . have q:=L2.ltN e;rw [hSd] at q;exact Yv q
         . have q:=L2.ltN e;rw [hSd] at q;rw [hGs];exact Yv (yP q)
     . cases r₂ with
       | error e=>exact hr₂
       | ok fl₂=>
         cases fl₂ with
         | ret r=>
           obtain ⟨rfl,h',tk,rfl,hS',hk'⟩:=hr₂
           repeat (any_goals (first | assumption | wp_step))
           exact h _ _ hS' hk'
         | _=>exact hr₂.elim
   | _=>exact hr.elim
end
end L2S
namespace L2S
open PySem PySem.Spec PyProof.Rows
theorem slot_setit_next:Slot "set_iterator" "__next__" "set_iterator.__next__":=
 .of (owner := "set_iterator") (n:="__next__") (by rw [KO,yV];kernel_rfl) ‹"aF"› ‹"aF"› ‹"aF"›
  (by first | exact .inl ‹"aF"› | exact .inr ‹"aF"›) (by rw [isSubtype_type];kernel_rfl)
theorem Q9:entryFor table "set_iterator.__next__"=some Builtin.«set_iterator.__next__»:=entryFor_of_tree (by kernel_rfl)
theorem ZD (a:Value):argsOk "set_iterator.__next__" ⟨[a],[]⟩:=by unfold argsOk;kernel_rfl
theorem jec:entryFor table "set.__iter__"=some Builtin.«frozenset.__iter__»:=entryFor_alias (id' := "frozenset.__iter__") (by kernel_rfl) rfl ‹"aF"› (by kernel_rfl)
abbrev SIt (h:Heap) (it:Addr) (first:Value) (i:Nat) (a:Addr) (n ep:Nat):Prop:=h.get? it=some { cls:=.type "set_iterator",dict:=none,data:=.fields #[first,rawInt i,.ref a,rawInt n,rawInt ep],slots:=#[] }
inductive Mode (w:World) (h:Heap) (a:Addr) (es:Array (Int×Value)) (ep:Nat) (t:SetTable):Value->Nat->List Value->Prop where
 | text {sl i:Nat} (hb:w.params.followText "set-order"=true):Mode w h a es ep t (rawInt sl) i ((pickOrder (w.params.setOrder a ep) es).toList.map (·.2))
 | plain {sl i:Nat} (hb:w.params.followText "set-order"=false) (hd:(!t.plain && decide (es.size>1))=false) (hs:SetTable.below t.place sl=i):Mode w h a es ep t (rawInt sl) i (es.toList.map (·.2))
 | drawn {T:Addr} {i:Nat} {pl:List Nat} (hb:w.params.followText "set-order"=false) (hT:h.get? T=some { cls:=.type "tuple",data:=.seq (pl.map fun (j:Nat)=>rawInt j).toArray }) (hp:pl.Perm (List.range es.size)) :
  Mode w h a es ep t (.ref T) i (pl.filterMap fun j=>(es[j]?).map (·.2))
theorem Mode.perm {w:World} {h:Heap} {a:Addr} {es:Array (Int×Value)} {ep:Nat} {t:SetTable} {f:Value} {i:Nat} {q:List Value} (M:Mode w h a es ep t f i q):q.Perm (es.toList.map (·.2)):=by
 cases M with
 | text hb=>exact (jky _ es).map _
 | plain hb hd hs=>exact .rfl
 | drawn hb hT hp=>refine (hp.filterMap _).trans ?_;have e:=filterMap_getElem?_range es;rw [<-e,List.map_filterMap]
theorem Mode.at {w:World} {h h':Heap} {a:Addr} {es:Array (Int×Value)} {ep:Nat} {t:SetTable} {f:Value} {i:Nat} {q:List Value} (M:Mode w h a es ep t f i q) (k:∀T o,f=.ref T->h.get? T=some o->h'.get? T=some o):Mode w h' a es ep t f i q:=by
 cases M with
 | text hb=>exact .text hb
 | plain hb hd hs=>exact .plain hb hd hs
 | drawn hb hT hp=>exact .drawn hb (k _ _ rfl hT) hp
theorem jhs {es:Array (Int×Value)}:∀{pl:List Nat} {i j:Nat},(∀x∈pl,x<es.size)->pl[i]?=some j->(pl.filterMap fun j=>(es[j]?).map (·.2))[i]?=(es[j]?).map (·.2)
 | [],i,j,_,e=>by simp at e
 | a::l,i,j,h,e=>by
   have ha:a<es.size:=h a Yf;rw [Ki,YK ha];dsimp only [Option.map];cases i with
   | zero=>
     have:a=j:=by simpa using e
     subst this;rw [YK ha];rfl
   | succ i=>rw [Yl];exact jhs (fun x hx=>h x (Ym _ hx)) (by simpa using e)
section
variable {prog:Program} {w:World} {A:Around} {E:Value->Shared->Prop} {s:Shared}
theorem JU {Q:Bool → Shared → Prop} (h:Q (w.params.followText "set-order") s):wpAny (model prog w) A setsByText Q E s:=by unfold setsByText;exact Yc (K3 (Yk h))
theorem ja3 {a:Addr} {o:Obj} {es:Array (Int×Value)} {ep:Nat} {t:SetTable} {Q:Array (Int×Value)->Shared->Prop} (ho:s.heap.get? a=some o) (hd:o.data=.set es ep t) (hf:t.fits es.size=true) (h:Q es s):wpAny (model prog w) A (setEntries a) Q E s:=by unfold setEntries;exact Yc (yj ho hd hf (Yk h))
structure SetL (w:World) (h:Heap) (a:Addr) (o:Obj) (es:Array (Int×Value)) (ep:Nat) (t:SetTable):Prop where
 ob:h.get? a=some o
 ex:o.ExactSet
 dt:o.data=.set es ep t
 fit:t.fits es.size=true
 ris:Ris t.place
 led:w.params.followText "set-order"=false → t.led=true
theorem SetL.psize {w:World} {h:Heap} {a:Addr} {o:Obj} {es:Array (Int×Value)} {ep:Nat} {t:SetTable} (L:SetL w h a o es ep t):t.place.size=es.size:=by have:=L.fit;simp only [SetTable.fits,KI,beq_iff_eq] at this;exact this.1
theorem jmC {it a:Addr} {o:Obj} {es:Array (Int×Value)} {ep:Nat} {t:SetTable} {f:Value} {i:Nat} {q:List Value} {v:Value} {Q:Option Value->Shared->Prop} (L:SetL w s.heap a o es ep t) (ha:a≠it) (hf:∀T,f=.ref T->T≠it)
 (hi:SIt s.heap it f i a es.size ep) (M:Mode w s.heap a es ep t f i q) (hx:q[i]?=some v)
 (hQ:∀h' f',SIt h' it f' (i+1) a es.size ep->Mode w h' a es ep t f' (i+1) q->(∀T,f'=.ref T->T≠it)->Heap.SameBut it s.heap h'->Q (some v) { s with heap:=h' }):wpAny (model prog w) A (pyNext (.ref it)) Q E s:=by
 have hT:s.TypeIs (.ref it) "set_iterator":=⟨_,hi,rfl⟩;unfold pyNext;refine Yc ‹"ar"›;show wpAny _ _ (fieldsOf (.ref it) >>= _) _ _ _;refine Yc (wpAny_fieldsOf hi rfl ?_);show wpAny _ _ (setEntries a >>= _) _ _ _;refine Yc (ja3 L.ob L.dt L.fit ?_);rw [if_neg (by simp)];dsimp only
 -- the two stores behind a place in the table or in the given order
 have two:∀(sl nx:Nat) (x:Value),SIt s.heap it (rawInt sl) i a es.size ep->x=v->(∀h',Mode w h' a es ep t (rawInt nx) (i+1) q)->wpAny (model prog w) A.in1 (do
       setField (.ref it) 0 (rawInt (nx:Int))
       setField (.ref it) 1 (rawInt ((i:Int)+1))
       ret x) (fun fin s'=>∃v,fin=.done (.ret v)/\wpAny (model prog w) A (pure (some v)) Q E s') (fun _ _=>False) s:=by
  intro sl nx x hi' hxv hm;refine Yc (yy hi' (by simp) fun h1 e1 s1=>?_);replace e1:SIt h1 it (rawInt nx) i a es.size ep:=e1;refine Yc (yy e1 (by simp) fun h2 e2 s2=>?_);have e3:SIt h2 it (rawInt nx) (i+1) a es.size ep:=by
   have c:((i+1:Nat):Int)=(i:Int)+1:=by omega
   unfold SIt;rw [c];exact e2
  refine Yk ⟨x,rfl,Yk ?_⟩;rw [hxv];exact hQ h2 _ e3 (hm h2) (fun T z=>nomatch z) (s1.trans s2)
 cases M with
 | @text sl _ hb=>
   show wpAny _ _ (setNext a (sl:Int).toNat (i:Int).toNat (ep:Int).toNat >>= _) _ _ _;rw [Yq,Yq,Yq];refine Yc ?_;unfold setNext;refine Yc (yj L.ob L.dt L.fit ?_);dsimp only;refine Yc (JU ?_);rw [hb,if_pos rfl,if_neg (by simp)];refine Yc ?_;unfold setWalk;refine Yc (yj L.ob L.dt L.fit ?_);dsimp only;refine Yc (JU ?_);rw [hb,if_pos rfl];refine Yc (K3 (Yk (Yk ?_)));show wpAny _ _ (match ((pickOrder (w.params.setOrder a ep) es)[i]?).map fun e=>(e.2,sl) with | some (x,next)=>_ | none=>_) _ _ _;have hx':((pickOrder (w.params.setOrder a ep) es)[i]?).map (·.2)=some v:=by rw [List.getElem?_map,yI] at hx;exact hx
   cases e:(pickOrder (w.params.setOrder a ep) es)[i]? with
   | none=>rw [e] at hx';cases hx'
   | some p=>rw [e] at hx';exact yq (two sl sl p.2 hi (Option.some.inj hx') fun h'=>.text hb) (fun _ _ z=>z) fun _ _ z=>z.elim
 | @plain sl _ hb hd hs=>
   show wpAny _ _ (setNext a (sl:Int).toNat (i:Int).toNat (ep:Int).toNat >>= _) _ _ _;rw [Yq,Yq,Yq];refine Yc ?_;unfold setNext;refine Yc (yj L.ob L.dt L.fit ?_);dsimp only;refine Yc (JU ?_);rw [hb,if_neg Yh];show wpAny _ _ (if (!t.plain && decide (es.size>1))=true then _ else _) _ _ _;rw [if_neg (by rw [hd];exact Yh)];show wpAny _ _ ((if (!t.led && !es.isEmpty)=true then _ else _) >>= _) _ _ _;rw [if_neg (by rw [L.led hb];simp)];refine Yc (Yk ?_);have hil:i<es.size:=by
    rcases YX i es.size with z | z
    . exact z
    . rw [YE (by simpa using z)] at hx;cases hx
   have hip:i<t.place.size:=by rw [L.psize];exact hil
   have hx':es[i].2=v:=by rw [List.getElem?_map,yI,YK hil] at hx;exact Option.some.inj hx
   rw [hs,YK hil,YK hip];refine Yk ?_;have g:t.place.getD i 0=t.place[i]:=by simp [Array.getD,hip]
   have nxt:=jh8 L.ris hip;rw [g] at nxt;exact yq (two sl (t.place[i]+1) es[i].2 hi hx' fun h'=>.plain hb hd nxt) (fun _ _ z=>z) fun _ _ z=>z.elim
 | @drawn T _ pl hb hT' hp=>
   have tL:pl.length=es.size:=by have:=hp.length_eq;simpa using this
   have hall:∀x∈pl,x<es.size:=fun x hx=>KF.mp (hp.mem_iff.mp hx);show wpAny _ _ (seqItems? (.ref T) >>= _) _ _ _;refine Yc (KB hT' rfl ?_);have hil:i<pl.length:=by
    rcases YX i pl.length with z | z
    . exact z
    . have z':(pl.filterMap fun j=>(es[j]?).map (·.2)).length<=i:=Y5 (List.length_filterMap_le _ _) z;rw [YE z'] at hx;cases hx
   have hj:pl[i]<es.size:=hall _ (KH hil);have hx':es[pl[i]].2=v:=by rw [jhs hall (Ya hil),YK hj] at hx;exact Option.some.inj hx
   have e:((pl.map fun (j:Nat)=>rawInt j).toArray)[(i:Int).toNat]?=some (Value.int (pl[i]:Nat) 0):=by rw [Yq,List.getElem?_toArray,List.getElem?_map,Ya hil];rfl
   dsimp only;rw [e];dsimp only;refine Yc ?_;unfold setNextDrawn;refine Yc (yj L.ob L.dt L.fit ?_);dsimp only;rw [if_neg (by simp),Yq,YK hj];refine Yk ?_;refine Yc (yy hi (by simp) fun h2 e2 s2=>?_);have e3:SIt h2 it (.ref T) (i+1) a es.size ep:=by
    have c:((i+1:Nat):Int)=(i:Int)+1:=by omega
    unfold SIt;rw [c];exact e2
   refine Yk ⟨_,rfl,Yk ?_⟩;show Q (some es[pl[i]].2) _;rw [hx'];exact hQ h2 _ e3 (.drawn hb (s2.extBut _ _ (hf T rfl) hT') hp) hf s2
end
end L2S
namespace L2S
open PySem PySem.Spec PyProof.Rows
section
variable {prog:Program} {w:World} {A:Around} {E:Value->Shared->Prop} {s:Shared}
theorem jny {α:Type} {Q:α → Shared → Prop} (hh:A.handled=none) (h:∀h' e,(∀b o,s.heap.get? b=some o → h'.get? b=some o) → (∃o,h'.get? e=some o ∧ o.cls=.type "StopIteration") → E (.ref e) { s with heap:=h' }) :
 wpAny (model prog w) A (do let x ← newExc (.type "StopIteration") [];raiseNew x:Sem α) Q E s:=by
 refine Yc ?_;simp only [newExc,newTuple];refine Yc (Kx ?_ (by size_fits));refine Yc (m:=firstArgMember _ _) (wpAny_of_eq (a:=Value.none) (by first | rfl | (simp only [firstArgMember];rfl)) ?_);refine Kx ?_ (by size_fits);simp only [raiseNew];refine Yc (wpAny_handled ?_);rw [hh];refine Yc (Yk (wpAny_throw ?_));exact h _ _ (fun b o e=>Yj _ (Yj _ e)) ⟨_,YA _ rfl,rfl⟩
theorem jnH {it a:Addr} {o:Obj} {es:Array (Int×Value)} {ep:Nat} {t:SetTable} {f:Value} {i:Nat} {q:List Value} {Q:Option Value->Shared->Prop} (hh:A.handled=none) (L:SetL w s.heap a o es ep t)
 (hi:SIt s.heap it f i a es.size ep) (M:Mode w s.heap a es ep t f i q) (hx:i=q.length)
 (hQ:∀h',(∀b o,b≠it->s.heap.get? b=some o->h'.get? b=some o)->Q none { s with heap:=h' }):wpAny (model prog w) A (pyNext (.ref it)) Q E s:=by
 have hT:s.TypeIs (.ref it) "set_iterator":=⟨_,hi,rfl⟩;have tL:q.length=es.size:=by have:=M.perm.length_eq;simpa using this
 unfold pyNext;refine Yc ‹"ar"›;show wpAny _ _ (fieldsOf (.ref it) >>= _) _ _ _;refine Yc (wpAny_fieldsOf hi rfl ?_);show wpAny _ _ (setEntries a >>= _) _ _ _;refine Yc (ja3 L.ob L.dt L.fit ?_);rw [if_neg (by simp)];dsimp only;have stop:∀(h1:Heap),(∀b o,b≠it → s.heap.get? b=some o → h1.get? b=some o) → wpAny (model prog w) A.in1 (do let x ← newExc (.type "StopIteration") [];raiseNew x:Sem Fin) (fun fin s'=>∃v,fin=.done (.ret v) ∧ wpAny (model prog w) A (pure (some v)) Q E s')
  (fun e s'=>wpAny (model prog w) A (do let b ← isInstance e (.type "StopIteration");if b=true then pure none else throw e) Q E s') { s with heap:=h1 }:=fun h1 k1=>by
  refine jny (s:={ s with heap:=h1 }) (by simpa using hh) fun h' e k zz=>?_;obtain ⟨oe,ho,hc⟩:=zz;refine Yc (K2 (T := "StopIteration") (b:=true) ⟨oe,ho,hc⟩ isSubtype_stop ?_);exact Yk (hQ h' fun b o hb e=>k b o (k1 b o hb e))
 cases M with
 | @text sl _ hb=>show wpAny _ _ (setNext a (sl:Int).toNat (i:Int).toNat (ep:Int).toNat >>= _) _ _ _;rw [Yq,Yq,Yq];refine Yc ?_;unfold setNext;refine Yc (yj L.ob L.dt L.fit ?_);dsimp only;refine Yc (JU ?_);rw [hb,if_pos rfl,if_neg (by simp)];refine Yc ?_;unfold setWalk;refine Yc (yj L.ob L.dt L.fit ?_);dsimp only;refine Yc (JU ?_);rw [hb,if_pos rfl];refine Yc (K3 (Yk (Yk ?_)));show wpAny _ _ (match ((pickOrder (w.params.setOrder a ep) es)[i]?).map fun e=>(e.2,sl) with | some (x,next)=>_ | none=>_) _ _ _;rw [yr (by rw [hx,Yd,ye];exact Ys _)];refine Yc (yy hi (by simp) fun h1 e1 s1=>?_);exact stop h1 fun b o hb e=>s1.extBut b o hb e
 | @plain sl _ hb hd hs=>show wpAny _ _ (setNext a (sl:Int).toNat (i:Int).toNat (ep:Int).toNat >>= _) _ _ _;rw [Yq,Yq,Yq];refine Yc ?_;unfold setNext;refine Yc (yj L.ob L.dt L.fit ?_);dsimp only;refine Yc (JU ?_);rw [hb,if_neg Yh];show wpAny _ _ (if (!t.plain && decide (es.size>1))=true then _ else _) _ _ _;rw [if_neg (by rw [hd];exact Yh)];show wpAny _ _ ((if (!t.led && !es.isEmpty)=true then _ else _) >>= _) _ _ _;rw [if_neg (by rw [L.led hb];simp)];refine Yc (Yk ?_);rw [hs,yr (by omega)];refine Yk ?_;dsimp only;refine Yc (yy hi (by simp) fun h1 e1 s1=>?_);exact stop h1 fun b o hb e=>s1.extBut b o hb e
 | @drawn T _ pl hb hT' hp=>
   have hpl:pl.length=es.size:=by have:=hp.length_eq;simpa using this
   show wpAny _ _ (seqItems? (.ref T) >>= _) _ _ _;refine Yc (KB hT' rfl ?_);have e:((pl.map fun (j:Nat)=>rawInt j).toArray)[(i:Int).toNat]?=none:=by rw [Yq,List.getElem?_toArray];exact YE (by rw [Yd];omega)
   dsimp only;rw [e];dsimp only;refine Yc (yy hi (by simp) fun h1 e1 s1=>?_);refine Yc (yy e1 (by simp) fun h2 e2 s2=>?_);exact stop h2 fun b o hb e=>s2.extBut b o hb (s1.extBut b o hb e)
theorem jlO {a:Addr} {o:Obj} {es:Array (Int×Value)} {ep:Nat} {t:SetTable} {Q:Value->Shared->Prop} (L:SetL w s.heap a o es ep t) (hz:es.size<=sizeLine)
 (hQ:∀h' d it f q,SIt h' it f 0 a es.size ep->Mode w h' a es ep t f 0 q->(∀T,f=.ref T->T≠it)->s.heap.objs.size<=it->(∀b o,s.heap.get? b=some o->h'.get? b=some o)->Q (.ref it) { s with heap:=h',drawn:=d }) :
 wpAny (model prog w) A (pyIter (.ref a)) Q E s:=by
 have hT:s.TypeIs (.ref a) "set":=⟨_,L.ob,L.ex.1⟩;refine wpAny_pyIter_slot hT PySem.F.slot_set_iter (yB PySem.F.slot_set_iter hT jec ?_ (PySem.F.args_set_iter_1 _));show wpAny _ _ (Builtin.Frozenset.sizeOf a >>= _) _ _ _;unfold Builtin.Frozenset.sizeOf;refine Yc (Yc (ja3 L.ob L.dt L.fit (Yk ?_)));show wpAny _ _ (setDrawn a >>= _) _ _ _;refine Yc ?_;unfold setDrawn;refine Yc (yj L.ob L.dt L.fit ?_);dsimp only;refine Yc (JU (Yk ?_));show wpAny _ _ (if (!w.params.followText "set-order" && (!t.plain && decide (es.size>1)))=true then _ else _) _ _ _;have fin:∀(g:Heap) (d:Drawn) (f:Value) (q:List Value),(∀b o,s.heap.get? b=some o->g.get? b=some o)->s.heap.objs.size<=g.objs.size->(∀h',(∀b o,g.get? b=some o->h'.get? b=some o)->Mode w h' a es ep t f 0 q)->(∀T,f=.ref T->@LT.lt Nat instLTNat T g.objs.size)->
  wpAny (model prog w) A.in1 (do ret (← newFields "set_iterator" [f,rawInt 0,.ref a,rawInt es.size,rawInt (← setEpoch a)])) (fun fin s'=>∃v,fin=.done (.ret v) ∧ ∃T' r,s'.TypeIs v T' ∧ typeLookup (.type T') "__next__"=pure (some r) ∧ Q v s') E { s with heap:=g,drawn:=d }:=by
  intro g d f q k hle hm hf;refine Yc (wpAny_setEpoch_of (s:={ s with heap:=g,drawn:=d }) (k _ _ L.ob) L.dt L.fit ?_);unfold newFields;refine Yc (Kx ?_ (by size_fits));refine Yk ⟨_,rfl, "set_iterator",_,⟨_,YA _ rfl,rfl⟩,slot_setit_next.lookup,?_⟩;exact hQ _ d _ f q (YA _ rfl) (hm _ fun b o e=>Yj _ e) (fun T z=>Yv (hf T z)) hle fun b o e=>Yj _ (k b o e)
 cases hb:w.params.followText "set-order" with
 | true=>rw [if_neg (by simp)];exact fin s.heap s.drawn (rawInt (0:Nat)) _ (fun b o e=>e) (Ys _) (fun h' _=>.text hb) fun T z=>nomatch z
 | false=>
   cases hd:(!t.plain && decide (es.size>1)) with
   | false=>rw [if_neg (by simp)];exact fin s.heap s.drawn (rawInt (0:Nat)) _ (fun b o e=>e) (Ys _) (fun h' _=>.plain hb hd (jiq L.ris)) fun T z=>nomatch z
   | true=>
     rw [if_pos (by simp)];refine Yc (jiF es.size (List.range es.size) s (by simp) fun ys d hp=>?_);have hyl:ys.length=es.size:=by have:=hp.length_eq;simpa using this
     refine Yc (wpAny_newTuple (hsz:=by rw [Yd,hyl];exact hz) ?_);refine fin _ d (.ref s.heap.objs.size) _ (fun b o e=>Yj _ e) (by rw [yi];exact K9 _) (fun h' k=>.drawn hb (k _ _ (YA _ rfl)) hp) fun T z=>?_;injection z with z;rw [<-z,yi];exact yT _
theorem jlr {a:Addr} {Q:Bool → Shared → Prop} (hT:s.TypeIs (.ref a) "set") (h:Q false s):wpAny (model prog w) A (Builtin.List.listLengthHint (.ref a)) Q E s:=by
 unfold Builtin.List.listLengthHint;refine Yc (yQ hT PySem.F.slot_set_len.lookup ?_);generalize hid:("set.__len__":String)=id0
 wp_delta
 rw [show splitId id0=some ("set","__len__") from by subst hid;decide +kernel];subst hid;refine Yc (K2 (T := "set") (b:=true) hT (by rw [isSubtype_type];kernel_rfl) ?_);refine Ka (fun hab=>absurd hab (by decide)) (fun _=>?_);refine Ka (fun _=>?_) (fun hab=>absurd ‹"aF"› hab);refine Yc (wpAny_typeOf hT ?_);exact Yk h
theorem jgT {a:Addr} {o:Obj} {es:Array (Int×Value)} {ep:Nat} {t:SetTable} {Q:List Value->Shared->Prop} (hh:A.handled=none) (L:SetL w s.heap a o es ep t) (hz:es.size<sizeLine)
 (h:∀h' d tk (vs:List Value),(∀b o,s.heap.get? b=some o->h'.get? b=some o)->s.heap.objs.size<=h'.objs.size->vs.Perm (es.toList.map (·.2))->Q vs { s with heap:=h',drawn:=d,toks:=tk }):wpAny (model prog w) A (collect (.ref a)) Q E s:=by
 unfold collect;refine Yc (wpAny_runValue (Kc entry_proto_collect' ?_));rw [yJ PySem.F.plain_proto_collect _];show wpAny _ A.in1 (newList [] >>= fun l=>again (.builtin "list.__iadd__" ⟨[l,.ref a],[]⟩)) _ _ s;refine Yc (Kx ?_);refine Yk ⟨yU PySem.F.plain_list_iadd _,Kc entry_list_iadd' ?_⟩;rw [yJ PySem.F.plain_list_iadd _];generalize hSd:s.heap.objs.size=S at *
 have hS:‹"ab"›.get? S=some { cls:=.type "list",data:=.seq #[] }:=by rw [← hSd];exact YA _ rfl
 have up:∀b o,s.heap.get? b=some o → ‹"ab"›.get? b=some o:=fun b o e=>Yj _ e;have hGs:‹"ab"›.objs.size=S+1:=by rw [← hSd,yi]
 generalize s.heap.push { cls:=.type "list",data:=.seq ([]:List Value).toArray }=G at *
 have nS:∀b o,s.heap.get? b=some o->b≠S:=fun b o e=>by have q:=L2.ltN e;rw [hSd] at q;exact Yv q
 have aS:=nS _ _ L.ob;have L1:SetL w G a o es ep t:=⟨up _ _ L.ob,L.ex,L.dt,L.fit,L.ris,L.led⟩;have hT:Shared.TypeIs { s with heap:=G } (.ref a) "set":=⟨_,L1.ob,L.ex.1⟩;show wpAny _ A.in1 (Builtin.List.listExtendWith (.ref S) (.ref a) (.ref S)) _ _ _;unfold Builtin.List.listExtendWith;refine Yc (wpAny_typeOf (T := "set") hT ?_);have e1:Builtin.List.listSameRef (.ref S) (.ref a)=false:=by simp [Builtin.List.listSameRef,Ne.symm aS]
 have e2:(Value.type "set" == Value.type "list")=false:=by decide
 have e3:(Value.type "set" == Value.type "tuple")=false:=by decide
 simp only [e1,e2,e3,Bool.or_false,Y0,yx];refine Yc (jlO (s:={ s with heap:=G }) L1 (yM hz) fun G1 d it f q hit M hf hle k1=>?_);have itS:it≠S:=by
  have z:S+1<=it:=by have:=hle;show S+1<=it;rw [<-hGs];exact this
  exact yp z
 have ait:a≠it:=by
  have z:S+1<=it:=by have:=hle;show S+1<=it;rw [<-hGs];exact this
  have z2:=L2.ltN L.ob;rw [hSd] at z2;exact Yv (Yn (yP z2) z)
 have hT1:Shared.TypeIs { s with heap:=G1,drawn:=d } (.ref a) "set":=⟨_,k1 _ _ L1.ob,L.ex.1⟩;refine Yc (yn (jlr hT1 ?_));have tL:q.length=es.size:=by have:=M.perm.length_eq;simpa using this
 have key:∀(h1:Heap) (c:Nat),Heap.SameBut S G1 h1 → h1.get? S=some { cls:=.type "list",data:=.seq #[] c } →
  codeAny (model prog w) A (.builtin "list.extend.loop" ⟨[.ref S,.ref it,.ref S],[]⟩) (fun r s'=>match r with
    | .ok (.ret v)=>wpAny (model prog w) A (match v with
     | .ref a=>do
       let o <- load a
       match o.data with
         | .seq xs _=>pure xs.toList
         | _=>unsupported "internal:collect"
     | _=>unsupported "internal:collect") Q E s'
    | .ok _=>False
    | .error e=>E e s') { s with heap:=h1,drawn:=d }:=by
  intro h1 c sb hS1;have nT:∀(g:Heap) (tI:Array Value) (c:Nat),g.get? S=some { cls:=.type "list",data:=.seq tI c } → ∀(f:Value) (i:Nat) (q:List Value),Mode w g a es ep t f i q → ∀T,f=.ref T → T≠S:=by
   rintro g tI c e f i q Mg T rfl z;cases Mg with
   | drawn hb hT hp=>rw [z,e] at hT;have y:(Value.type "list")=Value.type "tuple":=congrArg Obj.cls (Option.some.inj hT);injection y with y;exact absurd y (by decide)
  refine L2.jcr (fun n tI s'=>∃(i c:Nat) (g:Heap) (f:Value),s'={ s with heap:=g,drawn:=d } ∧ n=es.size+1-i ∧ i ≤ es.size ∧ tI=(q.take i).toArray ∧ g.get? S=some { cls:=.type "list",data:=.seq tI c } ∧ SIt g it f i a es.size ep ∧ Mode w g a es ep t f i q ∧ SetL w g a o es ep t ∧
      (∀T,f=.ref T->T≠it)/\∀b o,s.heap.get? b=some o->g.get? b=some o) ?_ (es.size+1) #[] _
   ⟨0,c,h1,f,rfl,rfl,yE _,rfl,hS1,sb.extBut _ _ itS hit,M.at fun T o z e=>sb.extBut _ _ (nT G1 #[] 0 (k1 _ _ hS) f 0 q M T z) e,⟨sb.extBut _ _ aS (k1 _ _ L1.ob),L.ex,L.dt,L.fit,L.ris,L.led⟩,hf,fun b o e=>sb.extBut _ _ (nS b o e) (k1 _ _ (up b o e))⟩
  rintro n tI s' ⟨i,c,g,f,rfl,rfl,hi,rfl,hSg,sit,Mg,Lg,hfg,kg⟩;refine ⟨by simp;omega,?_⟩;rcases YX i es.size with hlt | hge
  . have hx:q[i]?=some q[i]:=Ya (by omega);refine jmC (s:={ s with heap:=g,drawn:=d }) Lg ait hfg sit Mg hx fun h' f' sit' M' hf' sb'=>?_;have hS':=sb'.extBut _ _ (Ne.symm itS) hSg;refine ⟨⟨c,hS'⟩,fun h'' c' e'' sb''=>⟨es.size+1-(i+1),by omega,i+1,c',h'',f',rfl,rfl,hlt,?_,e'',sb''.extBut _ _ itS sit',M'.at fun T o z e=>sb''.extBut _ _ (nT h' _ c hS' f' (i+1) q M' T z) e,⟨sb''.extBut _ _ aS (sb'.extBut _ _ ait Lg.ob),L.ex,L.dt,L.fit,L.ris,L.led⟩,hf',fun b o e=>sb''.extBut _ _ (nS b o e) (sb'.extBut _ _ ?_ (kg b o e))⟩⟩
    . rw [List.take_succ,hx];simp
    . have z:=L2.ltN e;rw [hSd] at z;have z2:S+1<=it:=by have:=hle;show S+1<=it;rw [<-hGs];exact this
      exact Yv (Yn (yP z) z2)
  . have e:i=q.length:=by omega
    refine jnH (s:={ s with heap:=g,drawn:=d }) (by simpa using hh) Lg sit Mg e fun h' k'=>?_;have hS':=k' _ _ (Ne.symm itS) hSg;show wpAny _ A (load S >>= _) _ _ _;refine Yc (wpAny_load hS' ?_);refine Yk ?_;have e2:q.take i=q:=by rw [e,List.take_length]
    have:((q.take i).toArray).toList=q:=by rw [e2]
    rw [this];refine h h' d s.toks q (fun b o e=>k' _ _ ?_ (kg b o e)) (yM (L2.ltN hS')) M.perm;have z:=L2.ltN e;rw [hSd] at z;have z2:S+1<=it:=by have:=hle;show S+1<=it;rw [<-hGs];exact this
    exact Yv (Yn (yP z) z2)
 have hS1:=k1 _ _ hS;refine Ka (fun _=>?_) (fun _=>Yk ⟨yU yX _,key G1 0 (Heap.SameBut.refl _ _) hS1⟩);refine Yc (wpAny_rule ?_);refine Yc ?_;show wpAny _ _ (updateSeq S (·.push .none) >>= fun _=>updateSeq S (·.pop)) _ _ _;refine Yc (yF hS1 rfl ?_);have hS2:=YZ (Obj.mapSeq (·.push Value.none)) hS1 rfl;refine yF (hz:=by seq_fits) hS2 rfl ?_;have hS3:=YZ (Obj.mapSeq (·.pop)) hS2 rfl;exact Yk ⟨yU yX _,key _ _ ((Heap.SameBut.update ..).trans (Heap.SameBut.update ..)) hS3⟩
theorem jih {a:Addr} {ns:List Int} {Q:Value->Shared->Prop} (hh:A.handled=none) (hS:jaC prog w s.heap a ns) (h64:ns.length<64)
 (h:∀h' d tk l out c ks,(∀b o,s.heap.get? b=some o → h'.get? b=some o) → s.heap.objs.size ≤ l → h'.get? l=some { cls:=.type "list",data:=.seq out c } → IntsAre out.toList ks → ks.Pairwise (· < ·) → (∀k,k∈ks ↔ k∈ns) → ks.length ≤ ns.length →
  Q (.ref l) { s with heap:=h',drawn:=d,toks:=tk }):wpAny (model prog w) A (call (.builtin "sorted") [.ref a]) Q E s:=by
 obtain ⟨o,es,ep,t,ho,hex,hd,hel,hmem,hf,hle,hnd,hris,hled⟩:=hS;have L:SetL w s.heap a o es ep t:=⟨ho,hex,hd,hf,hris,hled⟩;refine Calls.call_function_entry kind_sorted plain_sorted entry_sorted (args_sorted1 _) ?_;unfold Builtin.«sorted»;refine Yc (m:=checkCount "sorted" 1 1 _) (Yk ?_);refine Yc (jgT (by simpa using hh) L (Yn (by omega:es.size<64) (by decide)) fun h1 d tk vs k1 sz1 hp=>?_);have hvl:vs.length=es.size:=by have:=hp.length_eq;simpa using this
 refine Yc (wpAny_newList (hsz:=Y5 (by omega:vs.length<=64) (by decide)) ?_);have allI:∀{us:List Value},(∀v∈us,∃k t,v=Value.int k t)->IntsAre us (us.map jfo):=by
  intro us;induction us with
  | nil=>intro _;exact .nil
  | cons v us ih=>intro hv;obtain ⟨k,t,rfl⟩:=hv v Yf;exact .cons k t (ih fun x hx=>hv x (Ym _ hx))
 have hI:IntsAre vs (vs.map jfo):=allI fun v hv=>by obtain ⟨e,he,rfl⟩:=Y6.mp (hp.mem_iff.mp hv);exact jbL hel he
 have hkp:(vs.map jfo).Perm (es.toList.map fun e=>jfo e.2):=by
  have:=hp.map jfo
  rwa [YJ] at this
 have hoL:(h1.push (seqObj "list" vs.toArray 0)).get? h1.objs.size=some (seqObj "list" vs.toArray 0):=YA _ rfl;refine Yc (yn (yB slot_list_sort ⟨_,hoL,rfl⟩ entry_list_sort (list_sort_tree (s:={ s with heap:=h1.push (seqObj "list" vs.toArray 0),drawn:=d,toks:=tk }) hoL hI (by omega) fun out ks q1 q2 q3=>⟨_,rfl,?_⟩) (args_list_sort _)));refine Yk ⟨_,rfl,?_⟩;have hlt:h1.objs.size<(h1.push (seqObj "list" vs.toArray 0)).objs.size:=by rw [size_push'];exact yT _
 obtain ⟨c,hc⟩:=sortedHeap_at (out:=out) hoL;have hk2:(vs.map jfo).Nodup:=(hkp.nodup_iff).mpr hnd;have hk3:ks.Nodup:=(q2.nodup_iff).mpr hk2;refine h _ d tk h1.objs.size out c ks (fun b o e=>?_) sz1 hc q1 ?_ (fun k=>?_) ?_
 . have hb:b≠h1.objs.size:=Yv (Yy (k1 b o e));rw [sortedHeap_old hb (yL (Yy (k1 b o e)) hlt)];exact Yj _ (k1 b o e)
 . refine List.Pairwise.imp₂ (fun a b (x:a<=b) (y:a≠b)=>?_) q3 hk3;omega
 . rw [q2.mem_iff,hkp.mem_iff,Y6,hmem k];constructor
   . rintro ⟨e,he,rfl⟩;obtain ⟨j,tj,q⟩:=jbL hel he;refine ⟨e,he,?_⟩;rw [q];exact is_int.mpr rfl
   . rintro ⟨e,he,q⟩;obtain ⟨j,tj,q'⟩:=jbL hel he;refine ⟨e,he,?_⟩;rw [q'] at q ⊢;exact (is_int.mp q).symm
 . have:=q2.length_eq;rw [Yd] at this;omega
end
end L2S
namespace L2
open PySem PySem.Spec PyProof.Rows
def jdV (cells:List (Str×Addr)):List (Str×NameKind)->List (Str×Addr)->List (Str×Addr)
 | [],tI=>tI
 | (n,k)::r,tI=>jdV cells r (if (k == NameKind.free)=true then (match cells.lookup n with | some c=>(n,c)::tI | none=>tI) else tI)
theorem jdY {α β:Type} {f:α->β->Sem (ForInStep β)} {g:α->β->β}:∀(l:List α) (b:β),(∀x∈l,∀b,f x b=pure (.yield (g x b)))->forIn l b f=pure (l.foldl (fun b x=>g x b) b)
 | [],b,_=>rfl
 | x::l,b,h=>by rw [List.forIn_cons,h x Yf,pure_bind];exact jdY l _ fun y hy=>h y (Ym _ hy)
theorem jd2 (cells:List (Str×Addr)):∀(names:List (Str×NameKind)) (tI:List (Str×Addr)),
 names.foldl (fun b x=>if (x.2 == NameKind.free)=true then (match cells.lookup x.1 with | some c=>(x.1,c)::b | none=>b) else b) tI=jdV cells names tI
 | [],_=>rfl
 | (n,k)::r,tI=>by rw [List.foldl_cons,jd2 cells r];rfl
theorem jaX {scope:Scope} {env:Env} (h:∀n,(n,NameKind.free)∈scope.names->∃c,env.cells.lookup n=some c):closureFor scope env=pure (jdV env.cells scope.names []):=by
 unfold closureFor;rw [<-jd2];have key:=jdY (f:=fun (x:Str×NameKind) (cs:List (Str×Addr))=>match x with
  | (name,kind)=>if (kind == NameKind.free)=true then (do let c <- cellOf env name;pure (ForInStep.yield ((name,c)::cs))) else pure (ForInStep.yield cs))
  (g:=fun x b=>if (x.2 == NameKind.free)=true then (match env.cells.lookup x.1 with | some c=>(x.1,c)::b | none=>b) else b) scope.names [] (by
   rintro ⟨n,k⟩ hx b;dsimp only;by_cases hk:(k == NameKind.free)=true
   . have e:k=NameKind.free:=by simpa using hk
     subst e;obtain ⟨c,hc⟩:=h n hx;rw [if_pos hk,if_pos hk];unfold cellOf;rw [hc];rfl
   . rw [if_neg hk,if_neg hk])
 first
  | exact key
  | (refine Eq.trans ?_ key;rfl)
  | (simp only [key];rfl)
  | (show (forIn scope.names [] _ >>= fun cs=>pure cs)=_;rw [bind_pure];exact key)
theorem jho {cells:List (Str×Addr)}:∀{names:List (Str×NameKind)} {tI:List (Str×Addr)} {n:Str} {c:Addr},(∀n c,(n,c)∈tI->cells.lookup n=some c)->(n,c)∈jdV cells names tI->cells.lookup n=some c
 | [],tI,n,c,h,q=>h n c q
 | (m,k)::r,tI,n,c,h,q=>by
   refine jho (names:=r) ?_ q;intro n' c' q';by_cases hk:(k == NameKind.free)=true
   . rw [if_pos hk] at q';cases e:cells.lookup m with
     | none=>rw [e] at q';exact h n' c' q'
     | some d=>
       rw [e] at q';rcases Yr.mp q' with z | z
       . cases z;exact e
       . exact h n' c' z
   . rw [if_neg hk] at q';exact h n' c' q'
theorem jaw {α:Type}:∀{l:List (Str×α)} {n:Str} {c:α},l.lookup n=some c->(n,c)∈l
 | [],_,_,h=>by simp at h
 | (m,d)::r,n,c,h=>by
   rw [YS] at h;cases e:n == m with
   | true=>
     rw [e] at h;have e':n=m:=by simpa using e
     subst e';cases h;exact Yf
   | false=>rw [e] at h;exact Ym _ (jaw h)
theorem je7 {α:Type}:∀{l:List (Str×α)} {n:Str} {c:α},(n,c)∈l->∃d,l.lookup n=some d
 | (m,d)::r,n,c,h=>by
   rw [YS];cases e:n == m with
   | true=>exact ⟨d,rfl⟩
   | false=>
     rcases Yr.mp h with z | z
     . cases z;simp at e
     . exact je7 z
theorem Qr {cells:List (Str×Addr)} {names:List (Str×NameKind)} {n:Str} {c:Addr} (q:(jdV cells names []).lookup n=some c):cells.lookup n=some c:=jho (tI:=[]) (fun _ _ z=>absurd z YG) (jaw q)
theorem jeP {cells:List (Str×Addr)}:∀{names:List (Str×NameKind)} {tI:List (Str×Addr)} {p:Str×Addr},p∈tI->p∈jdV cells names tI
 | [],tI,p,h=>h
 | (m,k)::r,tI,p,h=>by
   refine jeP (names:=r) ?_;by_cases hk:(k == NameKind.free)=true
   . rw [if_pos hk];cases e:cells.lookup m with
     | none=>exact h
     | some d=>exact Ym _ h
   . rw [if_neg hk];exact h
theorem jhA {cells:List (Str×Addr)}:∀{names:List (Str×NameKind)} {tI:List (Str×Addr)} {n:Str} {c:Addr},(n,NameKind.free)∈names->cells.lookup n=some c->(n,c)∈jdV cells names tI
 | (m,k)::r,tI,n,c,h,q=>by
   rcases Yr.mp h with z | z
   . have z1:n=m:=congrArg Prod.fst z;have z2:NameKind.free=k:=congrArg Prod.snd z;subst z1 z2;show (n,c)∈jdV cells r (if (NameKind.free == NameKind.free)=true then _ else _);rw [if_pos (show (NameKind.free == NameKind.free)=true from rfl),q];exact jeP Yf
   . exact jhA (names:=r) z q
theorem jgx {cells:List (Str×Addr)} {names:List (Str×NameKind)} {n:Str} {c:Addr} (h:(n,NameKind.free)∈names) (q:cells.lookup n=some c):(jdV cells names []).lookup n=some c:=by obtain ⟨d,e⟩:=je7 (jhA (tI:=[]) h q);have:=Qr e;rw [q] at this;cases this;exact e
theorem jbK {env:Env}:∀{names:List (Str×NameKind)} {x:Str},names.lookup x=some .free->
 ((names.map fun (n,k)=>if ‹"C"› then (n,NameKind.cell) else (n,k)).lookup x=some .cell \/
  (names.map fun (n,k)=>if (k == NameKind.free && env.scope.kind == .function && env.kindOf n == some .cell) then (n,NameKind.cell) else (n,k)).lookup x=some .free)
 | [],_,h=>by simp at h
 | (n,k)::r,x,h=>by
   rw [List.map_cons];rw [YS] at h;cases hx:x == n with
   | true=>
     rw [hx] at h;have h:k=.free:=by simpa using h
     subst h;by_cases hk:(NameKind.free == NameKind.free && env.scope.kind == .function && env.kindOf n == some .cell)=true
     . left;simp only [hk,yo,YS,hx]
     . right;simp only [hk,Y0,yx,YS,hx]
   | false=>
     rw [hx] at h;have ih:=jbK (env:=env) (names:=r) (x:=x) h;by_cases hk:‹"C"›=true
     . simpa only [hk,yo,YS,hx] using ih
     . simpa only [hk,Y0,yx,YS,hx] using ih
theorem jdT {x:Str}:∀(names:List (Str×NameKind)) (n:Nat) (tI:List (Str×Addr)) (c:Addr),tI.lookup x=some c->∃d,(cellsFrom n names tI).lookup x=some d
 | [],n,tI,c,h=>⟨c,h⟩
 | (m,k)::r,n,tI,c,h=>by
   unfold cellsFrom;split
   . cases e:x == m with
     | true=>exact jdT r (n+1) _ n (by rw [YS,e])
     | false=>exact jdT r (n+1) _ c (by rw [YS,e];exact h)
   . exact jdT r n tI c h
theorem jf6 {x:Str}:∀(names:List (Str×NameKind)) (n:Nat) (tI:List (Str×Addr)),(x,NameKind.cell)∈names->∃d,(cellsFrom n names tI).lookup x=some d
 | (m,k)::r,n,tI,h=>by
   rcases Yr.mp h with z | z
   . have z1:x=m:=congrArg Prod.fst z;have z2:NameKind.cell=k:=congrArg Prod.snd z;subst z1 z2;unfold cellsFrom;rw [if_pos (show (NameKind.cell == NameKind.cell)=true from rfl)];exact jdT r (n+1) _ n (by rw [YS,beq_self_eq_true])
   . unfold cellsFrom;split
     . exact jf6 r (n+1) _ z
     . exact jf6 r n tI z
theorem jdE {x:Str}:∀(names:List (Str×NameKind)) (n:Nat) (tI:List (Str×Addr)),(x,NameKind.cell)∉names->(cellsFrom n names tI).lookup x=tI.lookup x
 | [],n,tI,h=>rfl
 | (m,k)::r,n,tI,h=>by
   have hr:(x,NameKind.cell)∉r:=fun z=>h (Ym _ z);unfold cellsFrom;split
   . rename_i hk;have hk':k=.cell:=by simpa using hk
     rw [jdE r (n+1) _ hr,YS];have:(x == m)=false:=by rw [KJ];intro e;subst e hk';exact h Yf
     rw [this]
   . exact jdE r n tI hr
theorem jfH {x:Str} {c:Addr}:∀(names:List (Str×NameKind)) (n:Nat) (tI:List (Str×Addr)),(x,NameKind.cell)∈names->(cellsFrom n names tI).lookup x=some c->n<=c
 | (m,k)::r,n,tI,h,q=>by
   unfold cellsFrom at q;by_cases hr:(x,NameKind.cell)∈r
   . split at q
     . exact Nat.le_of_succ_le (jfH r (n+1) _ hr q)
     . exact jfH r n tI hr q
   . rcases Yr.mp h with z | z
     . have z1:x=m:=congrArg Prod.fst z;have z2:NameKind.cell=k:=congrArg Prod.snd z;subst z1 z2;rw [if_pos (show (NameKind.cell == NameKind.cell)=true from rfl),jdE r (n+1) _ hr,YS,beq_self_eq_true] at q;cases q;exact Ys _
     . exact absurd z hr
theorem jlo {x:Str} {c:Addr}:∀(names:List (Str×NameKind)) (h:Heap) (tI:List (Str×Addr)),(cellsFrom h.objs.size names tI).lookup x=some c->tI.lookup x=some c\/((pushCells h names).IsCell c none/\h.objs.size<=c)
 | [],h,tI,q=>.inl q
 | (m,k)::r,h,tI,q=>by
   unfold cellsFrom at q;unfold pushCells;split at q
   . rename_i hk;rw [if_pos hk];rw [← yi h { cls:=.type "cell",data:=.cell none }] at q;rcases jlo r _ _ q with z | ⟨z1,z2⟩
     . rw [YS] at z;cases e:x == m with
       | true=>rw [e] at z;cases z;exact .inr ⟨(show (h.push { cls:=.type "cell",data:=.cell none }).IsCell h.objs.size none from ⟨_,YA _ rfl,rfl⟩).keeps (K8 r _),Ys _⟩
       | false=>rw [e] at z;exact .inl z
     . rw [yi] at z2;exact .inr ⟨z1,Nat.le_of_succ_le z2⟩
   . rename_i hk;rw [if_neg hk];exact jlo r h tI q
theorem jhZ:∀(names:List (Str×NameKind)) (n:Nat) (tI:List (Str×Addr)),(∀x c,tI.lookup x=some c->c<n)->(∀x y c,tI.lookup x=some c->tI.lookup y=some c->x=y)->
 ∀x y c,(cellsFrom n names tI).lookup x=some c->(cellsFrom n names tI).lookup y=some c->x=y
 | [],n,tI,_,h=>h
 | (m,k)::r,n,tI,hl,h=>by
   unfold cellsFrom;split
   . refine jhZ r (n+1) _ (fun x c q=>?_) fun x y c q1 q2=>?_
     . rw [YS] at q;cases e:x == m with
       | true=>rw [e] at q;cases q;exact yT _
       | false=>rw [e] at q;exact yP (hl x c q)
     . rw [YS] at q1 q2;cases e1:x == m with
       | true=>
         cases e2:y == m with
         | true=>rw [beq_iff_eq.mp e1,beq_iff_eq.mp e2]
         | false=>rw [e1] at q1;rw [e2] at q2;cases q1;exact absurd (hl y _ q2) (Y7 _)
       | false=>
         cases e2:y == m with
         | true=>rw [e1] at q1;rw [e2] at q2;cases q2;exact absurd (hl x _ q1) (Y7 _)
         | false=>rw [e1] at q1;rw [e2] at q2;exact h x y c q1 q2
   . exact jhZ r n tI hl h
theorem jcs {env:Env}:∀{names:List (Str×NameKind)} {x:Str},
 ((names.map fun (n,k)=>if ‹"C"› then (n,NameKind.cell) else (n,k)).lookup x=some .cell \/
  (names.map fun (n,k)=>if (k == NameKind.free && env.scope.kind == .function && env.kindOf n == some .cell) then (n,NameKind.cell) else (n,k)).lookup x=some .free)->(x,NameKind.free)∈names\/(x,NameKind.cell)∈names
 | [],_,h=>by simp at h
 | (n,k)::r,x,h=>by
   have ih:=jcs (env:=env) (names:=r) (x:=x);rw [List.map_cons] at h;by_cases hx:x=n
   . subst hx;by_cases hk:(k == NameKind.free && env.scope.kind == .function && env.kindOf x == some .cell)=true
     . have:k=NameKind.free:=by simp only [KI] at hk;simpa using hk.1.1
       subst this;exact .inl Yf
     . simp only [hk,YS,beq_self_eq_true] at h;rcases h with h | h
       . have:k=NameKind.cell:=by simpa using h
         subst this;exact .inr Yf
       . have:k=NameKind.free:=by simpa using h
         subst this;exact .inl Yf
   . have hb:(x == n)=false:=by simpa using hx
     have ih':=ih (by
       by_cases hk:‹"C"›=true
       . simpa only [hk,yo,YS,hb] using h
       . simpa only [hk,Y0,yx,YS,hb] using h)
     rcases ih' with z | z
     . exact .inl (Ym _ z)
     . exact .inr (Ym _ z)
def ja5 (scope:Scope) (x:Str):Bool:=match scope.names.lookup x with
 | some .cell=>true
 | _=>false
theorem jdC {scope:Scope} {x:Str} (h:ja5 scope x=true):(x,NameKind.cell)∈scope.names:=by
 unfold ja5 at h;split at h
 . rename_i e;exact jaw e
 . cases h
def bcl (C:Addr) (scope:Scope) (cells:List (Str×Addr)):List (Str×Addr):=cellsFrom (C+1) scope.names (jdV cells scope.names [])
section
variable {M:Model} {A:Around} {E:Value->Shared->Prop} {s:Shared}
theorem QU {scope:Scope} {globals:Addr} {closure:List (Str×Addr)} {qual:Str} {func:Option Addr} {code:Value} {outer:Env} {builtins:Addr} {Q:Env->Shared->Prop}
 (hQ:Q (newEnv scope s.heap.objs.size globals (cellsFrom (s.heap.objs.size+1) scope.names closure) qual func code (some outer) builtins) { s with heap:=pushCells (s.heap.push { cls:=.type "dict",data:=.dict #[] }) scope.names }) :
 wpAny M A (newFunctionEnv scope globals closure [] qual func code (some outer) builtins) Q E s:=by
 simp only [newFunctionEnv,Option.isSome_some,yo];refine Yc (wpAny_alloc ?_);refine Yc (wpAny_layCells _ (fun name kind cells=>by cases hkc:kind == NameKind.cell <;> simp [hkc]) _ _ _ _ ?_);rw [show ({ s with heap:=s.heap.push { cls:=.type "dict",data:=.dict #[] } }:Shared).heap.objs.size=s.heap.objs.size+1 from yi ..];rw [List.forIn_nil];exact Yc (Yk (Yk hQ))
end
def Cx.blk (X:Cx) (N:List Str) (scope:Scope) (C:Addr) (s:Shared) (H:Hp) (fp:List Addr):Cx:={ X with N:=N,s₀:=s,H₀:=H,env:=compEnvC scope (bcl C scope X.env.cells) C X.env,outer:=X.stack,stack:=X.stack,ex:=fp,fn:=ja5 scope,pn:=[],xe:=fun _ _=>False }
def capt (σ:St) (ix:List Nat):St:=ix.map fun k=>(σ[k]?).getD none
def Qd (n:Nat) (σ:St) (ix:List Nat):St:=List.replicate n none++capt σ ix
def jim (n:Nat) (g:TG):Prop:=∀x σ H Q,g x σ H Q->g x σ H fun σ2 H2=>Q σ2 H2/\σ2.length=σ.length/\∀j,n<=j->σ2[j]?=σ[j]?
theorem jkc {n i:Nat} (h:i<n):jim n (jaG i):=fun x σ H Q q=>⟨q,by simp,fun j hj=>by rw [YR (by omega)]⟩
def PTs (X:Cx) (ifs:List Expr) (t:TT):Prop:=
 ∀(tf:List (Addr×Obj)) (s:Shared) (σ:St) (H:Hp) (Q:Bool->Hp->Prop) (E:Value->Shared->Prop),(∀e s',X.xe e s'->E e s')->Inv X tf σ H s->t σ H Q->
   wpAny ‹"f"› X.A (forIn ifs true fun c r=>if r=true then do let ok <- isTrue c X.env (eval c X.env);pure (ForInStep.yield ok) else pure (ForInStep.yield r)) (TP X tf σ Q) E s
def jou:TT:=fun _ H Q=>Q true H
theorem jmV {X:Cx}:PTs X [] jou:=fun _ _ _ H _ _ _ I h=>wpAny_tests_nil ⟨H,I,h⟩
theorem jnB {X:Cx} {c:Expr} {t:TT} (h:PT X c t):PTs X [c] t:=fun tf s σ H Q E hE I q=>wpAny_tests_one (yq (h tf s σ H Q I q) (fun _ _ z=>z) hE)
def tLC (wi:TI) (g:TG) (tt:TT) (te:TE) (n:Nat) (ix:List Nat):TE:=fun σ H Q=>wi σ H fun J H1=>∃W:Nat->Nat->List V->Hp->Prop,(∃m,W 0 m [] H1)/\∀i m ys H,W i m ys H->
 (J.stop i H/\ys.length<=sizeLine/\∀p,H p=none->Q (.ref p) (upd H p (.lst ys))) \/
 (J.go i H/\ys.length<sizeLine/\∃N:List V->Hp->Prop,(∀ys' H',N ys' H'->∃m',m'<m/\W (i+1) m' ys' H')/\∀x H',J.yld i H x H'->g x (Qd n σ ix) H' fun σ2 H2=>tt σ2 H2 fun b H3=>if b=true then te σ2 H3 fun v H4=>N (ys++[v]) H4 else N ys H3)
section
variable {prog:Program} {w:World} {A:Around} {E:Value->Shared->Prop} {R:Result->Shared->Prop} {s:Shared}
theorem jah {elt target iter:Expr} {ifs:List Expr} {scope:Scope} {pos:Pos} {it tI:Value} {env:Env} (I:Nat->Shared->Prop)
 (turn:∀n s,I n s->wpAny (model prog w) A (pyNext it) (fun r s₁=>match r with
  | none=>R (.ok .next) s₁
  | some v=>wpAny (model prog w) A (letOwnedTupleGo target it v) (fun _ s₁'=>wpAny (model prog w) A (assign target env v) (fun _ s₂=>
      wpAny (model prog w) A (forIn ifs true fun c r=>if r=true then do let ok <- isTrue c env (eval c env);pure (ForInStep.yield ok) else pure (ForInStep.yield r)) (fun ok s₃=>
        if ok=true then wpAny (model prog w) A (eval elt env) (fun x s₄=>wpAny (model prog w) A (call (.builtin "list.append") [tI,x]) (fun _ s₅=>∃m,m<n ∧ I m s₅) (fun _ _=>False) s₄) (fun _ _=>False) s₃
        else ∃m,m<n/\I m s₃) (fun _ _=>False) s₂) (fun _ _=>False) s₁') (fun _ _=>False) s₁) (fun _ _=>False) s)
 (n:Nat) (h:I n s) :
 codeAny (model prog w) A (.compLoop (.ListComp elt [⟨target,iter,ifs,0⟩] scope pos) 0 it tI env) R s:=by
 refine codeAny_loop rfl I (fun n s hI=>?_) n h;show wpAny _ A ((compTurn (.ListComp elt [⟨target,iter,ifs,0⟩] scope pos) 0 it tI env).onRaise (fun x=>do noteFrame x env;theTreesLotGoes x)) _ _ s;refine wpAny_noted ?_;rw [compTurn_list];refine Yc (wpAny_standAt (Yc (yq (turn n s hI) (fun r s₁ h₁=>?_) fun _ _ h'=>h'.elim)));cases r with
 | none=>exact Yk h₁
 | some v=>
   refine Yc (yq h₁ (fun _ s₁' h₁'=>?_) fun _ _ h'=>h'.elim);refine Yc (yq h₁' (fun _ s₂ h₂=>Yc (yq h₂ (fun ok s₃ h₃=>?_) fun _ _ h'=>h'.elim)) fun _ _ h'=>h'.elim);cases ok with
   | false=>exact Yk ⟨rfl,h₃⟩
   | true=>exact Yc (Yc (yq h₃ (fun x s₄ h₄=>Yc (yq h₄ (fun _ s₅ h₅=>Yk (Yk ⟨rfl,h₅⟩)) fun _ _ h'=>h'.elim)) fun _ _ h'=>h'.elim))
end
section
variable {X:Cx} {tf:List (Addr×Obj)} {σ:St} {H:Hp} {s:Shared} {scope:Scope} {C:Addr} {fp:List Addr}
theorem Inv.bclOld (I:Inv X tf σ H s) (hC:s.heap.objs.size<=C) {x:Str} {c:Addr} (e:(bcl C scope X.env.cells).lookup x=some c):X.env.cells.lookup x=some c\/C<c:=by
 by_cases h:(x,NameKind.cell)∈scope.names
 . exact .inr (jfH _ _ _ h e)
 . unfold bcl at e;rw [jdE _ _ _ h] at e;exact .inl (Qr e)
theorem Inv.blkOk (I:Inv X tf σ H s) (N:List Str) (hC:s.heap.objs.size<=C) (hkind:scope.kind=.function)
 (hfree:∀n,(n,NameKind.free)∈scope.names->X.env.scope.names.lookup n=some .cell\/X.env.scope.names.lookup n=some .free)
 (hf:∀b∈fp,jdg X tf H b) (hfl:∀b∈fp,b<s.heap.objs.size):(X.blk N scope C s H fp).Ok where
 mod:=I.ok.mod
 kind:=hkind
 glob:=I.ok.glob
 blt:=I.ok.blt
 above:=hC
 inj:=jhZ _ _ _ (fun x c e=>by obtain ⟨v,q⟩:=I.cell x c (Qr e);exact yP (Yn q.lt hC)) fun x y c e1 e2=>I.ok.inj x y c (Qr e1) (Qr e2)
 has:=fun x hx=>by
  rcases jcs (env:=X.env) hx with q | q
  . obtain ⟨c,e⟩:=I.ok.has x (hfree x q);exact jdT _ _ _ c (jgx q e)
  . exact jf6 _ _ _ q
 cab:=fun x c e q=>Y5 hC (yM (jfH _ _ _ (jdC e) q))
 hd:=I.ok.hd
 frames:=I.ok.frames
 stk:=.inl rfl
 exf:=fun b hb=>⟨Yv (Yn (hfl b hb) hC),fun x c e=>by
  rcases I.bclOld hC e with z | z
  . exact (hf b hb).2.2.2.2.1 x c z
  . exact yp (Yn (hfl b hb) (Y5 hC (yM z)))⟩
 bs:=I.bs
 bsz:=Y5 I.ok.bsz I.sz
 noex:=fun b o e hb=>by
  rcases (hf b hb).2.2.2.1 with z | z
  . exact I.ok.noex b o e z
  . exact absurd (Yn (Yy (I.ok.bs b o e).1) z) (Y7 _)
 exfs:=fun b hb z=>by
  rcases Yr.mp (I.stkSub b z) with q | q
  . exact (hf b hb).2.1 q
  . exact (hf b hb).2.2.1 q
 funs:=I.stack
 frf:=I.stkFree
theorem Inv.unblk {σ':St} {H':Hp} {s':Shared} {N:List Str} {D:Addr} {ys:List V} {its:List Value} {n:Nat} {pl:List (Addr×Obj)} (I:Inv X tf σ H s) (hf:∀b∈fp,jdg X tf H b) (hD:s.heap.objs.size<=D)
 (J:Inv (X.blk N scope C s H fp) pl σ' H' s') (hv:Vals ys its) (hz:ys.length ≤ sizeLine) (hl:s'.heap.get? D=some { cls:=.type "list",data:=.seq its.toArray n }) (hn:H' D=none):Inv X tf σ (upd H' D (.lst ys)) s':=by
 have u:Un (frs X.stack) fp H H' s.heap s'.heap:=J.base;have neD:∀b o,s.heap.get? b=some o->b≠D:=fun b o e=>Yv (Yn (Yy e) hD);refine I.call' (ch:=fp) J.os (u:=⟨u.keep,u.slot,fun b o e n' hx=>?_,u.there,fun b xs e=>?_,fun b o x e=>?_,fun b ps e=>?_⟩) ?_ J.bare fun b hb=>⟨(hf b hb).2.2.2.1,(hf b hb).2.1,(hf b hb).2.2.2.2.1,(hf b hb).2.2.2.2.2⟩
 . rw [jF (neD b o e)];exact u.free b o e n' hx
 . rw [jF (jM (u.tups b xs e) hn)];exact u.tups b xs e
 . rw [jF (jM (u.frzs b o x e) hn)];exact u.frzs b o x e
 . obtain ⟨more,q⟩:=u.tbls b ps e;exact ⟨more,by rw [jF (jM q hn)];exact q⟩
 . intro b o e;by_cases hb:b=D
   . subst hb;rw [jE] at e;cases e;exact ⟨hz,its,n,hv,hl⟩
   . rw [jF hb] at e;exact (J.hok b o e).stay (fun c v _ q=>q) (fun c q=>by rw [jF (jM q hn)];exact q) fun c xs q=>by rw [jF (jM q hn)];exact q
end
section
variable {X:Cx} {elt iter tg:Expr} {ifs:List Expr} {scope:Scope} {pos:Pos} {Lc F:List Str} {ix:List Nat} {wi:TI} {g:TG} {tt:TT} {te:TE}
theorem jll {σ:St} {ix:List Nat} {j:Nat} {v:V} (h:(capt σ ix)[j]?=some (some v)):∃k,ix[j]?=some k/\σ[k]?=some (some v):=by
 unfold capt at h;rw [List.getElem?_map] at h;cases e:ix[j]? with
 | none=>rw [e] at h;cases h
 | some k=>
   rw [e] at h;have h':(σ[k]?).getD none=some v:=Option.some.inj h;refine ⟨k,rfl,?_⟩;cases q:σ[k]? with
   | none=>rw [q] at h';cases h'
   | some o=>rw [q] at h';rw [show o=some v from h']
theorem jgD {tf:List (Addr×Obj)} {σ:St} {H:Hp} {s:Shared} {it:Addr} {fp:List Addr} {tn:Nat->Heap->Prop} {J:It} {E:Value->Shared->Prop} {Qv:List V->Hp->Prop} {RR:Value->Addr->Result->Shared->Prop}
 (hc:X.calm=true) (hkind:scope.kind=.function) (hcell:∀y∈scope.names,y.2=.cell->scope.names.lookup y.1=some .cell)
 (hfree:∀n,(n,NameKind.free)∈scope.names->X.env.scope.names.lookup n=some .cell\/X.env.scope.names.lookup n=some .free)
 (hix:ix.length=F.length) (hF:∀(j:Nat) (x:Str) (k:Nat),F[j]?=some x->ix[j]?=some k->X.N[k]?=some x/\(X.env.scope.names.lookup x=some .cell\/X.env.scope.names.lookup x=some .free)/\scope.names.lookup x=some .free)
 (hg:∀C s H fp,PG ‹"e"› tg g) (hloc:jim Lc.length g) (ht:∀C s H fp,PTs ‹"e"› ifs tt) (he:∀C s H fp,PE ‹"e"› elt te)
 (I:Inv X tf σ H s) (T:Turn X.prog X.w X.K tg J fp it tn) (st0:tn 0 s.heap) (hf:∀b∈fp,jdg X tf H b)
 (W:Nat->Nat->List V->Hp->Prop) (w0:∃m,W 0 m [] H)
 (turn:∀i m ys H,W i m ys H->(J.stop i H/\ys.length<=sizeLine/\Qv ys H) \/
  (J.go i H/\ys.length<sizeLine/\∃N:List V->Hp->Prop,(∀ys' H',N ys' H'->∃m',m'<m/\W (i+1) m' ys' H')/\∀x H',J.yld i H x H'->g x (Qd Lc.length σ ix) H' fun σ2 H2=>tt σ2 H2 fun b H3=>if b=true then te σ2 H3 fun v H4=>N (ys++[v]) H4 else N ys H3))
 (hRR:∀(D C:Addr) (H':Hp) (s':Shared) (ys:List V) (m:Str->Option Value),D≠C->s.heap.objs.size<=D->s.heap.objs.size<=C->H' D=none->H' C=none->s'.heap.Ns C m->Inv X tf σ (upd H' D (.lst ys)) s'->Qv ys H'->RR (.ref D) C (.ok .next) s') :
 wpAny ‹"f"› X.A (newList []) (fun tI s₃=>wpAny ‹"f"› X.A (newFunctionEnv scope X.env.globals (jdV X.env.cells scope.names []) [] X.env.qual none .none (some X.env)) (fun cenv s₄=>codeAny ‹"f"› X.A (.compStart ‹"r"› 0 (.ref it) tI { cenv with scope:=relabel scope X.env }) (RR tI cenv.locals) s₄) E s₃) E s:=by
 refine Kx (QU ?_);dsimp only;generalize hH2:s.heap.push { cls:=.type "list",dict:=none,data:=.seq ([]:List Value).toArray }=G;have hCs:G.objs.size=s.heap.objs.size+1:=by rw [<-hH2,yi]
 have hDC:s.heap.objs.size≠G.objs.size:=by rw [hCs];exact Yv (yT _)
 have hCle:s.heap.objs.size<=G.objs.size:=by rw [hCs];exact K9 _
 have hns₁:‹"N"›.Ns G.objs.size fun _=>none:=(Heap.Ns.new G (.type "dict")).keeps (K8 _ _);have old:∀b o,s.heap.get? b=some o → ‹"N"›.get? b=some o:=fun b o e=>K8 _ _ _ _ (Yj _ (hH2 ▸ Yj _ e));have hacc:‹"N"›.get? s.heap.objs.size=some { cls:=.type "list",data:=.seq ([]:List Value).toArray }:=K8 _ _ _ _ (Yj _ (hH2 ▸ YA _ rfl));have hcs:∀x c,(bcl G.objs.size scope X.env.cells).lookup x=some c → X.env.cells.lookup x=some c ∨ (‹"N"›.IsCell c none ∧ G.objs.size<c):=fun x c e=>by
  unfold bcl at e;rw [← yi G { cls:=.type "dict",data:=.dict #[] }] at e;rcases jlo _ _ _ e with z | ⟨z1,z2⟩
  . exact .inl (Qr z)
  . rw [yi] at z2;exact .inr ⟨z1,z2⟩
 generalize hh1:pushCells (G.push { cls:=.type "dict",data:=.dict #[] }) scope.names=h₁ at hns₁ old hacc hcs ⊢;generalize hD:s.heap.objs.size=D at *
 generalize hC:G.objs.size=C at *
 have hfl:∀b∈fp,b<D:=fun b hb=>by obtain ⟨o,e,_⟩:=T.obj 0 _ st0 b hb;rw [<-hD];exact Yy e
 have hfl':∀b∈fp,b<s.heap.objs.size:=fun b hb=>by rw [hD];exact hfl b hb
 have ok:‹"e"›.Ok:=I.blkOk (Lc++F) (by rw [hD];exact hCle) hkind hfree hf hfl';have hσl:(Qd Lc.length σ ix).length=(Lc++F).length:=by unfold Qd capt;rw [YQ,YQ,List.length_replicate,Yd,hix]
 have fpB:∀{H':Hp} {pl:List (Addr×Obj)},(∀b∈fp,H' b=none)->(∀p∈pl,p.1=D)->∀b∈fp,jdg ‹"e"› pl H' b:=fun {H' pl} hn hp b hb=>
  ⟨hn b hb,Yv (Yn (hfl b hb) hCle),ok.exfs b hb,.inl hb,(ok.exf b hb).2,fun p hp'=>by
   have hp2:p∈pl:=by simpa [Cx.blk] using hp'
   rw [hp p hp2];exact yp (hfl b hb)⟩
 have HD:H D=none:=I.hok.fresh (by rw [hD];exact Ys _);have HC:H C=none:=I.hok.fresh (by rw [hD];exact hCle);have nfsD:∀b,D<=b->b∉frs X.stack:=fun b hb z=>by obtain ⟨_,o,ho,_⟩:=I.stack.mem z;have:=Yy ho;rw [hD] at this;exact absurd (Yn this hb) (Y7 _)
 have nD:∀x c,(bcl C scope X.env.cells).lookup x=some c->c≠D:=fun x c e z=>by
  rcases hcs x c e with e | ⟨_,e⟩
  . obtain ⟨v,q⟩:=I.cell x c e;have:=q.lt;rw [hD,z] at this;exact absurd this (Y7 _)
  . rw [z] at e;exact absurd (yz hCle e) (Y7 _)
 have jaI:∀s3:Shared,s3={ s with heap:=h₁ } → Inv ‹"e"› [(D,{ cls:=.type "list",data:=.seq ([]:List Value).toArray })] (Qd Lc.length σ ix) H s3:=by
  rintro s3 rfl;refine ⟨ok,rfl,I.bare,Un.kept old,⟨_,hns₁,fun i x v e1 e2 e3=>?_⟩,fun x c e=>?_,HC,fun x c e=>?_,fun p hp=>?_,I.hok.kept old,hσl⟩
  . have hi:Lc.length<=i:=by
      rcases YX i Lc.length with q | q
      . unfold Qd at e2;rw [YC (by simpa using q),List.getElem?_replicate] at e2;rw [if_pos q] at e2;cases e2
      . exact q
    have e2':(capt σ ix)[i-Lc.length]?=some (some v):=by
      unfold Qd at e2
      rwa [Yz ‹"aq"›,List.length_replicate] at e2
    have e1':F[i-Lc.length]?=some x:=by
      have e1'':(Lc++F)[i]?=some x:=e1
      rwa [Yz hi] at e1''
    obtain ⟨k,hk,hσ⟩:=jll e2';obtain ⟨hN,hcl,hfr⟩:=hF _ x k e1' hk;obtain ⟨m,hn,hl⟩:=I.loc;obtain ⟨u,r,lk⟩:=hl k x v hN hσ (by rcases hcl with z | z;exact .inr (.inl z);exact .inr (.inr z));refine ⟨u,r,.inr ⟨?_,?_⟩⟩
    . exact jbK (env:=X.env) hfr
    . rcases lk with ⟨hk1,_⟩ | ⟨_,c,hc1,hc2⟩
      . have hk1':X.env.scope.names.lookup x=some .local:=hk1;rcases hcl with z | z <;> · rw [hk1'] at z;cases z
      . refine ⟨c,(jdE _ _ _ fun z=>?_).trans (jgx (jaw hfr) hc1),?_⟩
        . have:=hcell _ z rfl;rw [hfr] at this;cases this
        obtain ⟨o,ho,hd⟩:=hc2;exact ⟨o,old c o ho,hd⟩
  . rcases hcs x c e with e | ⟨e,_⟩
    . obtain ⟨v,o,ho,hd⟩:=I.cell x c e;exact ⟨v,o,old c o ho,hd⟩
    . exact ⟨none,e⟩
  . rcases hcs x c e with e | ⟨_,e⟩
    . exact I.freeC x c e
    . exact I.hok.fresh (by rw [hD];exact Y5 hCle (yM e))
  . have:p=(D,{ cls:=.type "list",data:=.seq ([]:List Value).toArray }):=by simpa [Cx.blk] using hp
    subst this;exact ⟨hacc,HD,hDC,nfsD D (Ys _),fun v z=>nomatch z⟩
 have loop:∀s3:Shared,s3={ s with heap:=h₁ }->
  codeAny ‹"f"› X.A (.compLoop ‹"r"› 0 (.ref it) (.ref D) ‹"e"›.env) (RR (.ref D) C) s3:=by
  intro s3 hs3;obtain ⟨m0,w0⟩:=w0;have st3:tn 0 s3.heap:=by subst hs3;exact T.keep 0 _ _ st0 fun b _ o e=>old b o e
  refine jah (fun n s'=>∃i ys its k H',Inv ‹"e"› [(D,{ cls:=.type "list",data:=.seq its.toArray k })] (Qd Lc.length σ ix) H' s' ∧ Vals ys its ∧ tn i s'.heap ∧ (∀b∈fp,H' b=none) ∧ W i n ys H')
   ?_ m0 ⟨0,[],[],0,H,jaI s3 hs3,.nil,st3,fun b hb=>(hf b hb).1,w0⟩
  rintro n s4 ⟨i,ys,its,k,H4,I4,rv,st4,fr4,w4⟩;have pD:∀p∈[((D,{ cls:=.type "list",data:=.seq its.toArray k }):Addr×Obj)],p.1=D:=fun p hp=>by simp at hp;rw [hp]
  rcases turn i n ys H4 w4 with ⟨stop,hz,q⟩ | ⟨go,hz,N,hN,step⟩
  . refine qI (T.done ‹"e"› rfl rfl rfl hc i _ s4 _ H4 _ I4 (fpB fr4 pD) st4 stop) fun r s5 zz=>?_;obtain ⟨hr,I5⟩:=zz;subst hr;obtain ⟨p1,p2,p3,p4,p5⟩:=I5.pin _ (YL _ Yf);obtain ⟨m,hn,_⟩:=I5.loc;exact hRR D C H4 s5 ys m hDC (Ys _) hCle p2 I5.free hn (I.unblk (C:=C) (scope:=scope) hf (by rw [hD];exact Ys _) I5 rv hz p1 p2) q
  . refine qI (T.item ‹"e"› rfl rfl rfl hc i _ s4 _ H4 _ I4 (fpB fr4 pD) st4 go) fun r s5 zz=>?_;obtain ⟨u,hr,h5⟩:=zz;subst hr;refine qI h5 fun _ s6 zz=>?_;obtain ⟨x,H6,I6,r6,y6,st6,fr6⟩:=zz;have I6':=I6.pinned (fpB fr6 pD) (T.obj _ _ st6);refine qI (hg C s H fp _ s6 _ H6 x u _ I6' r6 (hloc _ _ _ _ (step x H6 y6))) fun _ s7 zz=>?_;obtain ⟨σ7,H7,I7,q7,l7,k7⟩:=zz;have weak:∀(j:Nat) v,(Qd Lc.length σ ix)[j]?=some (some v)->σ7[j]?=some (some v):=fun j v e=>by
      rw [k7 j ?_];exact e;rcases YX j Lc.length with z | z
      . unfold Qd at e;rw [YC (by simpa using z),List.getElem?_replicate,if_pos z] at e;cases e
      . exact z
    have fin:∀{s':Shared} {H':Hp} {i':Nat} {ys':List V} {its':List Value} {k':Nat},Inv ‹"e"› [] σ7 H' s' → s'.heap.get? D=some { cls:=.type "list",data:=.seq its'.toArray k' } → H' D=none → Inv ‹"e"› [(D,{ cls:=.type "list",data:=.seq its'.toArray k' })] (Qd Lc.length σ ix) H' s':=fun {s' H' i' ys' its' k'} I' e n'=>
      (I'.weak (by rw [l7]) weak).pins_of fun p hp=>by
       have:p=(D,{ cls:=.type "list",data:=.seq its'.toArray k' }):=by simpa using hp
       subst this;exact ⟨e,n',hDC,nfsD D (Ys _),fun v z=>nomatch z⟩
    refine qI (ht C s H fp _ s7 σ7 H7 _ _ (fun _ _ z=>z) I7 q7) fun b s8 zz=>?_;obtain ⟨H8,I8,q8⟩:=zz;have keepS:∀{s':Shared} {H':Hp},Inv ‹"e"› ([((D,{ cls:=.type "list",data:=.seq its.toArray k }):Addr×Obj)]++jdX fp s6.heap) σ7 H' s' → tn (i+1) s'.heap ∧ (∀b∈fp,H' b=none) ∧ s'.heap.get? D=some { cls:=.type "list",data:=.seq its.toArray k } ∧ H' D=none:=fun {s' H'} I'=>by
      refine ⟨T.keep _ _ _ st6 fun b hb o e=>(I'.pin (b,o) (YL _ (YL _ (Zt hb e)))).1,fun b hb=>?_,?_⟩
      . obtain ⟨o,e,d⟩:=T.obj _ _ st6 b hb;exact (I'.pin (b,o) (YL _ (YL _ (Zt hb e)))).2.1
      . have:=I'.pin (D,{ cls:=.type "list",data:=.seq its.toArray k }) (YL _ (Yx _ Yf));exact ⟨this.1,this.2.1⟩
    cases b with
    | false=>rw [if_neg Yh] at q8 ⊢;obtain ⟨m',hm,w8⟩:=hN _ _ q8;obtain ⟨a1,a2,a3,a4⟩:=keepS I8;exact ⟨m',hm,i+1,ys,its,k,H8,fin (i':=i) (ys':=ys) (I8.pins_of fun p hp=>nomatch hp) a3 a4,rv,a1,a2,w8⟩
    | true=>
      rw [if_pos rfl] at q8 ⊢;refine qI (he C s H fp _ s8 σ7 H8 _ I8 q8) fun xv s9 zz=>?_;obtain ⟨v,H9,I9,r9,q9⟩:=zz;obtain ⟨m',hm,w9⟩:=hN _ _ q9;obtain ⟨a1,a2,a3,a4⟩:=keepS I9;have tL:=rv.length;refine wpAny_list_append_plain (hsz:=by simp;omega) ⟨k,a3⟩ fun h10 hl10 hs10=>?_;obtain ⟨k10,e10⟩:=hl10;have I9':Inv ‹"e"› [] σ7 H9 s9:=I9.pins_of fun p hp=>nomatch hp;have I10:Inv ‹"e"› [] σ7 H9 { s9 with heap:=h10,toks:=s9.toks }:=I9'.turned (it:=D) (fun b o hb e=>(hs10.2 b hb).trans e) a4 hDC (.inr (by show s.heap.objs.size<=D;rw [hD];exact Ys _)) nD (fun p hp=>nomatch hp);have e10':h10.get? D=some { cls:=.type "list",data:=.seq (its++[xv]).toArray k10 }:=by rw [e10,List.push_toArray]
      refine ⟨m',hm,i+1,ys++[v],its++[xv],k10,H9,fin (i':=i) (ys':=ys) I10 e10' a4,Paired.snoc rv r9,?_,a2,w9⟩;exact T.keep _ _ _ a1 fun b hb o e=>(hs10.2 b (Yv (hfl b hb))).trans e
 exact codeAny_compStart_list (loop _ rfl) (T.self _ 0 _ _ _ (T.keep 0 _ _ st0 fun b _ o e=>old b o e) (loop _ rfl))
theorem jrl (hc:X.calm=true) (hkind:scope.kind=.function) (hnames:∀x∈scope.names,x.2=.local->scope.names.lookup x.1=some .local) (hcell:∀y∈scope.names,y.2=.cell->scope.names.lookup y.1=some .cell)
 (hfree:∀n,(n,NameKind.free)∈scope.names->X.env.scope.names.lookup n=some .cell\/X.env.scope.names.lookup n=some .free)
 (hix:ix.length=F.length) (hF:∀(j:Nat) (x:Str) (k:Nat),F[j]?=some x->ix[j]?=some k->X.N[k]?=some x/\(X.env.scope.names.lookup x=some .cell\/X.env.scope.names.lookup x=some .free)/\scope.names.lookup x=some .free)
 (hi:PI X tg iter wi) (hg:∀C s H fp,PG ‹"e"› tg g) (hloc:jim Lc.length g) (ht:∀C s H fp,PTs ‹"e"› ifs tt) (he:∀C s H fp,PE ‹"e"› elt te)
 (hs:∀x,foldedSetIterable iter X.env x=pure x:=by intro _;rfl):PE X ‹"r"› (tLC wi g tt te Lc.length ix):=by
 intro tf s σ H Q I h;rw [eval_ListComp];refine wpAny_comprehension_free (use:=none) rfl hs (jaX fun n hn=>I.ok.has n (hfree n hn)) hkind hnames (qI (hi tf s σ H _ I h) fun xv s₁ h₁=>qI h₁ fun itv s₂ h₂=>?_);obtain ⟨it,fp,tn,J,H2,rfl,I2,T,st2,f2,W,w0,turn⟩:=h₂;refine jgD (RR:=fun tI C=>compPost ‹"f"› X.A X.xe none (EP X tf σ Q) tI C) (Qv:=fun ys H'=>∀p,H' p=none->Q (.ref p) (upd H' p (.lst ys))) hc hkind hcell hfree hix hF hg hloc ht he I2 T st2 f2 W w0 turn ?_;intro D C H' s' ys m hDC hD hC nD nC hn I' q;refine ⟨m,hn,fun h' hsb=>⟨.ref D,upd H' D (.lst ys),?_,rfl,q D nD⟩⟩;refine I'.turned (it:=C) (t':=s'.toks) (fun b o hb e=>(hsb.2 b hb).trans e) (by rw [jF (Ne.symm hDC)];exact nC) (fun z=>?_) (.inr (Y5 I2.sz hC)) (fun x c e z=>?_) fun p hp z=>?_
 . exact absurd (Yn (by rw [z];exact I2.lt) hC) (Y7 _)
 . obtain ⟨v,w⟩:=I2.cell x c e;exact absurd (Yn w.lt (by rw [z];exact hC)) (Y7 _)
 . have:=Yy (I2.pin p hp).1;rw [z] at this;exact absurd (Yn this hC) (Y7 _)
theorem jkG {i:Nat} {y:Str} {py spos:Pos} (hN:X.N.Nodup) (hy:X.N[i]?=some y) (hyl:X.env.scope.names.lookup y=some .local)
 (hc:X.calm=true) (hkind:scope.kind=.function) (hnames:∀x∈scope.names,x.2=.local->scope.names.lookup x.1=some .local) (hcell:∀y∈scope.names,y.2=.cell->scope.names.lookup y.1=some .cell)
 (hfree:∀n,(n,NameKind.free)∈scope.names->X.env.scope.names.lookup n=some .cell\/X.env.scope.names.lookup n=some .free)
 (hix:ix.length=F.length) (hF:∀(j:Nat) (x:Str) (k:Nat),F[j]?=some x->ix[j]?=some k->X.N[k]?=some x/\(X.env.scope.names.lookup x=some .cell\/X.env.scope.names.lookup x=some .free)/\scope.names.lookup x=some .free)
 (hi:PI X tg iter wi) (hg:∀C s H fp,PG ‹"e"› tg g) (hloc:jim Lc.length g) (ht:∀C s H fp,PTs ‹"e"› ifs tt) (he:∀C s H fp,PE ‹"e"› elt te)
 (hsw:swapsWith ‹"r"› (some (.Name y py)) spos.line X.env=pure true)
 (hs:∀x,foldedSetIterable iter X.env x=pure x:=by intro _;rfl):PS X (.Assign [.Name y py] ‹"r"› spos) (jeB (tLC wi g tt te Lc.length ix) (jaG i)):=by
 intro tf s σ H D₀ I h;rw [exec_Assign_Name_used _ _ _ _ hsw];refine Yc (wpAny_standAt (Yc ?_));show wpAny _ X.A (do let _ <- comprehension ‹"r"› scope X.env _ (newList []) false (eval iter X.env) (some (assign (.Name y py) X.env))) _ _ s;refine Yc (yq (wpAny_comprehension_free (use:=some (assign (.Name y py) X.env)) (Q:=fun _ s'=>SP X tf D₀ .next s') rfl hs (jaX fun n hn=>I.ok.has n (hfree n hn)) hkind hnames
  (qI (hi tf s σ H _ I h) fun xv s₁ h₁=>qI h₁ fun itv s₂ h₂=>?_)) (fun _ s' hq=>Yk (Yk hq)) fun _ _ e=>e)
 obtain ⟨it,fp,tn,J,H2,rfl,I2,T,st2,f2,W,w0,turn⟩:=h₂;refine jgD (RR:=fun tI C=>compPost ‹"f"› X.A X.xe (some (assign (.Name y py) X.env)) (fun _ s'=>SP X tf D₀ .next s') tI C) (Qv:=fun ys H'=>∀p,H' p=none->D₀.nx (σ.set i (some (.ref p))) (upd H' p (.lst ys)))
  hc hkind hcell hfree hix hF hg hloc ht he I2 T st2 f2 W w0 turn ?_
 intro D C H' s' ys m hDC hD hC nD nC hn I' q;show wpAny _ X.A (assign (.Name y py) X.env (.ref D)) _ _ s';refine wpAny_assign_Name (jeO I' hN hy (.inl hyl) (v:=.ref D) rfl (fun s2 I2' zz=>?_) (.inr hyl));obtain ⟨a,hsb,ha⟩:=zz;have hCL:C≠X.env.locals:=fun z=>absurd (Yn (by rw [z];exact I2.lt) hC) (Y7 _);have hCc:∀x c,X.env.cells.lookup x=some c->c≠C:=fun x c e z=>by obtain ⟨v,w⟩:=I2.cell x c e;exact absurd (Yn w.lt (by rw [z];exact hC)) (Y7 _)
 have hCa:C≠a:=by
  rcases ha with z | z
  . rw [z];exact hCL
  . exact fun w=>hCc y a z w.symm
 refine ⟨m,hn.sameBut hsb hCa,fun h' hsb'=>⟨σ.set i (some (.ref D)),upd H' D (.lst ys),?_,q D nD⟩⟩;refine I2'.turned (it:=C) (t':=s2.toks) (fun b o hb e=>(hsb'.2 b hb).trans e) (by rw [jF (Ne.symm hDC)];exact nC) hCL (.inr (Y5 I2.sz hC)) hCc fun p hp z=>?_;have:=Yy (I2.pin p hp).1;rw [z] at this;exact absurd (Yn this hC) (Y7 _)
end
end L2
namespace L2
open PySem PySem.Spec PyProof.Rows
section
variable {X:Cx}
def jjn (i j:Int):Prop:=0<j/\j<2 ^ 200
theorem jmh:OpR X (binaryOp .FloorDiv) (rI jjn fun i j=>.int (i/j)):=opI fun i j _ _ _ _ _ hc q=>by
 have h1:(0:Int)<j:=hc.1;have h2:j<2 ^ 200:=hc.2;refine floordiv_int (by omega) (by rw [Int.fdiv_eq_ediv_of_nonneg i (by omega)];exact q) (.inl (PyProof.noPylong_of_log2 ?_));have h3:j.natAbs<2 ^ 200:=by omega
 have h4:j.natAbs≠0:=by omega
 have h5:=(Nat.log2_lt h4).mpr h3;omega
def IsT (K:PySem.W.Frag) (H:Hp) (x:V) (T:String) (b:Bool):Prop:=∃t,TyOf K H x t/\PySem.W.kitOne K t (.type T)=some b
theorem jhc:CallR X (.builtin "isinstance") (fun xs H Q=>∃x T b,xs=[x,.ty T] ∧ IsT X.K H x T b ∧ Q (.bl b) H):=by intro tf s σ H xs us Q I r h;obtain ⟨x,T,b,rfl,⟨t,ty,e⟩,q⟩:=h;obtain ⟨u,v,rfl,rx,ry⟩:=Vals.two r;have:v=Value.type T:=ry;subst this;exact jjZ I rx ty e fun tk=>⟨.bl b,H,I.tok _,rfl,q⟩
theorem jlq (hc:X.calm=true):CallR X (.builtin "sum") (fun xs H Q=>∃(p:Addr) (ns:List Int),xs=[.ref p] ∧ J6 X.K H p (ns.map V.int) ∧ Q (.int ns.sum) H):=by
 intro tf s σ H xs us Q I r h;obtain ⟨p,ns,rfl,hq,q⟩:=h;obtain ⟨u,rfl,rx⟩:=Vals.one r;cases rx;obtain ⟨its,rv,pl,hz⟩:=I.list hq;have hi:IntsAre its ns:=Zk rv;obtain ⟨ys,hx⟩:=hi.allInts.items;have hl':s.heap.IsList p (intItems ys):=hx ▸ pl.isList;refine sum_intListG (I.ok.hd hc) hl' fun h' tk t' hk=>?_;have e1:ns=ys.toList.map (·.1):=by rw [<-nums_intItems,<- hx];exact (show numsOf its.toArray.toList=ns from hi.numsOf).symm
 have e2:preSum (numAt ys) ys.size=ns.sum:=by rw [preSum_eq,List.take_of_length_le (by simp),e1]
 rw [e2];exact ⟨.int ns.sum,H,I.kept hk,⟨_,rfl⟩,q⟩
theorem jmo (hc:X.calm=true):CallR X (.builtin "all") (fun xs H Q=>∃(p:Addr) (bs:List Bool),xs=[.ref p] ∧ J6 X.K H p (bs.map V.bl) ∧ Q (.bl (bs.all id)) H):=by
 intro tf s σ H xs us Q I r h;obtain ⟨p,bs,rfl,hq,q⟩:=h;obtain ⟨u,rfl,rx⟩:=Vals.one r;cases rx;obtain ⟨its,rv,pl,hz⟩:=I.list hq;have hl:=pl.isList;have hlt:p<s.heap.objs.size:=by obtain ⟨_,e,_⟩:=hl;exact Yy e
 have tL:its.length=bs.length:=by have:=rv.length;rw [Yd] at this;exact this.symm
 refine call_all_walk (wpAny_pyIter_list hl ?_);refine ⟨s.heap.objs.size,[s.heap.objs.size,p],[s.heap.objs.size],its.toArray.size,_,_,fun i=>(bs[i]?).getD true,rfl,Walks.list (A:=X.A.in1) (I.ok.hd hc) _ p (Yv hlt) its.toArray,
  ⟨⟨_,YA _ rfl,rfl,rfl⟩,hl.push _⟩,fun i v s' Q' E' hP hQ=>?_,fun h' tk hk=>?_⟩
 . have hP':its[i]?=some v:=by simpa using hP
   cases e:bs[i]? with
   | none=>have:bs.length<=i:=YY.mp e;have:its[i]?=none:=YY.mpr (by omega);rw [this] at hP';cases hP'
   | some b=>obtain ⟨u,e1,e2⟩:=rv.get (i:=i) (x:=V.bl b) (by rw [List.getElem?_map,e];rfl);rw [hP'] at e1;cases e1;have:v=Value.bool b:=e2;subst this;simp only [e,K4] at hQ;exact yN hQ
 . have e:((List.range its.toArray.size).all fun i=>(bs[i]?).getD true)=bs.all id:=by rw [YI,tL];exact LSm.range_all bs
   rw [e];exact ⟨.bl (bs.all id),H,I.kept (LSm.kept_iter hk),rfl,q⟩
end
theorem jnm {X:Cx} {x:Str} {i:Int} {t:Tok} {pos:Pos} (hg:Gl X x) (hm:X.mg x=some (.int i t)) (hd:‹"u"›=false:=by decide):PE X (.Name x pos) (tC (.int i)):=joa hg hm ⟨t,rfl⟩ hd
theorem jsG {X:Cx} {x:Str} {T:String} {pos:Pos} (hg:Gl X x) (hm:X.mg x=none) (hv:bootBuiltins x=some (.type T)) (hn:x ≠ "__name__":=by decide) (hd:‹"u"›=false:=by decide):PE X (.Name x pos) (tC (.ty T)):=jn7 hg hm hv rfl hn hd
section
variable {t u:TS} {te ta tb tc:TE} {nx bk ct:St->Hp->Prop} {rt:VK} {σ:St} {H:Hp} {i:Nat} {v:V} {Q:VK} {r r':R2} {c c':TT} {QB:Bool->Hp->Prop} {QA:List V->Hp->Prop} {A B:TA}
end
theorem Same.upd {H:Hp} {p:Addr} {o:HO} (h:H p=none):Same H (upd H p o):=fun b u e=>by rw [jF (jM e h)];exact e
end L2
namespace L2
open PySem PySem.Spec PyProof.Rows
theorem HOk.grow {P:Program} {w:World} {H H':Hp} {h h':Heap} (x:HOk P w H h) (k:∀b u,h.get? b=some u->h'.get? b=some u) (same:∀b,@LT.lt Nat instLTNat b h.objs.size->H' b=H b)
 (new:∀b o,h.objs.size<=b->H' b=some o->ObjOk P w H' h' b o):HOk P w H' h':=fun b o e=>by
 rcases YX b h.objs.size with z | z
 . rw [same b z] at e;exact (x b o e).stay (fun c v _ q=>k c v q) (fun c q=>by rw [same c (x.lt q)];exact q) fun c xs q=>by rw [same c (x.lt q)];exact q
 . exact new b o z e
section
variable {X:Cx} {tf:List (Addr×Obj)} {σ:St} {H H':Hp} {s:Shared} {h':Heap}
theorem Inv.grow {t':Nat} {d':Drawn} (I:Inv X tf σ H s) (k:∀b u,s.heap.get? b=some u->h'.get? b=some u) (same:∀b,@LT.lt Nat instLTNat b s.heap.objs.size->H' b=H b)
 (new:∀b o,s.heap.objs.size<=b->H' b=some o->ObjOk X.prog X.w H' h' b o):Inv X tf σ H' { s with heap:=h',drawn:=d',toks:=t' }:=
 I.step (g':=s.gens) (d':=d') (ch:=[]) (fun _ z=>nomatch z) (fun b o _ _ _ e _=>k b o e) (fun b o _ _ _ e _=>⟨o.slots,k b o e⟩) (fun b o _ e n=>by rw [same b (Yy e)];exact n) (fun b o _ e=>⟨o,k b o e⟩)
  (fun b xs e=>by rw [same b (I.hok.lt e)];exact e) (fun b o u e=>by rw [same b (I.hok.lt e)];exact e) (fun b ps e=>⟨#[],by rw [same b (I.hok.lt e),e];simp⟩) (fun m hm=>hm.keeps k) (I.hok.grow k same new) I.bare
theorem Inv.turnNew {ch:List Addr} {t:Addr} {o:HO} {tk:Nat} (I:Inv X tf σ H s) (hf:∀b∈ch,jdg X tf H b) (k:∀b u,b∉ch->s.heap.get? b=some u->h'.get? b=some u) (ht:s.heap.objs.size<=t)
 (new:ObjOk X.prog X.w (upd H t o) h' t o):Inv X tf σ (upd H t o) { s with heap:=h',toks:=tk }:=by
 have hn:H t=none:=I.hok.fresh ht;have lt:∀b u,s.heap.get? b=some u->b≠t:=fun b u e=>Yv (Yn (Yy e) ht);have nch:∀b u,H b=some u->b∉ch:=fun b u e z=>by rw [(hf b z).1] at e;cases e
 refine I.step (g':=s.gens) (d':=s.drawn) (ch:=ch) ‹"aX"› (fun b u _ _ hc e _=>k b u hc e) (fun b u _ _ hc e _=>⟨u.slots,k b u hc e⟩)
  (fun b u _ e n=>by rw [jF (lt b u e)];exact n) (fun b u hc e=>⟨u,k b u hc e⟩) (fun b xs e=>by rw [jF (jM e hn)];exact e) (fun b u v e=>by rw [jF (jM e hn)];exact e) (fun b ps e=>⟨#[],by rw [jF (jM e hn),e];simp⟩)
  (fun m hm=>?_) (fun b u e=>?_) I.bare
 . obtain ⟨ol,es,ep,ho,r⟩:=hm;exact ⟨ol,es,ep,k _ ol (fun z=>(hf _ z).2.1 rfl) ho,r⟩
 . by_cases hb:b=t
   . subst hb;rw [jE] at e;cases e;exact new
   . rw [jF hb] at e;refine (I.hok b u e).stay (fun c v hc q=>k c v ?_ q) (fun c q=>by rw [jF (jM q hn)];exact q) fun c xs q=>by rw [jF (jM q hn)];exact q
     rcases hc with z | z
     . rw [z];exact nch b u e
     . exact nch c _ z
end
def Itz (K:PySem.W.Frag) (p q:Addr):It:=
 ⟨fun i H=>∃xs ys x y,J6 K H p xs/\J6 K H q ys/\xs[i]?=some x/\ys[i]?=some y,
  fun i H v H'=>∃t x y,H t=none/\v=.ref t/\H'=upd H t (.tup [x,y])/\(∀xs,J6 K H p xs->xs[i]?=some x)/\∀ys,J6 K H q ys->ys[i]?=some y,
  fun i H=>∃xs ys,J6 K H p xs/\J6 K H q ys/\(xs.length<=i\/ys.length<=i)⟩
theorem jdn {h:Heap} {T:Addr} {a b:Value} (e:IsPair h T a b):IsTup h T [a,b].toArray:=⟨_,e,rfl,0,rfl⟩
theorem jmn {P:Program} {w:World} {K:PySem.W.Frag} {elts:List Expr} {x1:Nat} {tpos:Pos} {z TI TO i1 i2 p q:Addr} (D:ZipApart z TI TO i1 i2 p q) :
 Turn P w K (.Tuple elts x1 tpos) (Itz K p q) [z,TI,TO,i1,i2] z (fun i h=>IsZip h z TI TO .none/\IsPair h TI (.ref i1) (.ref i2)/\(∃a b,IsPair h TO a b)/\h.IsListIter i1 p i/\h.IsListIter i2 q i) where
 mem:=by simp
 obj:=fun i h st b hb=>by
  obtain ⟨hz,hTI,⟨a,c,hTO⟩,⟨o1,e1,_,d1⟩,⟨o2,e2,_,d2⟩⟩:=st;simp only [Yr,YG,Ky] at hb;rcases hb with rfl | rfl | rfl | rfl | rfl
  . exact ⟨_,hz,fun v y=>nomatch y⟩
  . exact ⟨_,hTI,fun v y=>nomatch y⟩
  . exact ⟨_,hTO,fun v y=>nomatch y⟩
  . exact ⟨o1,e1,fun v y=>by rw [d1] at y;cases y⟩
  . exact ⟨o2,e2,fun v y=>by rw [d2] at y;cases y⟩
 keep:=fun i h h' st k=>by obtain ⟨hz,hTI,⟨a,c,hTO⟩,h1,h2⟩:=st;exact ⟨k _ (by simp) _ hz,k _ (by simp) _ hTI,⟨a,c,k _ (by simp) _ hTO⟩,h1.at fun o e=>k _ (by simp) o e,h2.at fun o e=>k _ (by simp) o e⟩
 item:=by
  intro X hP hw hK hc i tf s σ H E I hf st hg;subst hP hw hK;obtain ⟨xs,ys,x,y,hp,hq,hx,hy⟩:=hg;obtain ⟨its,rv,pl,_⟩:=I.list hp;obtain ⟨its2,rv2,pl2,_⟩:=I.list hq;obtain ⟨u,hu,ru⟩:=rv.get hx;obtain ⟨u2,hu2,ru2⟩:=rv2.get hy;obtain ⟨hz,hTI,⟨a,c,hTO⟩,h1,h2⟩:=st;refine wpAny_pyNext_zip_item D hz hTI hTO h1 h2 pl.isList pl2.isList (x:=u) (y:=u2) (by simpa using hu) (by simpa using hu2) fun h' r1 r2 r3 r4 r5 r6 r7=>?_;have kk:∀b o,b∉[z,TI,TO,i1,i2]->s.heap.get? b=some o->h'.get? b=some o:=fun b o hb e=>by simp only [Yr,YG,Ky,not_or] at hb;exact r7 b o hb.1 hb.2.2.1 hb.2.2.2.1 hb.2.2.2.2 e
  have I1:Inv X tf σ (upd H s.heap.objs.size (.tup [x,y])) { s with heap:=h',toks:=s.toks }:=I.turnNew hf kk (Ys _) ⟨by show 2<=sizeLine;decide,[u,u2],.cons ru (.cons ru2 .nil),jdn r5⟩;have hTI':IsPair h' TI (.ref i1) (.ref i2):=r7 _ _ D.TIz D.TITO D.TIi1 D.TIi2 hTI;have nt:∀b∈[z,TI,TO,i1,i2],b≠s.heap.objs.size:=fun b hb=>by
   simp only [Yr,YG,Ky] at hb;rcases hb with rfl | rfl | rfl | rfl | rfl
   . exact Yv (ltN hz)
   . exact Yv (ltN hTI)
   . exact Yv (ltN hTO)
   . obtain ⟨_,e,_⟩:=h1;exact Yv (ltN e)
   . obtain ⟨_,e,_⟩:=h2;exact Yv (ltN e)
  refine ⟨_,rfl,wpAny_letOwnedTupleGo_zip (s:={ s with heap:=h' }) r1 fun h'' z' sb=>?_⟩;obtain ⟨f0,f1,f2,f3,f4,f5⟩:=hf z (by simp);have hn:H s.heap.objs.size=none:=I.hok.fresh (Ys _);have I2:Inv X tf σ (upd H s.heap.objs.size (.tup [x,y])) { s with heap:=h'',toks:=s.toks }:=Inv.turned (s:={ s with heap:=h',toks:=s.toks }) (h':=h'') I1 (t':=s.toks) (it:=z) (fun b o hb e=>(sb.2 b hb).trans e) (by rw [jF (nt z (by simp))];exact f0) f1 f3 f4 f5;refine ⟨.ref s.heap.objs.size,_,I2,rfl,⟨_,x,y,hn,rfl,rfl,fun xs' h'=>by rw [I.list_inj h' hp];exact hx,fun ys' h'=>by rw [I.list_inj h' hq];exact hy⟩,⟨z',sb.extBut _ _ D.TIz hTI',⟨_,_,sb.extBut _ _ D.TOz r2⟩,r3.extBut sb.extBut D.i1z,r4.extBut sb.extBut D.i2z⟩,fun b hb=>?_⟩;rw [jF (nt b hb)];exact (hf b hb).1
 done:=by
  intro X hP hw hK hc i tf s σ H E I hf st hg;subst hP hw hK;obtain ⟨xs,ys,hp,hq,he⟩:=hg;obtain ⟨its,rv,pl,_⟩:=I.list hp;obtain ⟨its2,rv2,pl2,_⟩:=I.list hq;obtain ⟨hz,hTI,⟨a,c,hTO⟩,h1,h2⟩:=st;have l1:=rv.length;have l2:=rv2.length;refine wpAny_pyNext_zip_end (I.ok.hd hc) D hz hTI hTO h1 h2 pl.isList pl2.isList (by rcases he with e | e;exact .inl (by simp;omega);exact .inr (by simp;omega)) fun h' kk=>⟨rfl,?_⟩;have J:∀b o,b∉[z,TI,TO,i1,i2]->s.heap.get? b=some o->h'.get? b=some o:=fun b o hb e=>by simp only [Yr,YG,Ky,not_or] at hb;exact kk b o hb.1 hb.2.2.1 hb.2.2.2.1 hb.2.2.2.2 e
  have nch:∀b u,H b=some u->b∉[z,TI,TO,i1,i2]:=fun b u e y=>by rw [(hf b y).1] at e;cases e
  refine I.step (g':=s.gens) (d':=s.drawn) (t':=s.toks) (ch:=[z,TI,TO,i1,i2]) ‹"aX"› (fun b u _ _ hc e _=>J b u hc e) (fun b u _ _ hc e _=>⟨u.slots,J b u hc e⟩)
   (fun _ _ _ _ n=>n) (fun b u hc e=>⟨u,J b u hc e⟩) (fun _ _ e=>e) (fun _ _ _ e=>e) (fun b ps e=>⟨#[],by rw [e];simp⟩) (fun m hm=>?_) (fun b u e=>?_) I.bare
  . obtain ⟨ol,es,ep,ho,r⟩:=hm;exact ⟨ol,es,ep,J _ ol (fun y=>(hf _ y).2.1 rfl) ho,r⟩
  . refine (I.hok b u e).stay (fun c v hc q=>J c v ?_ q) (fun _ q=>q) fun _ _ q=>q;rcases hc with y | y
    . rw [y];exact nch b u e
    . exact nch c _ y
 self:=fun _ _ _ _ _ st h=>wpAny_pyIter_zip st.1 h
section
variable {X:Cx}
def jpS (K:PySem.W.Frag) (ta:TA):TI:=fun σ H R=>ta σ H fun vs H1=>∃p q xs ys,vs=[.ref p,.ref q]/\J6 K H1 p xs/\J6 K H1 q ys/\R (Itz K p q) H1
theorem jpJ {a b:Expr} {ta:TA} {p pos:Pos} {elts:List Expr} {x1:Nat} {tpos:Pos} (hg:Gl X "zip") (hm:X.mg "zip"=none) (ha:PA X [a,b] ta) (hs:starEach [a,b] X.env=[(false,eval a X.env),(false,eval b X.env)]:=by rfl) (hs2:starEach [b] X.env=[(false,eval b X.env)]:=by rfl) :
 PI X (.Tuple elts x1 tpos) (.Call (.Name "zip" p) [a,b] [] pos) (jpS X.K ta):=by
 intro tf s σ H R I h;refine Call_ (QQ I hg hm boot_zip (Y2 (qI (ha pos tf s σ H _ I h) fun us s1 zz=>?_) (by rw [hs,hs2]) (by rw [hs2];rfl)));obtain ⟨vs,H1,I1,r1,q1⟩:=zz;obtain ⟨pa,pb,xs,ys,e,hp,hq,q⟩:=q1;subst e;obtain ⟨u,v,rfl,ru,rv⟩:=Vals.two r1;cases ru;cases rv;obtain ⟨its,rx,pl,_⟩:=I1.list hp;obtain ⟨its2,ry,pl2,_⟩:=I1.list hq;have lta:@LT.lt Nat instLTNat pa s1.heap.objs.size:=by obtain ⟨_,e,_⟩:=pl.isList;exact ltN e
 have ltb:@LT.lt Nat instLTNat pb s1.heap.objs.size:=by obtain ⟨_,e,_⟩:=pl2.isList;exact ltN e
 refine call_zip_2 pl.isList pl2.isList fun h' r1 r2 r3 r4 r5 r6 r7=>wpAny_pyIter_zip (s:={ s1 with heap:=h' }) r1 ?_;have I2:Inv X tf σ H1 { s1 with heap:=h',toks:=s1.toks }:=I1.kept (t':=s1.toks) r7;refine ⟨_,[s1.heap.objs.size+4,s1.heap.objs.size+2,s1.heap.objs.size+3,s1.heap.objs.size,s1.heap.objs.size+1],_,_,H1,rfl,I2,jmn (zipApart_new lta ltb),⟨r1,r2,⟨_,_,r3⟩,r4,r5⟩,fun b hb=>?_,q⟩;have ge:s1.heap.objs.size<=b:=by
  simp only [Yr,YG,Ky] at hb;rcases hb with rfl | rfl | rfl | rfl | rfl
  . exact yC _ 4
  . exact yC _ 2
  . exact yC _ 3
  . exact Ys _
  . exact yC _ 1
 exact I1.fpOk ge (I1.hok.fresh ge)
end
def Ite (K:PySem.W.Frag) (p:Addr):It:=
 ⟨fun i H=>∃xs x,J6 K H p xs/\xs[i]?=some x,
  fun i H v H'=>∃t x,H t=none/\v=.ref t/\H'=upd H t (.tup [.int i,x])/\∀xs,J6 K H p xs->xs[i]?=some x,
  fun i H=>∃xs,J6 K H p xs/\xs.length<=i⟩
theorem jkp {P:Program} {w:World} {K:PySem.W.Frag} {elts:List Expr} {x1:Nat} {tpos:Pos} {e it p:Addr} (hei:e≠it) :
 Turn P w K (.Tuple elts x1 tpos) (Ite K p) [e,it] e (fun i h=>(∃old,IsEnum h e it i old)/\h.IsListIter it p i) where
 mem:=by simp
 obj:=fun i h st b hb=>by
  obtain ⟨⟨old,he⟩,⟨o1,e1,_,d1⟩⟩:=st;simp only [Yr,YG,Ky] at hb;rcases hb with rfl | rfl
  . exact ⟨_,he,fun v y=>nomatch y⟩
  . exact ⟨o1,e1,fun v y=>by rw [d1] at y;cases y⟩
 keep:=fun i h h' st k=>by obtain ⟨⟨old,he⟩,h1⟩:=st;exact ⟨⟨old,k _ (by simp) _ he⟩,h1.at fun o e=>k _ (by simp) o e⟩
 item:=by
  intro X hP hw hK hc i tf s σ H E I hf st hg;subst hP hw hK;obtain ⟨xs,x,hp,hx⟩:=hg;obtain ⟨its,rv,pl,_⟩:=I.list hp;obtain ⟨u,hu,ru⟩:=rv.get hx;obtain ⟨⟨old,he⟩,h1⟩:=st;refine wpAny_pyNext_enum_item he h1 pl.isList (x:=u) (by simpa using hu) hei fun h' r1 r2 r3 r4 r5=>?_;have kk:∀b o,b∉[e,it]->s.heap.get? b=some o->h'.get? b=some o:=fun b o hb q=>by simp only [Yr,YG,Ky,not_or] at hb;exact r5 b o hb.1 hb.2 q
  have I1:Inv X tf σ (upd H s.heap.objs.size (.tup [.int i,x])) { s with heap:=h',toks:=s.toks+1 }:=I.turnNew hf kk (Ys _) ⟨by show 2<=sizeLine;decide,[.int i s.toks,u],.cons ⟨_,rfl⟩ (.cons ru .nil),⟨_,r3,rfl,0,rfl⟩⟩;have nt:∀b∈[e,it],b≠s.heap.objs.size:=fun b hb=>by
   simp only [Yr,YG,Ky] at hb;rcases hb with rfl | rfl
   . exact Yv (ltN he)
   . obtain ⟨_,q,_⟩:=h1;exact Yv (ltN q)
  refine ⟨_,rfl,wpAny_letOwnedTupleGo_enum (s:={ s with heap:=h',toks:=s.toks+1 }) r1 fun h'' z' sb=>?_⟩;obtain ⟨f0,f1,f2,f3,f4,f5⟩:=hf e (by simp);have hn:H s.heap.objs.size=none:=I.hok.fresh (Ys _);have I2:Inv X tf σ (upd H s.heap.objs.size (.tup [.int i,x])) { s with heap:=h'',toks:=s.toks+1 }:=Inv.turned (s:={ s with heap:=h',toks:=s.toks+1 }) (h':=h'') I1 (t':=s.toks+1) (it:=e) (fun b o hb q=>(sb.2 b hb).trans q) (by rw [jF (nt e (by simp))];exact f0) f1 f3 f4 f5;refine ⟨.ref s.heap.objs.size,_,I2,rfl,⟨_,x,hn,rfl,rfl,fun xs' h'=>by rw [I.list_inj h' hp];exact hx⟩,⟨⟨_,z'⟩,r2.extBut sb.extBut (Ne.symm hei)⟩,fun b hb=>?_⟩;rw [jF (nt b hb)];exact (hf b hb).1
 done:=by intro X hP hw hK hc i tf s σ H E I hf st hg;subst hP hw hK;obtain ⟨xs,hp,hle⟩:=hg;obtain ⟨its,rv,pl,_⟩:=I.list hp;obtain ⟨⟨old,he⟩,h1⟩:=st;have l1:=rv.length;obtain ⟨f0,f1,f2,f3,f4,f5⟩:=hf it (by simp);exact wpAny_pyNext_enum_end (I.ok.hd hc) he h1 pl.isList (by simp;omega) fun h' kk=>⟨rfl,I.turned (t':=s.toks) (it:=it) (fun b o hb q=>kk b o hb q) f0 f1 f3 f4 f5⟩
 self:=fun _ _ s _ _ st h=>by obtain ⟨⟨old,he⟩,_⟩:=st;have hT:s.TypeIs (.ref e) "enumerate":=⟨_,he,rfl⟩;refine wpAny_pyIter_slot hT yR (yB yR hT PySem.F.entry_enumerate_iter ?_ (PySem.F.args_enumerate_iter_1 _));show wpAny _ _ (ret (.ref e)) _ _ s;exact Yk ⟨_,rfl, "enumerate",_,hT,PySem.F.slot_enumerate_next.lookup,h⟩
section
variable {X:Cx}
def jlh (K:PySem.W.Frag) (ta:TA):TI:=fun σ H R=>ta σ H fun vs H1=>∃p xs,vs=[.ref p]/\J6 K H1 p xs/\R (Ite K p) H1
theorem jm5 {a:Expr} {ta:TA} {p pos:Pos} {elts:List Expr} {x1:Nat} {tpos:Pos} (hg:Gl X "enumerate") (hm:X.mg "enumerate"=none) (ha:PA X [a] ta) (hs:starEach [a] X.env=[(false,eval a X.env)]:=by rfl) :
 PI X (.Tuple elts x1 tpos) (.Call (.Name "enumerate" p) [a] [] pos) (jlh X.K ta):=by
 intro tf s σ H R I h;refine Call_ (QQ I hg hm boot_enumerate (Y2 (qI (ha pos tf s σ H _ I h) fun us s1 zz=>?_) hs rfl));obtain ⟨vs,H1,I1,r1,q1⟩:=zz;obtain ⟨pa,xs,e,hp,q⟩:=q1;subst e;obtain ⟨u,rfl,ru⟩:=Vals.one r1;cases ru;obtain ⟨its,rx,pl,_⟩:=I1.list hp;refine call_enumerate_list pl.isList fun h' r1 r2 r3 r4=>?_;have hT:Shared.TypeIs { s1 with heap:=h' } (.ref (s1.heap.objs.size+1)) "enumerate":=⟨_,r1,rfl⟩;refine wpAny_pyIter_slot hT yR (yB yR hT PySem.F.entry_enumerate_iter ?_ (PySem.F.args_enumerate_iter_1 _));show wpAny _ _ (ret (.ref (s1.heap.objs.size+1))) _ _ _;refine Yk ⟨_,rfl, "enumerate",_,hT,PySem.F.slot_enumerate_next.lookup,?_⟩;have I2:Inv X tf σ H1 { s1 with heap:=h',toks:=s1.toks }:=I1.kept (t':=s1.toks) r4;refine ⟨_,[s1.heap.objs.size+1,s1.heap.objs.size],_,_,H1,rfl,I2,jkp (yp (yT _)),⟨⟨_,r1⟩,r2⟩,fun b hb=>?_,q⟩;have ge:s1.heap.objs.size<=b:=by
  simp only [Yr,YG,Ky] at hb;rcases hb with rfl | rfl
  . exact yC _ 1
  . exact Ys _
 exact I1.fpOk ge (I1.hok.fresh ge)
def jdZ (K:PySem.W.Frag) (ta:TA):TE:=fun σ H Q=>ta σ H fun vs H1=>∃p q xs ys,vs=[.ref p,.ref q]/\J6 K H1 p xs/\J6 K H1 q ys/\xs.length<sizeLine /\
 ∀(l:Addr) (ts:List Addr) (H':Hp),H1 l=none->(∀t∈ts,H1 t=none)->l∉ts->ts.Nodup->ts.length=min xs.length ys.length->(∀b,b≠l->b∉ts->H' b=H1 b)->H' l=some (.lst (ts.map V.ref))->
   (∀(i:Nat) t x y,ts[i]?=some t->xs[i]?=some x->ys[i]?=some y->H' t=some (.tup [x,y]))->Q (.ref l) H'
theorem je0:∀ts:List Addr,Vals (ts.map V.ref) (ts.map Value.ref)
 | []=>.nil
 | _::ts=>.cons rfl (je0 ts)
theorem jfP {ts:List Addr} {b:Addr} (h:b∈ts):ts.idxOf b<ts.length/\ts[ts.idxOf b]?=some b:=by have h1:=List.idxOf_lt_length_of_mem h;exact ⟨h1,by rw [Ya h1,List.getElem_idxOf h1]⟩
theorem jhH {a b:Expr} {ta:TA} {p1 p2 pos1 pos2:Pos} (hc:X.calm=true) (hg1:Gl X "list") (hm1:X.mg "list"=none) (hg2:Gl X "zip") (hm2:X.mg "zip"=none) (ha:PA X [a,b] ta)
 (hs:starEach [a,b] X.env=[(false,eval a X.env),(false,eval b X.env)]:=by rfl) (hs2:starEach [b] X.env=[(false,eval b X.env)]:=by rfl)
 (hs3:starEach [.Call (.Name "zip" p2) [a,b] [] pos2] X.env=[(false,eval (.Call (.Name "zip" p2) [a,b] [] pos2) X.env)]:=by rfl) :
 PE X (.Call (.Name "list" p1) [.Call (.Name "zip" p2) [a,b] [] pos2] [] pos1) (jdZ X.K ta):=by
 intro tf s σ H Q I h;refine Call_ (QQ I hg1 hm1 Ko (Y2 ?_ hs3 rfl));rw [hs3];show wpAny _ _ (spliced ((false,eval (.Call (.Name "zip" p2) [a,b] [] pos2) X.env)::backTo pos1 [])) _ _ s;refine KR (Call_ (QQ I hg2 hm2 boot_zip (Y2 (qI (ha pos2 tf s σ H _ I h) fun us s1 zz=>?_) (by rw [hs,hs2]) (by rw [hs2];rfl))));obtain ⟨vs,H1,I1,r1,q1⟩:=zz;obtain ⟨pa,pb,xs,ys,e,hp,hq,hxl,q⟩:=q1;subst e;obtain ⟨u,v,rfl,ru,rv⟩:=Vals.two r1;cases ru;cases rv;obtain ⟨its,rx,pl,hz1⟩:=I1.list hp;obtain ⟨its2,ry,pl2,hz2⟩:=I1.list hq;have lx:=rx.length;have ly:=ry.length;have lta:@LT.lt Nat instLTNat pa s1.heap.objs.size:=by obtain ⟨_,e,_⟩:=pl.isList;exact ltN e
 have ltb:@LT.lt Nat instLTNat pb s1.heap.objs.size:=by obtain ⟨_,e,_⟩:=pl2.isList;exact ltN e
 refine call_zip_2 pl.isList pl2.isList fun h' r1 r2 r3 r4 r5 r6 r7=>?_;refine K0 ?_;refine jld (h₀:=s1.heap) (xs:=its.toArray) (ys:=its2.toArray) (I.ok.hd hc) (zipApart_new lta ltb) r1 r2 ⟨_,_,r3⟩ r4 r5 pl.isList pl2.isList r7 ⟨yC _ 4,yC _ 3,Ys _,yC _ 1⟩ (by show s1.heap.objs.size<=h'.objs.size;rw [r6];exact yC _ 5) (by simp;omega) fun S g tI c hS eS M=>?_
 -- the tuples' addresses
 have hmin:min its.toArray.size its2.toArray.size=min xs.length ys.length:=by simp;omega
 have hts:∃ts:List Addr,tI.toList=ts.map Value.ref:=by
  have:∀v∈tI.toList,∃t,v=Value.ref t:=fun v hv=>by
   obtain ⟨j,hj,e⟩:=Y9 hv;have hj':j<tI.size:=by simpa using hj
   obtain ⟨T,x,y,e1,_⟩:=M.pair j (by rw [<-M.size];exact hj');rw [YK hj'] at e1;exact ⟨T,by rw [<-e];simpa using Option.some.inj e1⟩
  generalize tI.toList=l at this;clear eS M;induction l with
  | nil=>exact ⟨[],rfl⟩
  | cons v l ih=>obtain ⟨t,rfl⟩:=this v Yf;obtain ⟨ts,e⟩:=ih fun x hx=>this x (Ym _ hx);exact ⟨t::ts,by rw [e];rfl⟩
 obtain ⟨ts,hts⟩:=hts;have tl:ts.length=min xs.length ys.length:=by have:=congrArg List.length hts;rw [Yd,ye,M.size,hmin] at this;exact this.symm
 have at_:∀(j:Nat) (t:Addr),ts[j]?=some t->tI[j]?=some (.ref t):=fun j t e=>by rw [<-yI,hts,List.getElem?_map,e];rfl
 have info:∀(j:Nat) (t:Addr),ts[j]?=some t->∃x y,its[j]?=some x/\its2[j]?=some y/\IsPair g t x y/\s1.heap.objs.size<=t/\t≠S/\∀k,k<j->tI[k]?≠some (.ref t):=fun j t e=>by
  have hj:j<ts.length:=(Yo.mp e).1;obtain ⟨T,x,y,e1,e2,e3,e4,e5,e6,_,e7⟩:=M.pair j (by rw [hmin,<- tl];exact hj);rw [at_ j t e] at e1;have:t=T:=by injection (Option.some.inj e1)
  subst this;exact ⟨x,y,by simpa using e2,by simpa using e3,e4,e5,e6,e7⟩
 have nd:ts.Nodup:=by rw [List.nodup_iff_pairwise_ne,KD];intro i j hi hj hij e;obtain ⟨_,_,_,_,_,_,_,q7⟩:=info j ts[j] (Ya hj);exact q7 i hij (by rw [<-e];exact at_ i _ (Ya hi))
 have fresh:∀t∈ts,s1.heap.objs.size<=t/\t≠S:=fun t ht=>by obtain ⟨h1,h2⟩:=jfP ht;obtain ⟨_,_,_,_,_,q5,q6,_⟩:=info _ t h2;exact ⟨q5,q6⟩
 let H':Hp:=fun b=>if b=S then some (.lst (ts.map V.ref)) else if b∈ts then some (.tup [(xs[ts.idxOf b]?).getD .non,(ys[ts.idxOf b]?).getD .non]) else H1 b
 have HS:H' S=some (.lst (ts.map V.ref)):=if_pos rfl;have HT:∀(i:Nat) t x y,ts[i]?=some t->xs[i]?=some x->ys[i]?=some y->H' t=some (.tup [x,y]):=fun i t x y e e1 e2=>by
  have hi:i<ts.length:=(Yo.mp e).1;have ht:t∈ts:=YF e;have hix:ts.idxOf t=i:=by obtain ⟨h1,h2⟩:=jfP ht;exact (List.getElem_inj (h₀:=h1) (h₁:=hi) nd).mp ((Yo.mp h2).2.trans (Yo.mp e).2.symm)
  show (if t=S then _ else if t∈ts then _ else _)=_;rw [if_neg (fresh t ht).2,if_pos ht,hix,e1,e2];rfl
 have HO':∀b,b≠S->b∉ts->H' b=H1 b:=fun b h1 h2=>by show (if b=S then _ else if b∈ts then _ else _)=_;rw [if_neg h1,if_neg h2]
 have I2:Inv X tf σ H' { s1 with heap:=g,drawn:=s1.drawn,toks:=s1.toks }:=by
  refine I1.grow M.keep (fun b hb=>HO' b (fun z=>?_) (fun z=>?_)) fun b o hb e=>?_
  . rw [z] at hb;exact Nat.not_lt.mpr hS hb
  . exact Nat.not_lt.mpr (fresh b z).1 hb
  . by_cases hbS:b=S
    . subst hbS;rw [HS] at e;cases e;refine ⟨by rw [Yd,tl];omega,tI.toList,c,?_,by simpa using eS⟩;rw [hts];exact je0 ts
    . by_cases hbt:b∈ts
      . obtain ⟨h1,h2⟩:=jfP hbt;obtain ⟨x,y,e1,e2,e3,_⟩:=info _ b h2;have hxi:ts.idxOf b<xs.length:=by omega
        have hyi:ts.idxOf b<ys.length:=by omega
        rw [HT _ b _ _ h2 (Ya hxi) (Ya hyi)] at e;cases e;obtain ⟨u1,g1,g2⟩:=rx.get (Ya hxi);obtain ⟨u2,g3,g4⟩:=ry.get (Ya hyi);rw [e1] at g1;rw [e2] at g3;cases g1;cases g3;exact ⟨by show 2<=sizeLine;decide,[x,y],.cons g2 (.cons g4 .nil),jdn e3⟩
      . rw [HO' b hbS hbt] at e;exact absurd (I1.hok.lt e) (Nat.not_lt.mpr hb)
 have nS:H1 S=none:=I1.hok.fresh hS;exact ⟨.ref S,H',I2,rfl,q S ts H' nS (fun t ht=>I1.hok.fresh (fresh t ht).1) (fun z=>(fresh S z).2 rfl) nd tl HO' HS HT⟩
def jfe (X:Cx) (a:Addr) (ns:List Int):HO:=.ext fun h=>L2S.jaC X.prog X.w h a ns
theorem jko {P:Program} {w:World} {a:Addr} {ns:List Int} {h1 h2:Heap} (r:L2S.jaC P w h1 a ns) (k:∀o,h1.get? a=some o->h2.get? a=some o):L2S.jaC P w h2 a ns:=by obtain ⟨o,es,ep,t,ho,q⟩:=r;exact ⟨o,es,ep,t,k o ho,q⟩
theorem jh9 (hc:X.calm=true):CallR X (.type "set") (fun xs H Q=>∃(p:Addr) (ns:List Int),xs=[.ref p] ∧ J6 X.K H p (ns.map V.int) ∧ ns.length<64 ∧ ∀a,H a=none → Q (.ref a) (upd H a (jfe X a ns))):=by intro tf s σ H xs us Q I r h;obtain ⟨p,ns,rfl,hq,hl,q⟩:=h;obtain ⟨u,rfl,rx⟩:=Vals.one r;cases rx;obtain ⟨its,rv,pl,hz⟩:=I.list hq;have hi:IntsAre its ns:=Zk rv;refine L2S.jip (I.ok.hd hc) pl.isList ‹"aq"› (by show ns.length+1<4096;omega) fun h' tk hS hk=>?_;refine ⟨.ref s.heap.objs.size,upd H s.heap.objs.size (jfe X s.heap.objs.size ns),?_,rfl,q _ (I.hok.fresh (Ys _))⟩;refine I.laid hk (Ys _) ⟨hS,?_,fun h1 h2 r k=>jko r k⟩;obtain ⟨o,es,ep,t,ho,_⟩:=hS;exact ⟨o,ho⟩
theorem jeg (hc:X.calm=true):CallR X (.builtin "sorted") (fun xs H Q=>∃(a:Addr) (ns:List Int),xs=[.ref a] ∧ H a=some (jfe X a ns) ∧ ns.length<64 ∧
 ∀(l:Addr) (ks:List Int),H l=none->ks.Pairwise (· < ·)->(∀k,k∈ks ↔ k∈ns)->ks.length<=ns.length->Q (.ref l) (upd H l (.lst (ks.map V.int)))):=by
 intro tf s σ H xs us Q I r h;obtain ⟨a,ns,rfl,ha,hl,q⟩:=h;obtain ⟨u,rfl,rx⟩:=Vals.one r;cases rx;obtain ⟨hS,_,_⟩:=I.hok a _ ha;refine L2S.jih (I.ok.hd hc) hS hl fun h' d tk l out c ks hk hle he hi hp hm hn=>?_;have nl:H l=none:=I.hok.fresh hle;refine ⟨.ref l,upd H l (.lst (ks.map V.int)),?_,rfl,q l ks nl hp hm hn⟩;refine I.grow hk (fun b hb=>jF (Yv (Yn hb hle))) fun b o hb e=>?_;by_cases hbl:b=l
 . subst hbl;rw [jE] at e;cases e;refine ⟨by rw [Yd];exact Y5 (by omega:ks.length<=64) (by decide),out.toList,c,jch hi,by simpa using he⟩
 . rw [jF hbl] at e;exact absurd (I.hok.lt e) (Nat.not_lt.mpr hb)
end
end L2
namespace L2
open PySem PySem.Spec PyProof.Rows
section
variable {X:Cx}
theorem jkA (hc:X.calm=true):CallR X (.builtin "min") (fun xs H Q=>∃(p:Addr) (ns:List Int),xs=[.ref p] ∧ J6 X.K H p (ns.map V.int) ∧ 0<ns.length ∧ ∀M,M∈ns → (∀a∈ns,M ≤ a) → Q (.int M) H):=by
 intro tf s σ H xs us Q I r h;obtain ⟨p,ns,rfl,hq,hne,q⟩:=h;obtain ⟨u,rfl,rx⟩:=Vals.one r;cases rx;obtain ⟨its,rv,pl,hz⟩:=I.list hq;have hi:IntsAre its ns:=Zk rv;obtain ⟨ys,hx⟩:=hi.allInts.items;have hl':s.heap.IsList p (intItems ys):=hx ▸ pl.isList;have e1:ns=ys.toList.map (·.1):=by rw [<-nums_intItems,<- hx];exact (show numsOf its.toArray.toList=ns from hi.numsOf).symm
 have hsz:0<ys.size:=by rw [e1] at hne;simpa using hne
 refine min_intList (I.ok.hd hc) hl' hsz fun v h' tk hv hk=>?_;obtain ⟨t,rfl⟩:=intItems_at hv;obtain ⟨h1,h2⟩:=argBest_lt (numAt ys) (ys.size-1);refine ⟨.int _,H,I.kept hk,⟨t,rfl⟩,q _ ?_ fun a ha=>?_⟩
 . rw [numAt_eq,e1];exact getD_mem (by rw [Yd,ye];omega)
 . rw [e1] at ha;obtain ⟨j,hj,rfl⟩:=mem_getD ha;rw [Yd,ye] at hj;rw [<-numAt_eq];exact h2 j (by omega)
end
end L2
namespace L2
open PySem PySem.Spec PyProof.Rows
section
variable {K:PySem.W.Frag} {g:TG} {tt:TT} {te:TE} {σ0:St} {H:Hp} {Q:VK}
end
section
variable {K:PySem.W.Frag} {g:TG} {tb:TS} {D:Ends} {σ:St} {H:Hp}
end
end L2
namespace L2
open PySem PySem.Spec PyProof.Rows
def ins (k:Int):List Int->List Int
 | []=>[k]
 | x::l=>if k<x then k::x::l else if k=x then x::l else x::ins k l
def srt (l:List Int):List Int:=l.foldr ins []
theorem mem_ins {k j:Int}:∀{l:List Int},j∈ins k l ↔ j=k\/j∈l
 | []=>by simp [ins]
 | x::l=>by
   unfold ins;split
   . simp
   . split
     . rename_i h;subst h;simp
     . rw [Yr,mem_ins (l:=l),Yr];constructor
       . rintro (h | h | h) <;> simp [h]
       . rintro (h | h | h) <;> simp [h]
theorem jd9 {k:Int}:∀{l:List Int},l.Pairwise (· < ·)->(ins k l).Pairwise (· < ·)
 | [],_=>by simp [ins]
 | x::l,h=>by
   have h':=YD.mp h;unfold ins;split
   . rename_i hk;exact YD.mpr ⟨fun y hy=>by
       rcases Yr.mp hy with rfl | hy
       . exact hk
       . exact Int.lt_trans hk (h'.1 y hy),h⟩
   . split
     . exact h
     . rename_i h1 h2;refine YD.mpr ⟨fun y hy=>?_,jd9 h'.2⟩;rcases mem_ins.mp hy with rfl | hy
       . omega
       . exact h'.1 y hy
theorem jc5 {j:Int}:∀{l:List Int},j∈srt l ↔ j∈l
 | []=>by simp [srt]
 | x::l=>by show j∈ins x (srt l) ↔ _;rw [mem_ins,jc5 (l:=l),Yr]
theorem Zm:∀{l:List Int},(srt l).Pairwise (· < ·)
 | []=>by simp [srt]
 | x::l=>jd9 (Zm (l:=l))
theorem ja8:∀{l m:List Int},l.Pairwise (· < ·)->m.Pairwise (· < ·)->(∀k,k∈l ↔ k∈m)->l=m
 | [],[],_,_,_=>rfl
 | [],y::m,_,_,h=>absurd ((h y).mpr Yf) (by simp)
 | x::l,[],_,_,h=>absurd ((h x).mp Yf) (by simp)
 | x::l,y::m,h1,h2,h=>by
   have p1:=YD.mp h1;have p2:=YD.mp h2;have e:x=y:=by
     rcases Yr.mp ((h x).mp Yf) with z | z
     . exact z
     . rcases Yr.mp ((h y).mpr Yf) with z' | z'
       . exact z'.symm
       . have:=p2.1 x z;have:=p1.1 y z';omega
   subst e;rw [ja8 p1.2 p2.2 fun k=>⟨fun hk=>?_,fun hk=>?_⟩]
   . rcases Yr.mp ((h k).mp (Ym _ hk)) with z | z
     . have:=p1.1 k hk;omega
     . exact z
   . rcases Yr.mp ((h k).mpr (Ym _ hk)) with z | z
     . have:=p2.1 k hk;omega
     . exact z
structure Ship where
 b:Int
 e:Int
 n:Int
 m:Int
structure Ship.Ok (s:Ship):Prop where
 lt:s.b<s.e
 long:s.e-s.b<=300000000000000
 lo:-500000000000000<=s.b
 hi:s.b<=500000000000000
 m0:0<=s.m
 m1:s.m<=1000000000000000
 n0:0<=s.n
 n1:s.n<=s.m*(s.e-s.b)
def hrs (fl:List Ship):List Int:=fl.map (·.b)++fl.map (·.e)
def JZ (fl:List Ship):List Int:=srt (hrs fl)
def jj (fl:List Ship):List (Int×Int):=(JZ fl).zip (JZ fl).tail
section
variable {K:PySem.W.Frag} {H H':Hp}
theorem Paired.get {α β:Type} {F:α->β->Prop} {xs:List α} {ys:List β} {i:Nat} {x:α} (h:Paired F xs ys) (e:xs[i]?=some x):∃y,ys[i]?=some y/\F x y:=by
 induction h generalizing i with
 | nil=>rw [Kz] at e;cases e
 | cons r _ ih=>
   cases i with
   | zero=>cases e;exact ⟨_,rfl,r⟩
   | succ i=>exact ih (i:=i) e
theorem Paired.of {α β:Type} {F:α->β->Prop}:∀{xs:List α} {ys:List β},xs.length=ys.length->(∀(i:Nat) x y,xs[i]?=some x->ys[i]?=some y->F x y)->Paired F xs ys
 | [],[],_,_=>.nil
 | x::xs,y::ys,hl,h=>.cons (h 0 x y rfl rfl) (Paired.of (by simpa using hl) fun i a b e1 e2=>h (i+1) a b (by simpa using e1) (by simpa using e2))
 | [],y::ys,hl,_=>by simp at hl
 | x::xs,[],hl,_=>by simp at hl
end
end L2
namespace L2
open PySem PySem.Spec PyProof.Rows
set_option genInjectivity true in
inductive D where
 | int (i:Int) | bl (b:Bool) | non | str (x:Str) | lst (l:List D) | tup (l:List D)
 /-- the script -/
 | scr (ns:List Int)
 /-- a dict: its keys, whole numbers, and what stands at each -/
 | dic (ks:List Int) (ds:List D)
theorem bind_some {α β:Type} {o:Option α} {f:α->Option β} {b:β} (h:o.bind f=some b):∃a,o=some a/\f a=some b:=by
 cases o with
 | none=>cases h
 | some a=>exact ⟨a,rfl,h⟩
theorem map_some {α β:Type} {o:Option α} {f:α->β} {b:β} (h:o.map f=some b):∃a,o=some a/\f a=b:=by
 cases o with
 | none=>cases h
 | some a=>exact ⟨a,rfl,Option.some.inj h⟩
theorem jmW {α β:Type} {f:α->β} {l:List α} {i:Int}:L2.atI (l.map f) i=(L2.atI l i).map f:=by
 unfold L2.atI;rw [Yd];cases ixN l.length i with
 | none=>rfl
 | some j=>simp
instance (i j:Int):Decidable (CMul i j):=inferInstanceAs (Decidable (_\/_))
def CMulB (i j:Int):Prop:=CMul i j\/(i.natAbs<2 ^ 400/\j.natAbs<2 ^ 400)
instance (i j:Int):Decidable (CMulB i j):=inferInstanceAs (Decidable (_\/_))
theorem CMulB.ok {i j:Int} (h:CMulB i j):IntMulOk i j:=by
 rcases h with h | ⟨h1,h2⟩
 . exact h.ok
 . exact IntMulOk.of_bits (Y5 (intBits_le h1) (by decide)) (Y5 (intBits_le h2) (by decide))
theorem jmR {X:Cx}:OpR X (binaryOp .Mult) (rI CMulB fun i j=>.int (i*j)):=opI fun _ _ _ _ _ _ _ hc q=>mul_int q hc.ok
class Fr where
 K:PySem.W.Frag
section
variable [Fr]
def Jf:D->Bool
 | .lst _=>false
 | .tup _=>false
 | .scr _=>false
 | .dic _ _=>false
 | _=>true
def zi (ks:List Int) (vs:List V):List (zV×V):=(ks.map Sum.inl).zip vs
mutual
/-- the value v stands for the data d in the heap G -/
inductive Rep (G:Hp):V->D->Prop where
 | int (i:Int):Rep G (.int i) (.int i)
 | bl (b:Bool):Rep G (.bl b) (.bl b)
 | non:Rep G .non .non
 | str (x:Str):Rep G (.str x) (.str x)
 | lst {a:Addr} {vs:List V} {ds:List D} (h:Rd G a (.lst vs)) (r:Reps G vs ds):Rep G (.ref a) (.lst ds)
 | tup {a:Addr} {vs:List V} {ds:List D} (h:G a=some (.tup vs)) (r:Reps G vs ds):Rep G (.ref a) (.tup ds)
 | scr {a:Addr} {ns:List Int} (h:J6 Fr.K G a (ns.map V.int)):Rep G (.ref a) (.scr ns)
 | dic {a:Addr} {o:Obj} {ks:List Int} {vs:List V} {ds:List D} (h:G a=some (.frz o (.dK (zi ks vs)))) (hl:ks.length=vs.length) (r:Reps G vs ds):Rep G (.ref a) (.dic ks ds)
inductive Reps (G:Hp):List V->List D->Prop where
 | nil:Reps G [] []
 | cons {v:V} {d:D} {vs:List V} {ds:List D}:Rep G v d->Reps G vs ds->Reps G (v::vs) (d::ds)
end
theorem Rd.same {G H:Hp} {a:Addr} {u:HO} (e:Same G H) (h:Rd G a u):Rd H a u:=by
 rcases h with h | ⟨o,h⟩
 . exact .inl (e _ _ h)
 . exact .inr ⟨o,e _ _ h⟩
theorem Rep.mono {G G':Hp} (e:Same G G') {v:V} {d:D} (h:Rep G v d):Rep G' v d:=Rep.rec (motive_1:=fun v d _=>Rep G' v d) (motive_2:=fun vs ds _=>Reps G' vs ds) .int .bl .non .str (fun h _ i=>.lst (h.same e) i) (fun h _ i=>.tup (e _ _ h) i) (fun h=>.scr (e.seq h)) (fun h hl _ i=>.dic (e _ _ h) hl i) .nil (fun _ _ i j=>.cons i j) h
theorem Reps.ind {G:Hp} {P:List V->List D->Prop} (h0:P [] []) (h1:∀{v:V} {d:D} {vs:List V} {ds:List D},Rep G v d->Reps G vs ds->P vs ds->P (v::vs) (d::ds)) {vs:List V} {ds:List D} (h:Reps G vs ds):P vs ds:=Reps.rec (motive_1:=fun _ _ _=>True) (motive_2:=fun vs ds _=>P vs ds) (fun _=>trivial) (fun _=>trivial) trivial (fun _=>trivial) (fun _ _ _=>trivial) (fun _ _ _=>trivial) (fun _=>trivial) (fun _ _ _ _=>trivial) h0 (fun r t _ i=>h1 r t i) h
theorem Reps.mono {G G':Hp} (e:Same G G') {vs:List V} {ds:List D} (h:Reps G vs ds):Reps G' vs ds:=h.ind (P:=fun vs ds=>Reps G' vs ds) .nil fun r _ i=>.cons (r.mono e) i
theorem Rep.flat {G G':Hp} {v:V} {d:D} (h:Rep G v d) (f:Jf d=true):Rep G' v d:=by
 cases h with
 | int i=>exact .int i
 | bl i=>exact .bl i
 | non=>exact .non
 | str i=>exact .str i
 | lst h r=>cases f
 | tup h r=>cases f
 | scr h=>cases f
 | dic h hl r=>cases f
section
variable {G G':Hp} {vs us:List V} {ds es:List D} {v:V} {d:D}
theorem Reps.length {vs:List V} {ds:List D} (h:Reps G vs ds):vs.length=ds.length:=h.ind (P:=fun vs ds=>vs.length=ds.length) rfl fun _ _ i=>congrArg (· + 1) i
theorem Reps.get {vs:List V} {ds:List D} {i:Nat} {d:D} (h:Reps G vs ds):ds[i]?=some d->∃v,vs[i]?=some v/\Rep G v d:=
 h.ind (P:=fun vs ds=>∀i d,ds[i]?=some d->∃v,vs[i]?=some v/\Rep G v d) (fun _ _ e=>by rw [Kz] at e;cases e) (fun r _ ih i _ e=>by
  cases i with
  | zero=>cases e;exact ⟨_,rfl,r⟩
  | succ i=>exact ih i _ e) i d
theorem Reps.getV {vs:List V} {ds:List D} {i:Nat} {v:V} (h:Reps G vs ds):vs[i]?=some v->∃d,ds[i]?=some d/\Rep G v d:=
 h.ind (P:=fun vs ds=>∀i v,vs[i]?=some v->∃d,ds[i]?=some d/\Rep G v d) (fun _ _ e=>by rw [Kz] at e;cases e) (fun r _ ih i _ e=>by
  cases i with
  | zero=>cases e;exact ⟨_,rfl,r⟩
  | succ i=>exact ih i _ e) i v
theorem Reps.append {vs us:List V} {ds es:List D} (h:Reps G vs ds) (s:Reps G us es):Reps G (vs++us) (ds++es):=h.ind (P:=fun vs ds=>Reps G (vs++us) (ds++es)) s fun r _ i=>.cons r i
theorem Reps.snoc (r:Reps G vs ds) (q:Rep G v d):Reps G (vs++[v]) (ds++[d]):=r.append (.cons q .nil)
theorem Reps.set (q:Rep G v d) {vs:List V} {ds:List D} (i:Nat) (h:Reps G vs ds):Reps G (vs.set i v) (ds.set i d):=
 h.ind (P:=fun vs ds=>∀i,Reps G (vs.set i v) (ds.set i d)) (fun _=>.nil) (fun r t ih i=>by
  cases i with
  | zero=>exact .cons q t
  | succ i=>exact .cons r (ih i)) i
theorem Reps.take {vs:List V} {ds:List D} (n:Nat) (h:Reps G vs ds):Reps G (vs.take n) (ds.take n):=
 h.ind (P:=fun vs ds=>∀n,Reps G (vs.take n) (ds.take n)) (fun n=>by cases n <;> exact .nil) (fun r t ih n=>by
  cases n with
  | zero=>exact .nil
  | succ n=>exact .cons r (ih n)) n
theorem Reps.drop {vs:List V} {ds:List D} (n:Nat) (h:Reps G vs ds):Reps G (vs.drop n) (ds.drop n):=
 h.ind (P:=fun vs ds=>∀n,Reps G (vs.drop n) (ds.drop n)) (fun n=>by cases n <;> exact .nil) (fun r t ih n=>by
  cases n with
  | zero=>exact .cons r t
  | succ n=>exact ih n) n
theorem Reps.reverse (h:Reps G vs ds):Reps G vs.reverse ds.reverse:=h.ind (P:=fun vs ds=>Reps G vs.reverse ds.reverse) .nil fun r _ i=>by rw [List.reverse_cons,List.reverse_cons];exact i.snoc r
theorem Reps.one_inv {vs:List V} {d:D} {ds:List D} (h:Reps G vs (d::ds)):∃v us,vs=v::us/\Rep G v d/\Reps G us ds:=by cases h with | cons r t=>exact ⟨_,_,rfl,r,t⟩
theorem Reps.ints {ns:List Int} {vs:List V} (h:Reps G vs (ns.map D.int)):vs=ns.map V.int:=by
 induction ns generalizing vs with
 | nil=>cases h;rfl
 | cons n ns ih=>obtain ⟨v,us,rfl,r,t⟩:=h.one_inv;cases r;rw [ih t];rfl
theorem Reps.of_ints:∀(ns:List Int),Reps G (ns.map V.int) (ns.map D.int)
 | []=>.nil
 | n::ns=>.cons (.int n) (Reps.of_ints ns)
theorem Reps.bls {ns:List Bool} {vs:List V} (h:Reps G vs (ns.map D.bl)):vs=ns.map V.bl:=by
 induction ns generalizing vs with
 | nil=>cases h;rfl
 | cons n ns ih=>obtain ⟨v,us,rfl,r,t⟩:=h.one_inv;cases r;rw [ih t];rfl
end
inductive RepT (G H:Hp):V->D->Prop where
 | int (i:Int):RepT G H (.int i) (.int i)
 | bl (b:Bool):RepT G H (.bl b) (.bl b)
 | non:RepT G H .non .non
 | str (x:Str):RepT G H (.str x) (.str x)
 | lst {a:Addr} {vs:List V} {ds:List D} (h:Rd H a (.lst vs)) (r:Reps G vs ds):RepT G H (.ref a) (.lst ds)
 | tup {a:Addr} {vs:List V} {ds:List D} (h:H a=some (.tup vs)) (r:Reps G vs ds):RepT G H (.ref a) (.tup ds)
 | scr {a:Addr} {ns:List Int} (h:J6 Fr.K H a (ns.map V.int)):RepT G H (.ref a) (.scr ns)
 | dic {a:Addr} {ks:List Int} {vs:List V} {ds:List D} (h:Rd H a (.dK (zi ks vs))) (hl:ks.length=vs.length) (r:Reps G vs ds):RepT G H (.ref a) (.dic ks ds)
inductive RepTs (G H:Hp):List V->List D->Prop where
 | nil:RepTs G H [] []
 | cons {v:V} {d:D} {vs:List V} {ds:List D}:RepT G H v d->RepTs G H vs ds->RepTs G H (v::vs) (d::ds)
theorem Rep.top {G H:Hp} {v:V} {d:D} (h:Rep G v d) (e:Same G H):RepT G H v d:=by
 cases h with
 | int i=>exact .int i
 | bl i=>exact .bl i
 | non=>exact .non
 | str i=>exact .str i
 | lst h r=>exact .lst (h.same e) r
 | tup h r=>exact .tup (e _ _ h) r
 | scr h=>exact .scr (e.seq h)
 | dic h hl r=>exact .dic (.inr ⟨_,e _ _ h⟩) hl r
theorem RepT.of_int {G H:Hp} {v:V} {i:Int} (h:RepT G H v (.int i)):v=.int i:=by cases h;rfl
theorem RepT.of_bl {G H:Hp} {v:V} {i:Bool} (h:RepT G H v (.bl i)):v=.bl i:=by cases h;rfl
theorem RepT.of_non {G H:Hp} {v:V} (h:RepT G H v .non):v=.non:=by cases h;rfl
theorem RepT.of_str {G H:Hp} {v:V} {i:Str} (h:RepT G H v (.str i)):v=.str i:=by cases h;rfl
theorem RepT.of_lst {G H:Hp} {v:V} {ds:List D} (h:RepT G H v (.lst ds)):∃a vs,v=.ref a/\Rd H a (.lst vs)/\Reps G vs ds:=by cases h;exact ⟨_,_,rfl,by assumption,by assumption⟩
theorem RepT.of_tup {G H:Hp} {v:V} {ds:List D} (h:RepT G H v (.tup ds)):∃a vs,v=.ref a/\H a=some (.tup vs)/\Reps G vs ds:=by cases h;exact ⟨_,_,rfl,by assumption,by assumption⟩
theorem RepT.of_scr {G H:Hp} {v:V} {ns:List Int} (h:RepT G H v (.scr ns)):∃a,v=.ref a/\J6 Fr.K H a (ns.map V.int):=by cases h;exact ⟨_,rfl,by assumption⟩
theorem RepT.of_dic {G H:Hp} {v:V} {ks:List Int} {ds:List D} (h:RepT G H v (.dic ks ds)):∃a vs,v=.ref a/\Rd H a (.dK (zi ks vs))/\ks.length=vs.length/\Reps G vs ds:=by cases h;exact ⟨_,_,rfl,by assumption,by assumption,by assumption⟩
theorem Rep.tt {G:Hp} {v:V} {d:D} (h:Rep G v d):RepT G G v d:=h.top fun _ _ e=>e
theorem Rep.of_int {G:Hp} {v:V} {i:Int} (h:Rep G v (.int i)):v=.int i:=h.tt.of_int
theorem Rep.of_bl {G:Hp} {v:V} {i:Bool} (h:Rep G v (.bl i)):v=.bl i:=h.tt.of_bl
theorem Rep.of_lst {G:Hp} {v:V} {ds:List D} (h:Rep G v (.lst ds)):∃a vs,v=.ref a/\Rd G a (.lst vs)/\Reps G vs ds:=h.tt.of_lst
theorem Rep.of_tup {G:Hp} {v:V} {ds:List D} (h:Rep G v (.tup ds)):∃a vs,v=.ref a/\G a=some (.tup vs)/\Reps G vs ds:=h.tt.of_tup
theorem RepT.mono {G H G' H':Hp} {v:V} {d:D} (h:RepT G H v d) (e:Same G G') (e':Same H H'):RepT G' H' v d:=by
 cases h with
 | int i=>exact .int i
 | bl i=>exact .bl i
 | non=>exact .non
 | str i=>exact .str i
 | lst h r=>exact .lst (h.same e') (r.mono e)
 | tup h r=>exact .tup (e' _ _ h) (r.mono e)
 | scr h=>exact .scr (e'.seq h)
 | dic h hl r=>exact .dic (h.same e') hl (r.mono e)
structure Ext (G H G' H':Hp):Prop where
 hh:Same H H'
 gg:Same G G'
 gh:Same G' H'
 nw:∀a o,G' a=some o->G a=some o\/H a=none
section
variable {G H G' H' G'' H'':Hp} {a:Addr} {o:HO}
theorem Ext.refl (h:Same G H):Ext G H G H:=⟨.refl _,.refl _,h,fun _ _ e=>.inl e⟩
theorem Ext.trans (x:Ext G H G' H') (y:Ext G' H' G'' H''):Ext G H G'' H'':=
 ⟨x.hh.trans y.hh,x.gg.trans y.gg,y.gh,fun a o e=>by
  rcases y.nw a o e with z | z
  . exact x.nw a o z
  . exact .inr (x.hh.free z)⟩
theorem Ext.new (h:Same G H) (hn:H a=none):Ext G H G (upd H a o):=⟨.upd hn,.refl _,fun b u e=>by rw [jF (jM (h b u e) hn)];exact h b u e,fun _ _ e=>.inl e⟩
theorem Ext.freeze (x:Ext G H G' H') (hn:H a=none) (hg:G' a=none) (ho:H' a=some o):Ext G H (upd G' a o) H':=
 ⟨x.hh,x.gg.trans (.upd hg),fun b u e=>by
  by_cases hb:b=a
  . subst hb;rw [jE] at e;cases e;exact ho
  . rw [jF hb] at e;exact x.gh b u e,fun b u e=>by
  by_cases hb:b=a
  . subst hb;exact .inr hn
  . rw [jF hb] at e;exact x.nw b u e⟩
theorem Ext.gone (x:Ext G H G' H') (hg:G a=none) (hh:H a=some o):G' a=none:=by
 cases e:G' a with
 | none=>rfl
 | some u=>
   rcases x.nw a u e with z | z
   . rw [hg] at z;cases z
   . rw [hh] at z;cases z
end
inductive Slot where
 | un | sh (d:D) | ow (ds:List D)
 /-- a dict of one's own -/
 | od (ks:List Int) (ds:List D)
 /-- a list of one's own, of lists of one's own -/
 | oo (dss:List (List D))
abbrev Env:=List Slot
abbrev ef:=L2.Env
inductive Rows (G H:Hp):List Addr->List (List D)->Prop where
 | nil:Rows G H [] []
 | cons {b:Addr} {us:List V} {ds:List D} {bs:List Addr} {dss:List (List D)} (h:H b=some (.lst us)) (r:Reps G us ds) (t:Rows G H bs dss):Rows G H (b::bs) (ds::dss)
def QX (H:Hp):Option V->Slot->Addr->Prop
 | some (.ref a),.ow _,b=>b=a
 | some (.ref a),.od _ _,b=>b=a
 | some (.ref a),.oo _,b=>b=a\/∃vs,H a=some (.lst vs)/\V.ref b∈vs
 | _,_,_=>False
inductive SlotOk (H0 G H:Hp):Option V->Slot->Prop where
 | un (o:Option V):SlotOk H0 G H o .un
 | sh {v:V} {d:D} (r:Rep G v d):SlotOk H0 G H (some v) (.sh d)
 | ow {a:Addr} {vs:List V} {ds:List D} (h0:H0 a=none) (hg:G a=none) (h:H a=some (.lst vs)) (r:Reps G vs ds):SlotOk H0 G H (some (.ref a)) (.ow ds)
 | od {a:Addr} {ks:List Int} {vs:List V} {ds:List D} (h0:H0 a=none) (hg:G a=none) (h:H a=some (.dK (zi ks vs))) (hl:ks.length=vs.length) (r:Reps G vs ds):SlotOk H0 G H (some (.ref a)) (.od ks ds)
 | oo {a:Addr} {bs:List Addr} {dss:List (List D)} (h:H a=some (.lst (bs.map V.ref))) (nd:(a::bs).Nodup) (own:∀b∈a::bs,H0 b=none/\G b=none) (rows:Rows G H bs dss):SlotOk H0 G H (some (.ref a)) (.oo dss)
structure EnvOk (G0 H0 G H:Hp) (σ:St) (ρ:ef):Prop where
 ext:Ext G0 H0 G H
 len:σ.length=ρ.length
 slot:∀(i:Nat) o s,σ[i]?=some o->ρ[i]?=some s->SlotOk H0 G H o s
 dist:∀(i j:Nat) o o' s s' b,σ[i]?=some o->ρ[i]?=some s->σ[j]?=some o'->ρ[j]?=some s'->QX H o s b->QX H o' s' b->i=j
section
variable {G0 H0 G H G' H':Hp} {σ:St} {ρ:ef} {i:Nat} {d:D} {ds:List D} {v:V} {vs:List V} {a:Addr}
theorem Rows.there {bs:List Addr} {dss:List (List D)} (h:Rows G H bs dss):∀b∈bs,∃us,H b=some (.lst us):=by
 induction h with
 | nil=>intro b hb;cases hb
 | cons h r t ih=>
   intro b hb;rcases Yr.mp hb with rfl | hb
   . exact ⟨_,h⟩
   . exact ih b hb
theorem Rows.keep {bs:List Addr} {dss:List (List D)} (h:Rows G H bs dss) (gg:Same G G') (k:∀b∈bs,H' b=H b):Rows G' H' bs dss:=by
 induction h with
 | nil=>exact .nil
 | cons h r t ih=>exact .cons (by rw [k _ Yf];exact h) (r.mono gg) (ih fun b hb=>k b (Ym _ hb))
theorem Rows.length {bs:List Addr} {dss:List (List D)} (h:Rows G H bs dss):bs.length=dss.length:=by
 induction h with
 | nil=>rfl
 | cons h r t ih=>simp [ih]
theorem Rows.get {bs:List Addr} {dss:List (List D)} (h:Rows G H bs dss):∀{j:Nat} {ds:List D},dss[j]?=some ds->∃b us,bs[j]?=some b/\H b=some (.lst us)/\Reps G us ds:=by
 induction h with
 | nil=>intro j ds e;simp at e
 | cons h r t ih=>
   intro j ds e;cases j with
   | zero=>simp at e;subst e;exact ⟨_,_,rfl,h,r⟩
   | succ j=>obtain ⟨b,us,h1,h2,h3⟩:=ih (j:=j) (ds:=ds) (by simpa using e);exact ⟨b,us,by simpa using h1,h2,h3⟩
theorem Rows.put {bs:List Addr} {dss:List (List D)} {us:List V} (h:Rows G H bs dss) (r:Reps G us ds):∀{j:Nat} {b:Addr},bs.Nodup->bs[j]?=some b->Rows G (upd H b (.lst us)) bs (dss.set j ds):=by
 induction h with
 | nil=>intro j b _ e;simp at e
 | @cons c us' ds' bs dss h q t ih=>
   intro j b nd e;have nd':=yu.mp nd;cases j with
   | zero=>simp at e;subst e;exact .cons jE r (t.keep (.refl _) fun b' hb'=>jF fun z=>nd'.1 (z ▸ hb'))
   | succ j=>
     have e':bs[j]?=some b:=by simpa using e
     have hb:c≠b:=fun z=>nd'.1 (z ▸ YF e');exact .cons (by rw [jF hb];exact h) q (ih nd'.2 e')
theorem Rows.frozen {bs:List Addr} {dss:List (List D)} (h:Rows G H bs dss) (gg:Same G G') (k:∀b∈bs,G' b=H b):Reps G' (bs.map V.ref) (dss.map D.lst):=by
 induction h with
 | nil=>exact .nil
 | cons h r t ih=>exact .cons (.lst (.inl ((k _ Yf).trans h)) (r.mono gg)) (ih fun b hb=>k b (Ym _ hb))
theorem EnvOk.same (e:EnvOk G0 H0 G H σ ρ):Same G H:=e.ext.gh
theorem SlotOk.foot {o:Option V} {s:Slot} {b:Addr} (h:SlotOk H0 G H o s) (f:QX H o s b):H0 b=none/\G b=none/\∃u,H b=some u:=by
 cases h with
 | un=>cases o with | none=>exact f.elim | some v=>cases v <;> exact f.elim
 | @sh v d r=>cases v <;> exact f.elim
 | ow h0 hg h r=>cases (show b=_ from f);exact ⟨h0,hg,_,h⟩
 | od h0 hg h hl r=>cases (show b=_ from f);exact ⟨h0,hg,_,h⟩
 | @oo a bs dss h nd own rows=>
   have f':b=a\/∃vs,H a=some (.lst vs)/\V.ref b∈vs:=f;rcases f' with rfl | ⟨vs,q,hb⟩
   . exact ⟨(own b Yf).1,(own b Yf).2,_,h⟩
   . rw [h] at q;cases q;obtain ⟨c,hc,e⟩:=Y6.mp hb;injection e with e;subst e;obtain ⟨us,hu⟩:=rows.there c hc;exact ⟨(own c (Ym _ hc)).1,(own c (Ym _ hc)).2,_,hu⟩
theorem Qe {bs:List Addr} {dss:List (List D)} {b:Addr} (h:H a=some (.lst (bs.map V.ref))):QX H (some (.ref a)) (.oo dss) b ↔ b∈a::bs:=by
 show (b=a\/∃vs,H a=some (.lst vs)/\V.ref b∈vs) ↔ _;rw [Yr];constructor
 . rintro (z | ⟨vs,q,hb⟩)
   . exact .inl z
   . rw [h] at q;cases q;obtain ⟨c,hc,e⟩:=Y6.mp hb;injection e with e;subst e;exact .inr hc
 . rintro (z | z)
   . exact .inl z
   . exact .inr ⟨_,h,ka z⟩
theorem SlotOk.keep {o:Option V} {s:Slot} (h:SlotOk H0 G H o s) (gg:Same G G') (k:∀b,QX H o s b->H' b=H b/\G' b=none):SlotOk H0 G' H' o s/\∀b,QX H' o s b->QX H o s b:=by
 cases h with
 | un=>exact ⟨.un _,fun b f=>by cases o with | none=>exact f.elim | some v=>cases v <;> exact f.elim⟩
 | @sh v d r=>exact ⟨.sh (r.mono gg),fun b f=>by cases v <;> exact f.elim⟩
 | @ow a vs ds h0 hg h r=>have q:=k a rfl;exact ⟨.ow h0 q.2 (by rw [q.1];exact h) (r.mono gg),fun b f=>f⟩
 | @od a ks vs ds h0 hg h hl r=>have q:=k a rfl;exact ⟨.od h0 q.2 (by rw [q.1];exact h) hl (r.mono gg),fun b f=>f⟩
 | @oo a bs dss h nd own rows=>
   have h':H' a=some (.lst (bs.map V.ref)):=by rw [(k a (.inl rfl)).1];exact h
   refine ⟨.oo h' nd (fun b hb=>⟨(own b hb).1,(k b ((Qe h).mpr hb)).2⟩) (rows.keep gg fun b hb=>(k b ((Qe h).mpr (Ym _ hb))).1),fun b f=>?_⟩;exact (Qe h).mpr ((Qe h').mp f)
theorem EnvOk.grow (e:EnvOk G0 H0 G H σ ρ) (x:Ext G H G' H'):EnvOk G0 H0 G' H' σ ρ:=by
 have key:∀(i:Nat) o s,σ[i]?=some o->ρ[i]?=some s->_:=fun i o s h1 h2=>(e.slot i o s h1 h2).keep (H':=H') x.gg fun b f=>by obtain ⟨_,g,u,hu⟩:=(e.slot i o s h1 h2).foot f;exact ⟨by rw [hu];exact x.hh _ _ hu,x.gone g hu⟩
 exact ⟨e.ext.trans x,e.len,fun i o s h1 h2=>(key i o s h1 h2).1,fun i j o o' s s' b h1 h2 h3 h4 f f'=>e.dist i j o o' s s' b h1 h2 h3 h4 ((key i o s h1 h2).2 b f) ((key j o' s' h3 h4).2 b f')⟩
theorem EnvOk.at {s:Slot} (e:EnvOk G0 H0 G H σ ρ) (h:ρ[i]?=some s):∃o,σ[i]?=some o/\SlotOk H0 G H o s:=by
 have hi:i<σ.length:=by rw [e.len];exact (Yo.mp h).1
 exact ⟨σ[i],Ya hi,e.slot i _ _ (Ya hi) h⟩
theorem EnvOk.sh (e:EnvOk G0 H0 G H σ ρ) (h:ρ[i]?=some (.sh d)):∃v,σ[i]?=some (some v)/\Rep G v d:=by
 obtain ⟨o,h1,h2⟩:=e.at h;cases h2 with
 | sh r=>exact ⟨_,h1,r⟩
theorem EnvOk.ow (e:EnvOk G0 H0 G H σ ρ) (h:ρ[i]?=some (.ow ds)):∃a vs,σ[i]?=some (some (.ref a))/\H0 a=none/\G a=none/\H a=some (.lst vs)/\Reps G vs ds:=by
 obtain ⟨o,h1,h2⟩:=e.at h;cases h2 with
 | ow h0 hg h r=>exact ⟨_,_,h1,h0,hg,h,r⟩
theorem EnvOk.od {ks:List Int} (e:EnvOk G0 H0 G H σ ρ) (h:ρ[i]?=some (.od ks ds)):∃a vs,σ[i]?=some (some (.ref a))/\H0 a=none/\G a=none/\H a=some (.dK (zi ks vs))/\ks.length=vs.length/\Reps G vs ds:=by
 obtain ⟨o,h1,h2⟩:=e.at h;cases h2 with
 | od h0 hg h hl r=>exact ⟨_,_,h1,h0,hg,h,hl,r⟩
theorem EnvOk.oo {dss:List (List D)} (e:EnvOk G0 H0 G H σ ρ) (h:ρ[i]?=some (.oo dss)):∃a bs,σ[i]?=some (some (.ref a))/\H a=some (.lst (bs.map V.ref))/\(a::bs).Nodup/\(∀b∈a::bs,H0 b=none/\G b=none)/\Rows G H bs dss:=by
 obtain ⟨o,h1,h2⟩:=e.at h;cases h2 with
 | oo h nd own rows=>exact ⟨_,_,h1,h,nd,own,rows⟩
theorem EnvOk.change {o':Option V} {s':Slot} (e:EnvOk G0 H0 G H σ ρ) (x:Ext G0 H0 G' H') (gg:Same G G')
 (keep:∀j,j≠i->∀o s,σ[j]?=some o->ρ[j]?=some s->∀b,QX H o s b->H' b=H b/\G' b=none) (new:SlotOk H0 G' H' o' s')
 (foot:∀b,QX H' o' s' b->H b=none\/∃o s,σ[i]?=some o/\ρ[i]?=some s/\QX H o s b):EnvOk G0 H0 G' H' (σ.set i o') (ρ.set i s'):=by
 have key:∀(j:Nat) o s,j≠i->σ[j]?=some o->ρ[j]?=some s->_:=fun j o s hj h1 h2=>(e.slot j o s h1 h2).keep (H':=H') gg (keep j hj o s h1 h2);have at_i:∀o s,(σ.set i o')[i]?=some o->(ρ.set i s')[i]?=some s->o=o'/\s=s':=fun o s h1 h2=>by rw [List.getElem?_set] at h1 h2;simp at h1 h2;exact ⟨h1.2.symm,h2.2.symm⟩
 refine ⟨x,by simp [e.len],fun j o s h1 h2=>?_,fun j k o p s t b h1 h2 h3 h4 f g=>?_⟩
 . by_cases hj:i=j
   . subst hj;obtain ⟨rfl,rfl⟩:=at_i o s h1 h2;exact new
   . rw [YR hj] at h1 h2;exact (key j o s (Ne.symm hj) h1 h2).1
 . have other:∀(m:Nat) q u,i≠m->(σ.set i o')[m]?=some q->(ρ.set i s')[m]?=some u->QX H' q u b->QX H' o' s' b->False:=fun m q u hm g1 g2 f1 f2=>by
    rw [YR hm] at g1 g2;have f1':=(key m q u (Ne.symm hm) g1 g2).2 b f1;obtain ⟨_,_,w,hw⟩:=(e.slot m q u g1 g2).foot f1';rcases foot b f2 with z | ⟨o2,s2,z1,z2,z3⟩
    . rw [hw] at z;cases z
    . exact hm (e.dist i m _ _ _ _ b z1 z2 g1 g2 z3 f1')
   by_cases hj:i=j
   . by_cases hk:i=k
     . exact hj.symm.trans hk
     . subst hj;obtain ⟨rfl,rfl⟩:=at_i o s h1 h2;exact (other k p t hk h3 h4 g f).elim
   . by_cases hk:i=k
     . subst hk;obtain ⟨rfl,rfl⟩:=at_i p t h3 h4;exact (other j o s hj h1 h2 f g).elim
     . rw [YR hj] at h1 h2;rw [YR hk] at h3 h4;exact e.dist j k o p s t b h1 h2 h3 h4 ((key j o s (Ne.symm hj) h1 h2).2 b f) ((key k p t (Ne.symm hk) h3 h4).2 b g)
theorem EnvOk.stay (e:EnvOk G0 H0 G H σ ρ):∀j,j≠i->∀o s,σ[j]?=some o->ρ[j]?=some s->∀b,QX H o s b->H b=H b/\G b=none:=fun j _ o s h1 h2 b f=>⟨rfl,((e.slot j o s h1 h2).foot f).2.1⟩
theorem EnvOk.set (e:EnvOk G0 H0 G H σ ρ) (r:Rep G v d):EnvOk G0 H0 G H (σ.set i (some v)) (ρ.set i (.sh d)):=e.change e.ext (.refl _) e.stay (.sh r) fun b f=>by cases v <;> exact f.elim
theorem EnvOk.fresh (e:EnvOk G0 H0 G H σ ρ) (x:Ext G H G' H') {o':Option V} {s':Slot} (new:SlotOk H0 G' H' o' s') (foot:∀b,QX H' o' s' b->H b=none):EnvOk G0 H0 G' H' (σ.set i o') (ρ.set i s'):=
 e.change (e.ext.trans x) x.gg (fun j _ o s h1 h2 b f=>by obtain ⟨_,g,u,hu⟩:=(e.slot j o s h1 h2).foot f;exact ⟨by rw [hu];exact x.hh _ _ hu,x.gone g hu⟩) new fun b f=>.inl (foot b f)
theorem EnvOk.setO (e:EnvOk G0 H0 G H σ ρ) (x:Ext G H G' H') (hn:H a=none) (hg:G' a=none) (h:H' a=some (.lst vs)) (r:Reps G' vs ds):EnvOk G0 H0 G' H' (σ.set i (some (.ref a))) (ρ.set i (.ow ds)):=e.fresh x (.ow (e.ext.hh.free hn) hg h r) fun b f=>by cases (show b=a from f);exact hn
theorem EnvOk.setD {ks:List Int} (e:EnvOk G0 H0 G H σ ρ) (x:Ext G H G' H') (hn:H a=none) (hg:G' a=none) (h:H' a=some (.dK (zi ks vs))) (hl:ks.length=vs.length) (r:Reps G' vs ds):EnvOk G0 H0 G' H' (σ.set i (some (.ref a))) (ρ.set i (.od ks ds)):=e.fresh x (.od (e.ext.hh.free hn) hg h hl r) fun b f=>by cases (show b=a from f);exact hn
theorem EnvOk.setOO {bs:List Addr} {dss:List (List D)} (e:EnvOk G0 H0 G H σ ρ) (x:Ext G H G' H') (hn:∀b∈a::bs,H b=none/\G' b=none) (nd:(a::bs).Nodup) (h:H' a=some (.lst (bs.map V.ref))) (r:Rows G' H' bs dss):EnvOk G0 H0 G' H' (σ.set i (some (.ref a))) (ρ.set i (.oo dss)):=e.fresh x (.oo h nd (fun b hb=>⟨e.ext.hh.free (hn b hb).1,(hn b hb).2⟩) r) fun b f=>(hn b ((Qe h).mp f)).1
theorem EnvOk.write {u:HO} {o:Option V} {s s':Slot} (e:EnvOk G0 H0 G H σ ρ) (h1:ρ[i]?=some s) (h2:σ[i]?=some o) (f:QX H o s a) (new:SlotOk H0 G (upd H a u) o s') (foot:∀b,QX (upd H a u) o s' b->QX H o s b):EnvOk G0 H0 G (upd H a u) σ (ρ.set i s'):=by
 obtain ⟨q1,q2,_⟩:=(e.slot i o s h2 h1).foot f;have hi:i<σ.length:=(Yo.mp h2).1;have key:=e.change (i:=i) (o':=o) (s':=s') (G':=G) (H':=upd H a u) ⟨fun b o z=>by rw [jF (jM z q1)];exact e.ext.hh b o z,e.ext.gg,fun b o z=>by rw [jF (jM z q2)];exact e.ext.gh b o z,e.ext.nw⟩ (.refl _)
  (fun j hj o' s' g1 g2 b f'=>by
   have hb:b≠a:=fun z=>by subst z;exact hj (e.dist j i _ _ _ _ b g1 g2 h2 h1 f' f)
   exact ⟨jF hb,((e.slot j o' s' g1 g2).foot f').2.1⟩) new fun b f'=>.inr ⟨o,s,h2,h1,foot b f'⟩
 have e':σ.set i o=σ:=by
  refine Kd fun j=>?_;by_cases hj:i=j
  . subst hj;rw [Y4 hi,h2]
  . rw [YR hj]
 rw [e'] at key;exact key
theorem EnvOk.put (e:EnvOk G0 H0 G H σ ρ) (h1:ρ[i]?=some (.ow ds)) (h2:σ[i]?=some (some (.ref a))) {es:List D} (r:Reps G vs es):EnvOk G0 H0 G (upd H a (.lst vs)) σ (ρ.set i (.ow es)):=by obtain ⟨b,us,q1,q2,q3,q4,q5⟩:=e.ow h1;rw [h2] at q1;cases q1;exact e.write h1 h2 rfl (.ow q2 q3 jE r) fun b f=>f
theorem EnvOk.putD {ks ls:List Int} (e:EnvOk G0 H0 G H σ ρ) (h1:ρ[i]?=some (.od ks ds)) (h2:σ[i]?=some (some (.ref a))) {es:List D} (hl:ls.length=vs.length) (r:Reps G vs es):EnvOk G0 H0 G (upd H a (.dK (zi ls vs))) σ (ρ.set i (.od ls es)):=by obtain ⟨b,us,q1,q2,q3,q4,_,q5⟩:=e.od h1;rw [h2] at q1;cases q1;exact e.write h1 h2 rfl (.od q2 q3 jE hl r) fun b f=>f
theorem EnvOk.putOO {dss:List (List D)} {bs:List Addr} {j:Nat} {b:Addr} (e:EnvOk G0 H0 G H σ ρ) (h1:ρ[i]?=some (.oo dss)) (h2:σ[i]?=some (some (.ref a))) (h3:H a=some (.lst (bs.map V.ref))) (hb:bs[j]?=some b) (r:Reps G vs ds):EnvOk G0 H0 G (upd H b (.lst vs)) σ (ρ.set i (.oo (dss.set j ds))):=by
 obtain ⟨a',bs',q1,q2,q3,q4,q5⟩:=e.oo h1;rw [h2] at q1;cases q1;rw [h3] at q2;have ebs:bs'=bs:=by have:=HO.lst.inj (Option.some.inj q2);exact ((List.map_inj_right (f:=V.ref) fun x y z=>V.ref.inj z).mp this).symm
 subst ebs;have nd':=yu.mp q3;have hm:=YF hb;have hab:a≠b:=fun z=>nd'.1 (z ▸ hm);have h3':upd H b (.lst vs) a=some (.lst (bs'.map V.ref)):=by rw [jF hab];exact h3
 exact e.write h1 h2 ((Qe h3).mpr (Ym _ hm)) (.oo h3' q3 q4 (q5.put r nd'.2 hb)) fun c f=>(Qe h3).mpr ((Qe h3').mp f)
def frz (i:Nat) (ρ:ef):ef:=match ρ[i]? with
 | some (.ow ds)=>ρ.set i (.sh (.lst ds))
 | some (.oo dss)=>ρ.set i (.sh (.lst (dss.map .lst)))
 | _=>ρ
theorem EnvOk.let {o:Option V} {s s':Slot} (e:EnvOk G0 H0 G H σ ρ) (h1:ρ[i]?=some s) (h2:σ[i]?=some o) (gg:Same G G') (gh:Same G' H) (nw:∀b u,G' b=some u->G b=some u\/QX H o s b)
 (new:SlotOk H0 G' H o s') (foot:∀b,QX H o s' b->QX H o s b):EnvOk G0 H0 G' H σ (ρ.set i s'):=by
 have hi:i<σ.length:=(Yo.mp h2).1;have key:=e.change (i:=i) (o':=o) (s':=s') (G':=G') (H':=H) ⟨e.ext.hh,e.ext.gg.trans gg,gh,fun b u z=>by
  rcases nw b u z with w | w
  . exact e.ext.nw b u w
  . exact .inr ((e.slot i o s h2 h1).foot w).1⟩ gg
  (fun j hj o' s' g1 g2 b f'=>⟨rfl,by
   obtain ⟨_,g,_⟩:=(e.slot j o' s' g1 g2).foot f';cases q:G' b with
   | none=>rfl
   | some u=>
     rcases nw b u q with w | w
     . rw [g] at w;cases w
     . exact (hj (e.dist j i _ _ _ _ b g1 g2 h2 h1 f' w)).elim⟩) new fun b f'=>.inr ⟨o,s,h2,h1,foot b f'⟩
 have e':σ.set i o=σ:=by
  refine Kd fun j=>?_;by_cases hj:i=j
  . subst hj;rw [Y4 hi,h2]
  . rw [YR hj]
 rw [e'] at key;exact key
theorem jqj {u w:HO} {b:Addr} (h:upd G a u b=some w):G b=some w\/b=a:=by
 by_cases hb:b=a
 . exact .inr hb
 . rw [jF hb] at h;exact .inl h
theorem jph {u:HO} (s:Same G H) (h:H a=some u):Same (upd G a u) H:=fun b w e=>by
 by_cases hb:b=a
 . subst hb;rw [jE] at e;cases e;exact h
 . rw [jF hb] at e;exact s b w e
theorem EnvOk.freeze (e:EnvOk G0 H0 G H σ ρ) (h1:ρ[i]?=some (.ow ds)) (h2:σ[i]?=some (some (.ref a))) (h3:H a=some (.lst vs)) (h4:Reps G vs ds):EnvOk G0 H0 (upd G a (.lst vs)) H σ (ρ.set i (.sh (.lst ds))):=by obtain ⟨b,us,q1,q2,q3,q4,q5⟩:=e.ow h1;rw [h2] at q1;cases q1;have up:Same G (upd G a (.lst vs)):=.upd q3;exact e.let h1 h2 up (jph e.same h3) (fun b u z=>jqj z) (.sh (.lst (.inl jE) (h4.mono up))) fun b f=>f.elim
open Classical in
/-- the heap with more of it known -/
def more (G H:Hp) (bs:List Addr):Hp:=fun b=>if b∈bs then H b else G b
theorem jf5 {bs:List Addr} {b:Addr} (h:b∈bs):more G H bs b=H b:=if_pos h
theorem jae {bs:List Addr} {b:Addr} (h:b∉bs):more G H bs b=G b:=if_neg h
theorem jeL {bs:List Addr} (s:Same G H):Same G (more G H bs)/\Same (more G H bs) H:=by
 refine ⟨fun b u e=>?_,fun b u e=>?_⟩
 . by_cases hb:b∈bs
   . rw [jf5 hb];exact s b u e
   . rw [jae hb];exact e
 . by_cases hb:b∈bs
   . rw [jf5 hb] at e;exact e
   . rw [jae hb] at e;exact s b u e
theorem EnvOk.half {dss:List (List D)} {bs:List Addr} (e:EnvOk G0 H0 G H σ ρ) (h1:ρ[i]?=some (.oo dss)) (h2:σ[i]?=some (some (.ref a))) (h3:H a=some (.lst (bs.map V.ref))) (nd:(a::bs).Nodup) (own:∀b∈a::bs,H0 b=none/\G b=none) (rows:Rows G H bs dss) :
 EnvOk G0 H0 (more G H bs) H σ (ρ.set i (.ow (dss.map .lst)))/\Reps (more G H bs) (bs.map V.ref) (dss.map D.lst):=by
 have ss:=jeL (bs:=bs) e.same;have nd':=yu.mp nd;have rr:=rows.frozen ss.1 fun b hb=>jf5 hb;refine ⟨e.let h1 h2 ss.1 ss.2 (fun b u z=>?_) (.ow (own a Yf).1 (by rw [jae nd'.1];exact (own a Yf).2) h3 rr) fun b f=>.inl f,rr⟩;by_cases hb:b∈bs
 . exact .inr ((Qe h3).mpr (Ym _ hb))
 . rw [jae hb] at z;exact .inl z
end
def EOk (t:TE) (f:ef->Option D):Prop:=∀G0 H0 G H σ ρ (Q:VK) d,EnvOk G0 H0 G H σ ρ->f ρ=some d->(∀v G' H',Ext G H G' H'->Rep G' v d->Q v H')->t σ H Q
def JA (t:TE) (f:ef->Option D):Prop:=∀G0 H0 G H σ ρ (Q:VK) d,EnvOk G0 H0 G H σ ρ->f ρ=some d->(∀v G' H',Ext G H G' H'->RepT G' H' v d->Q v H')->t σ H Q
def EOkO (t:TE) (f:ef->Option (List D)):Prop:=∀G0 H0 G H σ ρ (Q:VK) ds,EnvOk G0 H0 G H σ ρ->f ρ=some ds->
 ‹"aA"›->t σ H Q
def TOk (t:TT) (f:ef->Option Bool):Prop:=∀G0 H0 G H σ ρ (Q:Bool->Hp->Prop) b,EnvOk G0 H0 G H σ ρ->f ρ=some b->(∀G' H',Ext G H G' H'->Q b H')->t σ H Q
def AOk (t:TA) (f:ef->Option (List D)):Prop:=∀G0 H0 G H σ ρ (Q:List V->Hp->Prop) ds,EnvOk G0 H0 G H σ ρ->f ρ=some ds->(∀vs G' H',Ext G H G' H'->Reps G' vs ds->Q vs H')->t σ H Q
def jcb (t:TA) (f:ef->Option (List D)):Prop:=∀G0 H0 G H σ ρ (Q:List V->Hp->Prop) ds,EnvOk G0 H0 G H σ ρ->f ρ=some ds->(∀vs G' H',Ext G H G' H'->RepTs G' H' vs ds->Q vs H')->t σ H Q
def jH (f:ef->Option (List D)):ef->Option D:=fun ρ=>(f ρ).map .lst
theorem EOkO.e {t:TE} {f:ef->Option (List D)} (h:EOkO t f):EOk t (jH f):=fun G0 H0 G H σ ρ Q d e q k=>by
 unfold jH at q;cases z:f ρ with
 | none=>rw [z] at q;cases q
 | some ds=>rw [z] at q;cases q;exact h G0 H0 G H σ ρ Q ds e z fun a vs G' H' x hn hg ha r=>k _ _ _ (x.freeze hn hg ha) (.lst (.inl jE) (r.mono (.upd hg)))
theorem EOk.t {t:TE} {f:ef->Option D} (h:EOk t f):JA t f:=fun G0 H0 G H σ ρ Q d e q k=>h G0 H0 G H σ ρ Q d e q fun v G' H' x r=>k v G' H' x (r.top x.gh)
theorem AOk.t {t:TA} {f:ef->Option (List D)} (h:AOk t f):jcb t f:=fun G0 H0 G H σ ρ Q d e q k=>h G0 H0 G H σ ρ Q d e q fun v G' H' x r=>k v G' H' x (by
 clear k e q;induction r using Reps.rec (motive_1:=fun _ _ _=>True) with
 | nil=>exact .nil
 | cons r _ _ ih=>exact .cons (r.top x.gh) ih
 | _=>trivial)
def jm (i:Nat):ef->Option D:=fun ρ=>match ρ[i]? with
 | some (.sh d)=>some d
 | _=>none
def ja (i:Nat):ef->Option D:=fun ρ=>match ρ[i]? with
 | some (.sh d)=>some d
 | some (.ow ds)=>some (.lst ds)
 | some (.od ks ds)=>some (.dic ks ds)
 | _=>none
def eC (d:D):ef->Option D:=fun _=>some d
theorem jr8 (i:Nat):EOk (jfT i) (jm i):=fun G0 H0 G H σ ρ Q d e q k=>by
 unfold jm at q;split at q
 . rename_i d' h;cases q;obtain ⟨v,h1,r⟩:=e.sh h;exact ⟨v,h1,k v G H (.refl e.same) r⟩
 . cases q
theorem jqM (i:Nat):JA (jfT i) (ja i):=fun G0 H0 G H σ ρ Q d e q k=>by
 unfold ja at q;split at q
 . rename_i d' h;cases q;obtain ⟨v,h1,r⟩:=e.sh h;exact ⟨v,h1,k v G H (.refl e.same) (r.top e.same)⟩
 . rename_i ds h;cases q;obtain ⟨a,vs,h1,_,_,h2,r⟩:=e.ow h;exact ⟨_,h1,k _ G H (.refl e.same) (.lst (.inl h2) r)⟩
 . rename_i ks ds h;cases q;obtain ⟨a,vs,h1,_,_,h2,hl,r⟩:=e.od h;exact ⟨_,h1,k _ G H (.refl e.same) (.dic (.inl h2) hl r)⟩
 . cases q
theorem joF {i:Int}:EOk (tC (.int i)) (eC (.int i)):=fun G0 H0 G H σ ρ Q d e q k=>by cases q;exact k _ G H (.refl e.same) (.int i)
theorem jsW {i:Bool}:EOk (tC (.bl i)) (eC (.bl i)):=fun G0 H0 G H σ ρ Q d e q k=>by cases q;exact k _ G H (.refl e.same) (.bl i)
theorem jsE:EOk (tC .non) (eC .non):=fun G0 H0 G H σ ρ Q d e q k=>by cases q;exact k _ G H (.refl e.same) .non
def ROk (r:R2) (f:D->D->Option D):Prop:=∀G H x y dx dy d (Q:VK),Same G H->RepT G H x dx->RepT G H y dy->f dx dy=some d->(∀v G' H',Ext G H G' H'->Rep G' v d->Q v H')->r x y H Q
def jpO (r:R2) (f:D->D->Option (List D)):Prop:=∀G H x y dx dy ds (Q:VK),Same G H->RepT G H x dx->RepT G H y dy->f dx dy=some ds->
 ‹"aA"›->r x y H Q
def jq {β:Type} (f:D->D->Option β) (a b:ef->Option D):ef->Option β:=fun ρ=>(a ρ).bind fun x=>(b ρ).bind fun y=>f x y
section
variable {ta tb tc:TE} {fa fb fc:ef->Option D} {r r':R2} {f f':D->D->Option D}
theorem jnt (h:ROk r f) (ha:JA ta fa) (hb:JA tb fb):EOk (tOp r ta tb) (jq f fa fb):=fun G0 H0 G H σ ρ Q d e q k=>by obtain ⟨x,qa,q⟩:=bind_some q;obtain ⟨y,qb,q⟩:=bind_some q;refine ha G0 H0 G H σ ρ _ x e qa fun u G1 H1 x1 r1=>?_;refine hb G0 H0 G1 H1 σ ρ _ y (e.grow x1) qb fun v G2 H2 x2 r2=>?_;exact h G2 H2 u v x y d Q x2.gh (r1.mono x2.gg x2.hh) r2 q fun w G3 H3 x3 r3=>k w G3 H3 ‹"aI"› r3
theorem joD {f:D->D->Option (List D)} (h:jpO r f) (ha:JA ta fa) (hb:JA tb fb):EOkO (tOp r ta tb) (jq f fa fb):=fun G0 H0 G H σ ρ Q d e q k=>by obtain ⟨x,qa,q⟩:=bind_some q;obtain ⟨y,qb,q⟩:=bind_some q;refine ha G0 H0 G H σ ρ _ x e qa fun u G1 H1 x1 r1=>?_;refine hb G0 H0 G1 H1 σ ρ _ y (e.grow x1) qb fun v G2 H2 x2 r2=>?_;exact h G2 H2 u v x y d Q x2.gh (r1.mono x2.gg x2.hh) r2 q fun w vs G3 H3 x3 hn hg hh r3=>k w vs G3 H3 ‹"aI"› ((x1.hh.trans x2.hh).free hn) hg hh r3
def dI0 (g:Int->Int->D):D->D->Option D
 | .int i,.int j=>some (g i j)
 | _,_=>none
def dI (C:Int->Int->Prop) [∀i j,Decidable (C i j)] (g:Int->Int->D):D->D->Option D
 | .int i,.int j=>if C i j then some (g i j) else none
 | _,_=>none
theorem qr {α:Type} {P:Prop} {d:α} (h:none=some d):P:=nomatch h
theorem jmO {m:Int->Int->D} {x y d:D} (q:dI0 m x y=some d):∃i j,x=.int i/\y=.int j/\m i j=d:=by
 cases x with
 | int i=>
   cases y with
   | int j=>exact ⟨i,j,rfl,rfl,Option.some.inj q⟩
   | _=>exact qr q
 | _=>exact qr q
theorem jqC {C:Int->Int->Prop} [∀i j,Decidable (C i j)] {m:Int->Int->D} {x y d:D} (q:dI C m x y=some d):∃i j,x=.int i/\y=.int j/\C i j/\m i j=d:=by
 cases x with
 | int i=>
   cases y with
   | int j=>
     by_cases c:C i j
     . exact ⟨i,j,rfl,rfl,c,Option.some.inj ((if_pos c).symm.trans q)⟩
     . exact qr ((if_neg c).symm.trans q)
   | _=>exact qr q
 | _=>exact qr q
theorem jjY {g:Int->Int->V} {m:Int->Int->D} (hg:∀G i j,Rep G (g i j) (m i j)):ROk (rI0 g) (dI0 m):=fun G H x y dx dy d Q s rx ry q k=>by
 obtain ⟨i,j,rfl,rfl,rfl⟩:=jmO q
 (have hh:=RepT.of_int rx;subst hh)
 (have hh:=RepT.of_int ry;subst hh)
 exact ⟨_,_,rfl,rfl,k _ G H (.refl s) (hg _ _ _)⟩
theorem o_I {C:Int->Int->Prop} [∀i j,Decidable (C i j)] {g:Int->Int->V} {m:Int->Int->D} (hg:∀G i j,Rep G (g i j) (m i j)):ROk (rI C g) (dI C m):=fun G H x y dx dy d Q s rx ry q k=>by
 obtain ⟨i,j,rfl,rfl,hc,rfl⟩:=jqC q
 (have hh:=RepT.of_int rx;subst hh)
 (have hh:=RepT.of_int ry;subst hh)
 exact ⟨_,_,rfl,rfl,hc,k _ G H (.refl s) (hg _ _ _)⟩
instance (i j:Int):Decidable (jjn i j):=inferInstanceAs (Decidable (_/\_))
instance (i j:Int):Decidable (jeC i j):=inferInstanceAs (Decidable (_/\_))
def qL:=dI0 fun i j=>.int (i+j)
def zp:=dI0 fun i j=>.int (i-j)
def qS:=dI CMulB fun i j=>.int (i*j)
def J4:=dI jjn fun i j=>.int (i/j)
def qK:=dI (fun _ j=>0<j) fun i j=>.int (i%j)
def jaz:=dI jeC fun i j=>.int (i ^ j.toNat)
def dLt:=dI0 fun i j=>.bl (decide (i<j))
def dLe:=dI0 fun i j=>.bl (decide (i<=j))
def dGt:=dI0 fun i j=>.bl (decide (j<i))
def dGe:=dI0 fun i j=>.bl (decide (j<=i))
theorem jrI:ROk (rI0 fun i j=>.int (i+j)) qL:=jjY fun _ _ _=>.int _
theorem jre:ROk (rI0 fun i j=>.int (i-j)) zp:=jjY fun _ _ _=>.int _
theorem jru:ROk (rI CMulB fun i j=>.int (i*j)) qS:=o_I fun _ _ _=>.int _
theorem jsc:ROk (rI jjn fun i j=>.int (i/j)) J4:=o_I fun _ _ _=>.int _
theorem jsy:ROk (rI (fun _ j=>0<j) fun i j=>.int (i%j)) qK:=o_I fun _ _ _=>.int _
theorem jrQ:ROk (rI jeC fun i j=>.int (i ^ j.toNat)) jaz:=o_I fun _ _ _=>.int _
theorem jtb:ROk (rI0 fun i j=>.bl (decide (i<j))) dLt:=jjY fun _ _ _=>.bl _
theorem jsY:ROk (rI0 fun i j=>.bl (decide (i<=j))) dLe:=jjY fun _ _ _=>.bl _
theorem jtc:ROk (rI0 fun i j=>.bl (decide (j<i))) dGt:=jjY fun _ _ _=>.bl _
theorem js1:ROk (rI0 fun i j=>.bl (decide (j<=i))) dGe:=jjY fun _ _ _=>.bl _
def jO:D->D->Option D
 | .lst l,.int i=>atI l i
 | .tup l,.int i=>atI l i
 | .scr ns,.int i=>(atI ns i).map .int
 | .str z,.int i=>if z.length<=sizeLine then (atI z.cps.toList i).map fun c=>.str ⟨#[c]⟩ else none
 | _,_=>none
theorem Reps.atI {G:Hp} {vs:List V} {ds:List D} {i:Int} {d:D} (r:Reps G vs ds) (h:L2.atI ds i=some d):∃v,L2.atI vs i=some v/\Rep G v d:=by unfold L2.atI at h ⊢;rw [r.length];obtain ⟨j,h1,h2⟩:=bind_some h;obtain ⟨v,h3,h4⟩:=r.get h2;exact ⟨v,by rw [h1];exact h3,h4⟩
theorem jnc {x y d:D} (q:jO x y=some d):∃i,y=.int i/\((∃l,x=.lst l/\atI l i=some d)\/(∃l,x=.tup l/\atI l i=some d)\/(∃ns n,x=.scr ns/\atI ns i=some n/\d=.int n)\/∃z c,x=.str z/\z.length<=sizeLine/\atI z.cps.toList i=some c/\d=.str ⟨#[c]⟩):=by
 cases y with
 | int i=>
   refine ⟨i,rfl,?_⟩;cases x with
   | lst l=>exact .inl ⟨l,rfl,q⟩
   | tup l=>exact .inr (.inl ⟨l,rfl,q⟩)
   | scr ns=>obtain ⟨n,h1,h2⟩:=map_some (show (atI ns i).map D.int=some d from q);exact .inr (.inr (.inl ⟨ns,n,rfl,h1,h2.symm⟩))
   | str z=>
     have q':(if z.length<=sizeLine then (atI z.cps.toList i).map fun c=>D.str ⟨#[c]⟩ else none)=some d:=q;by_cases c:z.length<=sizeLine
     . rw [if_pos c] at q';obtain ⟨n,h1,h2⟩:=map_some q';exact .inr (.inr (.inr ⟨z,n,rfl,c,h1,h2.symm⟩))
     . rw [if_neg c] at q';exact qr q'
   | _=>exact qr q
 | _=>exact qr (show none=some d from by cases x <;> exact q)
theorem jtk:ROk (rIx Fr.K) jO:=fun G H x y dx dy d Q s rx ry q k=>by
 obtain ⟨i,rfl,z⟩:=jnc q
 (have hh:=RepT.of_int ry;subst hh)
 rcases z with ⟨l,rfl,q⟩ | ⟨l,rfl,q⟩ | ⟨ns,n,rfl,e,rfl⟩ | ⟨z,c,rfl,hz,e,rfl⟩
 . cases rx with
   | lst h r=>obtain ⟨v,h1,h2⟩:=r.atI q;exact .inl ⟨_,_,_,v,rfl,rfl,.inl h,h1,k v G H (.refl s) h2⟩
 . cases rx with
   | tup h r=>obtain ⟨v,h1,h2⟩:=r.atI q;exact .inr (.inl ⟨_,_,_,v,rfl,rfl,.inl (.inl h),h1,k v G H (.refl s) h2⟩)
 . cases rx with
   | scr h=>exact .inl ⟨_,_,_,_,rfl,rfl,h,by rw [jmW,e];rfl,k _ G H (.refl s) (.int n)⟩
 . cases rx with
   | str z=>exact .inr (.inr ⟨_,_,c,rfl,rfl,hz,e,k _ G H (.refl s) (.str _)⟩)
def jrn (fa:ef->Option D):ef->Option D:=fun ρ=>match fa ρ with
 | some (.int i)=>some (.int (-i))
 | _=>none
def qQ (fa:ef->Option D):ef->Option Bool:=fun ρ=>match fa ρ with
 | some (.bl b)=>some b
 | _=>none
theorem jdR (ha:JA ta fa) {G0 H0 G H:Hp} {σ:St} {ρ:ef} {b:Bool} {Q:VK} (e:EnvOk G0 H0 G H σ ρ) (q:qQ fa ρ=some b) (k:∀G' H',Ext G H G' H'->Q (.bl b) H'):ta σ H Q:=by
 unfold qQ at q;split at q
 . rename_i i h;cases q;refine ha G0 H0 G H σ ρ _ _ e h fun v G' H' x r=>?_
   (have hh:=RepT.of_bl r;subst hh)
   exact k G' H' x
 . cases q
def jj4 (fa:ef->Option D):ef->Option D:=fun ρ=>(qQ fa ρ).map fun b=>.bl (!b)
theorem jsA (ha:JA ta fa):EOk (joo ta) (jj4 fa):=fun G0 H0 G H σ ρ Q d e q k=>by
 unfold jj4 at q;cases h:qQ fa ρ with
 | none=>rw [h] at q;cases q
 | some b=>rw [h] at q;cases q;exact jdR ha e h fun G' H' x=>⟨_,rfl,k _ G' H' x (.bl _)⟩
def jdS (fa fb:ef->Option D):ef->Option D:=fun ρ=>match qQ fa ρ with
 | some true=>fb ρ
 | some false=>some (.bl false)
 | none=>none
def eOr (fa fb:ef->Option D):ef->Option D:=fun ρ=>match qQ fa ρ with
 | some true=>some (.bl true)
 | some false=>fb ρ
 | none=>none
theorem jrT (ha:JA ta fa) (hb:EOk tb fb):EOk (jot ta tb) (jdS fa fb):=fun G0 H0 G H σ ρ Q d e q k=>by
 unfold jdS at q;split at q
 . rename_i h;exact jdR ha e h fun G' H' x=>⟨true,rfl,by rw [if_pos rfl];exact hb _ _ _ _ _ _ _ _ (e.grow x) q fun v G2 H2 x2 r=>k v G2 H2 (x.trans x2) r⟩
 . rename_i h;cases q;exact jdR ha e h fun G' H' x=>⟨false,rfl,by rw [if_neg Yh];exact k _ G' H' x (.bl _)⟩
 . cases q
def jj5 (fa:ef->Option D):ef->Option D:=fun ρ=>(fa ρ).map fun d=>.bl (match d with | .non=>true | _=>false)
def jaF (fa:ef->Option D):ef->Option D:=fun ρ=>(fa ρ).map fun d=>.bl (match d with | .non=>false | _=>true)
theorem jrR (ha:JA ta fa):EOk (jst ta) (jj5 fa):=fun G0 H0 G H σ ρ Q d e q k=>by
 unfold jj5 at q;cases h:fa ρ with
 | none=>rw [h] at q;cases q
 | some dx=>rw [h] at q;cases q;refine ha G0 H0 G H σ ρ _ _ e h fun v G' H' x r=>?_;cases r <;> exact k _ G' H' x (by simp;exact .bl _)
theorem jqy (ha:JA ta fa):EOk (joh ta) (jaF fa):=fun G0 H0 G H σ ρ Q d e q k=>by
 unfold jaF at q;cases h:fa ρ with
 | none=>rw [h] at q;cases q
 | some dx=>rw [h] at q;cases q;refine ha G0 H0 G H σ ρ _ _ e h fun v G' H' x r=>?_;cases r <;> exact k _ G' H' x (by simp;exact .bl _)
def Qs (f f':D->D->Option D) (fa fb fc:ef->Option D):ef->Option D:=fun ρ=>(fa ρ).bind fun x=>(fb ρ).bind fun y=>(f x y).bind fun z=>match z with
 | .bl true=>(fc ρ).bind fun w=>f' y w
 | .bl false=>some (.bl false)
 | _=>none
theorem jmX (h:ROk r f) (h':ROk r' f') (ha:JA ta fa) (hb:JA tb fb) (hc:JA tc fc):EOk (jle r r' ta tb tc) (Qs f f' fa fb fc):=fun G0 H0 G H σ ρ Q d e q k=>by
 obtain ⟨x,qa,q⟩:=bind_some q;obtain ⟨y,qb,q⟩:=bind_some q;obtain ⟨z,qz,q⟩:=bind_some q;refine ha G0 H0 G H σ ρ _ x e qa fun u G1 H1 x1 r1=>?_;refine hb G0 H0 G1 H1 σ ρ _ y (e.grow x1) qb fun v G2 H2 x2 r2=>?_;refine h G2 H2 u v x y z _ x2.gh (r1.mono x2.gg x2.hh) r2 qz fun w G3 H3 x3 r3=>?_;cases r3 with
 | bl b=>
   refine ⟨b,rfl,?_⟩;cases b with
   | false=>rw [if_neg Yh];cases q;exact k _ G3 H3 ‹"aI"› (.bl _)
   | true=>rw [if_pos rfl];obtain ⟨w,qc,q⟩:=bind_some q;refine hc G0 H0 G3 H3 σ ρ _ w (e.grow ‹"aI"›) qc fun w' G4 H4 x4 r4=>?_;exact h' G4 H4 v w' y w d Q x4.gh (r2.mono (x3.trans x4).gg (x3.trans x4).hh) r4 q fun z G5 H5 x5 r5=>k z G5 H5 ((‹"aI"›.trans x4).trans x5) r5
 | _=>cases q
theorem t_B (ha:JA ta fa):TOk (tB ta) (qQ fa):=fun G0 H0 G H σ ρ Q b e q k=>jdR ha e q fun G' H' x=>⟨b,rfl,k G' H' x⟩
theorem jqQ (ha:JA ta fa):TOk (joj ta) (qQ fa):=fun G0 H0 G H σ ρ Q b e q k=>jdR ha e q fun G' H' x=>⟨b,rfl,k G' H' x⟩
variable {ca cb:TT} {ga gb:ef->Option Bool}
def ZK (ga gb:ef->Option Bool):ef->Option Bool:=fun ρ=>match ga ρ with
 | some true=>gb ρ
 | some false=>some false
 | none=>none
def bOr (ga gb:ef->Option Bool):ef->Option Bool:=fun ρ=>match ga ρ with
 | some true=>some true
 | some false=>gb ρ
 | none=>none
def jaf (ga:ef->Option Bool):ef->Option Bool:=fun ρ=>(ga ρ).map (!·)
theorem jg4 (ha:TOk ca ga) (hb:TOk cb gb):TOk (jse ca cb) (ZK ga gb):=fun G0 H0 G H σ ρ Q b e q k=>by
 unfold ZK at q;split at q
 . rename_i h;exact ha _ _ _ _ _ _ _ _ e h fun G' H' x=>by rw [if_pos rfl];exact hb _ _ _ _ _ _ _ _ (e.grow x) q fun G2 H2 x2=>k G2 H2 (x.trans x2)
 . rename_i h;cases q;exact ha _ _ _ _ _ _ _ _ e h fun G' H' x=>by rw [if_neg Yh];exact k G' H' x
 . cases q
theorem jsT (ha:TOk ca ga) (hb:TOk cb gb):TOk (tOr ca cb) (bOr ga gb):=fun G0 H0 G H σ ρ Q b e q k=>by
 unfold bOr at q;split at q
 . rename_i h;cases q;exact ha _ _ _ _ _ _ _ _ e h fun G' H' x=>by rw [if_pos rfl];exact k G' H' x
 . rename_i h;exact ha _ _ _ _ _ _ _ _ e h fun G' H' x=>by rw [if_neg Yh];exact hb _ _ _ _ _ _ _ _ (e.grow x) q fun G2 H2 x2=>k G2 H2 (x.trans x2)
 . cases q
theorem jcA (ha:TOk ca ga):TOk (jsd ca) (jaf ga):=fun G0 H0 G H σ ρ Q b e q k=>by
 unfold jaf at q;cases h:ga ρ with
 | none=>rw [h] at q;cases q
 | some c=>rw [h] at q;cases q;exact ha _ _ _ _ _ _ _ _ e h fun G' H' x=>k G' H' x
theorem jpB:TOk jou ‹"l"›:=fun G0 H0 G H σ ρ Q b e q k=>by cases q;exact k G H (.refl e.same)
def eIf (ga:ef->Option Bool) (fa fb:ef->Option D):ef->Option D:=fun ρ=>match ga ρ with
 | some true=>fa ρ
 | some false=>fb ρ
 | none=>none
theorem jtg (hc:TOk ca ga) (ha:EOk ta fa) (hb:EOk tb fb):EOk (tIf ca ta tb) (eIf ga fa fb):=fun G0 H0 G H σ ρ Q d e q k=>by
 unfold eIf at q;split at q
 . rename_i h;exact hc _ _ _ _ _ _ _ _ e h fun G' H' x=>by rw [if_pos rfl];exact ha _ _ _ _ _ _ _ _ (e.grow x) q fun v G2 H2 x2 r=>k v G2 H2 (x.trans x2) r
 . rename_i h;exact hc _ _ _ _ _ _ _ _ e h fun G' H' x=>by rw [if_neg Yh];exact hb _ _ _ _ _ _ _ _ (e.grow x) q fun v G2 H2 x2 r=>k v G2 H2 (x.trans x2) r
 . cases q
end
section
variable {ta tb tc:TE} {fa fb fc:ef->Option D} {As:TA} {fs:ef->Option (List D)}
def jk:ef->Option (List D):=fun _=>some []
def jb (fa:ef->Option D) (fs:ef->Option (List D)):ef->Option (List D):=fun ρ=>(fa ρ).bind fun d=>(fs ρ).map (d::·)
theorem jdA {ρ:ef} {ds:List D} (h:jb fa fs ρ=some ds):∃d es,fa ρ=some d/\fs ρ=some es/\ds=d::es:=by
 obtain ⟨d,h1,h2⟩:=bind_some h;cases z:fs ρ with
 | none=>rw [z] at h2;cases h2
 | some es=>rw [z] at h2;cases h2;exact ⟨d,es,h1,rfl,rfl⟩
theorem a_nil:AOk jks jk:=fun G0 H0 G H σ ρ Q d e q k=>by cases q;exact k [] G H (.refl e.same) .nil
theorem jlu (ha:EOk ta fa) (hs:AOk As fs):AOk (jdf ta As) (jb fa fs):=fun G0 H0 G H σ ρ Q ds e q k=>by obtain ⟨d,es,q1,q2,rfl⟩:=jdA q;refine ha _ _ _ _ _ _ _ _ e q1 fun v G1 H1 x1 r1=>hs _ _ _ _ _ _ _ _ (e.grow x1) q2 fun vs G2 H2 x2 r2=>?_;exact k _ G2 H2 (x1.trans x2) (.cons (r1.mono x2.gg) r2)
theorem jp7:jcb jks jk:=a_nil.t
theorem jm9 (ha:JA ta fa) (hs:jcb As fs):jcb (jdf ta As) (jb fa fs):=fun G0 H0 G H σ ρ Q ds e q k=>by obtain ⟨d,es,q1,q2,rfl⟩:=jdA q;refine ha _ _ _ _ _ _ _ _ e q1 fun v G1 H1 x1 r1=>hs _ _ _ _ _ _ _ _ (e.grow x1) q2 fun vs G2 H2 x2 r2=>?_;exact k _ G2 H2 (x1.trans x2) (.cons (r1.mono x2.gg x2.hh) r2)
def Jm (n:Nat):Bool:=decide (n<sizeLine)
def ZJ (fs:ef->Option (List D)):ef->Option D:=fun ρ=>(fs ρ).bind fun ds=>if Jm ds.length then some (.tup ds) else none
def zx (fs:ef->Option (List D)):ef->Option (List D):=fun ρ=>(fs ρ).bind fun ds=>if Jm ds.length then some ds else none
theorem jgY {n:Nat} (h:Jm n=true):n<=sizeLine:=yM (yO h)
theorem Z9 {n:Nat} (h:Jm n=true):n<sizeLine:=yO h
theorem jrC (h:AOk As fs):EOk (jrt As) (ZJ fs):=fun G0 H0 G H σ ρ Q d e q k=>by
 obtain ⟨ds,q1,q2⟩:=bind_some q;split at q2
 . rename_i hz;cases q2;refine h _ _ _ _ _ _ _ _ e q1 fun vs G1 H1 x1 r1=>⟨by rw [r1.length];exact jgY hz,fun p hp=>?_⟩;have hg:G1 p=none:=x1.gh.free hp;have x2:Ext G1 H1 (upd G1 p (.tup vs)) (upd H1 p (.tup vs)):=(Ext.new x1.gh hp).freeze hp hg jE;exact k _ _ _ (x1.trans x2) (.tup jE (r1.mono x2.gg))
 . cases q2
theorem jr2 (h:AOk As fs):EOkO (jr7 As) (zx fs):=fun G0 H0 G H σ ρ Q d e q k=>by
 obtain ⟨ds,q1,q2⟩:=bind_some q;split at q2
 . rename_i hz;cases q2;refine h _ _ _ _ _ _ _ _ e q1 fun vs G1 H1 x1 r1=>⟨by rw [r1.length];exact jgY hz,fun p hp=>?_⟩;exact k p vs G1 _ (x1.trans (.new x1.gh hp)) (x1.hh.free hp) (x1.gh.free hp) jE r1
 . cases q2
def jey (r:List V->Hp->VK->Prop) (f:List D->Option D):Prop:=∀G H xs ds d (Q:VK),Same G H->RepTs G H xs ds->f ds=some d->(∀v G' H',Ext G H G' H'->Rep G' v d->Q v H')->r xs H Q
def jgZ (r:List V->Hp->VK->Prop) (f:List D->Option (List D)):Prop:=∀G H xs ds es (Q:VK),Same G H->RepTs G H xs ds->f ds=some es->
 (∀a vs G' H',Ext G H G' H'->H a=none->G' a=none->H' a=some (.lst vs)->Reps G' vs es->Q (.ref a) H')->r xs H Q
def jg {β:Type} (f:List D->Option β) (fs:ef->Option (List D)):ef->Option β:=fun ρ=>(fs ρ).bind f
theorem js7 {r:List V->Hp->VK->Prop} {f:List D->Option D} (h:jey r f) (ha:jcb As fs):EOk (tCB r As) (jg f fs):=fun G0 H0 G H σ ρ Q d e q k=>by obtain ⟨ds,q1,q2⟩:=bind_some q;exact ha _ _ _ _ _ _ _ _ e q1 fun vs G1 H1 x1 r1=>h G1 H1 vs ds d Q x1.gh r1 q2 fun v G2 H2 x2 r2=>k v G2 H2 (x1.trans x2) r2
theorem joO {r:List V->Hp->VK->Prop} {f:List D->Option (List D)} (h:jgZ r f) (ha:jcb As fs):EOkO (tCB r As) (jg f fs):=fun G0 H0 G H σ ρ Q d e q k=>by obtain ⟨ds,q1,q2⟩:=bind_some q;exact ha _ _ _ _ _ _ _ _ e q1 fun vs G1 H1 x1 r1=>h G1 H1 vs ds d Q x1.gh r1 q2 fun a us G2 H2 x2 hn hg hh r2=>k a us G2 H2 (x1.trans x2) (x1.hh.free hn) hg hh r2
def spS (f:List D->Option D):Sp:=fun vs H Q _=>∃G ds d,Same G H/\Reps G vs ds/\f ds=some d/\∀v G' H',Ext G H G' H'->Rep G' v d->Q v H'
def spO (f:List D->Option (List D)):Sp:=fun vs H Q _=>∃G ds es,Same G H/\Reps G vs ds/\f ds=some es/\∀a us G' H',Ext G H G' H'->H a=none->G' a=none->H' a=some (.lst us)->Reps G' us es->Q (.ref a) H'
theorem jpu {f:List D->Option D} {E:XK} (ha:AOk As fs):EOk (jlL (spS f) [] E As) (jg f fs):=fun G0 H0 G H σ ρ Q d e q k=>by obtain ⟨ds,q1,q2⟩:=bind_some q;exact ha _ _ _ _ _ _ _ _ e q1 fun vs G1 H1 x1 r1=>⟨G1,ds,d,x1.gh,by rw [yH];exact r1,q2,fun v G2 H2 x2 r2=>k v G2 H2 (x1.trans x2) r2⟩
theorem jn3 {f:List D->Option (List D)} {E:XK} (ha:AOk As fs):EOkO (jlL (spO f) [] E As) (jg f fs):=fun G0 H0 G H σ ρ Q d e q k=>by obtain ⟨ds,q1,q2⟩:=bind_some q;exact ha _ _ _ _ _ _ _ _ e q1 fun vs G1 H1 x1 r1=>⟨G1,ds,d,x1.gh,by rw [yH];exact r1,q2,fun a us G2 H2 x2 hn hg hh r2=>k a us G2 H2 (x1.trans x2) (x1.hh.free hn) hg hh r2⟩
end
inductive Res where
 | next (ρ:ef) | ret (d:D) | retO (ds:List D) | brk (ρ:ef) | cnt (ρ:ef) | fail
def ResOk (G0 H0 Gc:Hp) (r:Res) (E:Ends):Prop:=match r with
 | .next ρ=>∀G H σ,Same Gc G->EnvOk G0 H0 G H σ ρ->E.nx σ H
 | .brk ρ=>∀G H σ,Same Gc G->EnvOk G0 H0 G H σ ρ->E.bk σ H
 | .cnt ρ=>∀G H σ,Same Gc G->EnvOk G0 H0 G H σ ρ->E.ct σ H
 | .ret d=>∀G H v,Ext G0 H0 G H->Rep G v d->E.rt v H
 | .retO ds=>∀G H a vs,Ext G0 H0 G H->H0 a=none->G a=none->H a=some (.lst vs)->Reps G vs ds->E.rt (.ref a) H
 | .fail=>False
theorem ResOk.mono {G0 H0 G G':Hp} {r:Res} {E:Ends} (s:Same G G') (h:ResOk G0 H0 G r E):ResOk G0 H0 G' r E:=by
 cases r with
 | next ρ=>exact fun G2 H2 σ s2 e=>h G2 H2 σ (s.trans s2) e
 | brk ρ=>exact fun G2 H2 σ s2 e=>h G2 H2 σ (s.trans s2) e
 | cnt ρ=>exact fun G2 H2 σ s2 e=>h G2 H2 σ (s.trans s2) e
 | ret d=>exact h
 | retO d=>exact h
 | fail=>exact h
abbrev FS:=ef->Res
def SOk (t:TS) (F:FS):Prop:=∀G0 H0 G H σ ρ E,EnvOk G0 H0 G H σ ρ->ResOk G0 H0 G (F ρ) E->t E σ H
section
variable {t u:TS} {F F':FS} {te:TE} {fe:ef->Option D} {fo:ef->Option (List D)} {tc:TT} {fc:ef->Option Bool}
def qi:FS:=.next
theorem jo7:SOk jor qi:=fun G0 H0 G H σ ρ E e h=>h G H σ (.refl _) e
def jA (F F':FS):FS:=fun ρ=>match F ρ with
 | .next ρ'=>F' ρ'
 | r=>r
theorem jrp (h:SOk t F) (h':SOk u F'):SOk (jrW t u) (jA F F'):=fun G0 H0 G H σ ρ E e q=>by
 refine h G0 H0 G H σ ρ _ e ?_;unfold jA at q;cases z:F ρ with
 | next ρ'=>rw [z] at q;exact fun G' H' σ' s' e'=>h' G0 H0 G' H' σ' ρ' E e' (q.mono s')
 | ret d=>rw [z] at q;exact q
 | retO d=>rw [z] at q;exact q
 | brk d=>rw [z] at q;exact q
 | cnt d=>rw [z] at q;exact q
 | fail=>rw [z] at q;exact q
def Q8 (fe:ef->Option D):FS:=fun ρ=>match fe ρ with
 | some _=>.next ρ
 | none=>.fail
theorem jql (h:JA te fe):SOk (jl3 te) (Q8 fe):=fun G0 H0 G H σ ρ E e q=>by
 unfold Q8 at q;split at q
 . rename_i d z;exact h _ _ _ _ _ _ _ _ e z fun v G' H' x r=>q G' H' σ x.gg (e.grow x)
 . exact q.elim
def qv (fe:ef->Option D):FS:=fun ρ=>match fe ρ with
 | some d=>.ret d
 | none=>.fail
theorem jrA (h:EOk te fe):SOk (jnb te) (qv fe):=fun G0 H0 G H σ ρ E e q=>by
 unfold qv at q;split at q
 . rename_i d z;exact h _ _ _ _ _ _ _ _ e z fun v G' H' x r=>q G' H' v (e.ext.trans x) r
 . exact q.elim
def zG (fo:ef->Option (List D)):FS:=fun ρ=>match fo ρ with
 | some d=>.retO d
 | none=>.fail
theorem jpb (h:EOkO te fo):SOk (jnb te) (zG fo):=fun G0 H0 G H σ ρ E e q=>by
 unfold zG at q;split at q
 . rename_i d z;exact h _ _ _ _ _ _ _ _ e z fun a vs G' H' x hn hg hh r=>q G' H' a vs (e.ext.trans x) (e.ext.hh.free hn) hg hh r
 . exact q.elim
def jcq (i:Nat):FS:=fun ρ=>match ρ[i]? with
 | some (.ow ds)=>.retO ds
 | _=>.fail
theorem jqu (i:Nat):SOk (jnb (jfT i)) (jcq i):=fun G0 H0 G H σ ρ E e q=>by
 unfold jcq at q;split at q
 . rename_i ds z;obtain ⟨a,vs,h1,h2,h3,h4,h5⟩:=e.ow z;exact ⟨_,h1,q G H a vs e.ext h2 h3 h4 h5⟩
 . exact q.elim
def Qh (fc:ef->Option Bool) (F F':FS):FS:=fun ρ=>match fc ρ with
 | some true=>F ρ
 | some false=>F' ρ
 | none=>.fail
theorem jsX (hc:TOk tc fc) (h:SOk t F) (h':SOk u F'):SOk (jr5 tc t u) (Qh fc F F'):=fun G0 H0 G H σ ρ E e q=>by
 unfold Qh at q;split at q
 . rename_i z;exact hc _ _ _ _ _ _ _ _ e z fun G' H' x=>by rw [if_pos rfl];exact h _ _ _ _ _ _ _ (e.grow x) (q.mono x.gg)
 . rename_i z;exact hc _ _ _ _ _ _ _ _ e z fun G' H' x=>by rw [if_neg Yh];exact h' _ _ _ _ _ _ _ (e.grow x) (q.mono x.gg)
 . exact q.elim
def jG (i:Nat) (fe:ef->Option D):FS:=fun ρ=>match fe ρ with
 | some d=>.next (ρ.set i (.sh d))
 | none=>.fail
theorem jol (i:Nat) (h:EOk te fe):SOk (jeB te (jaG i)) (jG i fe):=fun G0 H0 G H σ ρ E e q=>by
 unfold jG at q;split at q
 . rename_i d z;exact h _ _ _ _ _ _ _ _ e z fun v G' H' x r=>q G' H' _ x.gg ((e.grow x).set r)
 . exact q.elim
def Jx (i:Nat) (fo:ef->Option (List D)):FS:=fun ρ=>match fo ρ with
 | some d=>.next (ρ.set i (.ow d))
 | none=>.fail
theorem jqm (i:Nat) (h:EOkO te fo):SOk (jeB te (jaG i)) (Jx i fo):=fun G0 H0 G H σ ρ E e q=>by
 unfold Jx at q;split at q
 . rename_i d z;exact h _ _ _ _ _ _ _ _ e z fun a vs G' H' x hn hg hh r=>q G' H' _ x.gg (e.setO x hn hg hh r)
 . exact q.elim
def jbW (i:Nat) (F:FS):FS:=fun ρ=>F (frz i ρ)
theorem Ext.back {G G' H:Hp} (sg:Same G G') (gh:Same G' H):∀G2 H2,Ext G' H G2 H2->∃G3,Ext G H G3 H2/\∀v d,Jf d=true->Rep G2 v d->Rep G3 v d:=fun G2 H2 x=>by
 refine ⟨fun b=>match G b,G' b with | none,some _=>none | _,_=>G2 b,⟨x.hh,fun b o q=>?_,fun b o q=>?_,fun b o q=>?_⟩,fun v d f r=>r.flat f⟩
 . show (match G b,G' b with | none,some _=>none | _,_=>G2 b)=some o;rw [q,sg b o q];exact x.gg b o (sg b o q)
 . have q':(match G b,G' b with | none,some _=>none | _,_=>G2 b)=some o:=q;split at q'
   . cases q'
   . exact x.gh b o q'
 . have q':(match G b,G' b with | none,some _=>none | _,_=>G2 b)=some o:=q;cases g:G b with
   | some u=>rw [g,sg b u g] at q';have:G2 b=some u:=x.gg b u (sg b u g);rw [this] at q';exact .inl q'
   | none=>
     cases g':G' b with
     | some u=>rw [g,g'] at q';cases q'
     | none=>
       rw [g,g'] at q';rcases x.nw b o q' with w | w
       . rw [g'] at w;cases w
       . exact .inr w
theorem EnvOk.frz {G0 H0 G H:Hp} {σ:St} {ρ:ef} (i:Nat) (e:EnvOk G0 H0 G H σ ρ):∃G',EnvOk G0 H0 G' H σ (L2.frz i ρ)/\Same G G'/\∀G2 H2,Ext G' H G2 H2->∃G3,Ext G H G3 H2/\∀v d,Jf d=true->Rep G2 v d->Rep G3 v d:=by
 have fin:∀(ρ':ef) G',EnvOk G0 H0 G' H σ ρ'->Same G G'->∃G',EnvOk G0 H0 G' H σ ρ'/\Same G G'/\∀G2 H2,Ext G' H G2 H2->∃G3,Ext G H G3 H2/\∀v d,Jf d=true->Rep G2 v d->Rep G3 v d:=fun ρ' G' e' s=>⟨G',e',s,Ext.back s e'.same⟩;unfold L2.frz;split
 . rename_i ds z;obtain ⟨a,vs,h1,h2,h3,h4,h5⟩:=e.ow z;exact fin _ _ (e.freeze z h1 h4 h5) (.upd h3)
 . rename_i dss z;obtain ⟨a,bs,h1,h2,h3,h4,h5⟩:=e.oo z;obtain ⟨e1,rr⟩:=e.half z h1 h2 h3 h4 h5;have hi:i<ρ.length:=(Yo.mp z).1;have e2:=e1.freeze (i:=i) (by rw [Y4 hi]) h1 h2 rr;rw [List.set_set] at e2;have nd':=yu.mp h3;exact fin _ _ e2 ((jeL e.same).1.trans (.upd (by rw [jae nd'.1];exact (h4 a Yf).2)))
 . exact fin _ _ e (.refl _)
theorem jry (i:Nat) (h:SOk t F):SOk t (jbW i F):=fun G0 H0 G H σ ρ E e q=>by obtain ⟨G',e',sg,_⟩:=e.frz i;exact h G0 H0 G' H σ _ E e' (q.mono sg)
def jsz (i:Nat) (fe:ef->Option D):ef->Option D:=fun ρ=>match fe (frz i ρ) with
 | some d=>if Jf d then some d else none
 | none=>none
def jrf (i:Nat) (fc:ef->Option Bool):ef->Option Bool:=fun ρ=>fc (frz i ρ)
variable {ta:TE} {fa:ef->Option D}
def JK (i:Nat) (fa:ef->Option D):FS:=fun ρ=>match ρ[i]?,fa ρ with
 | some (.ow ds),some d=>if Jm ds.length then .next (ρ.set i (.ow (ds++[d]))) else .fail
 | _,_=>.fail
theorem jri (i:Nat) (h:EOk ta fa):SOk (jl3 (tBM Fr.K "list" jfx (jfT i) (jdf ta jks))) (JK i fa):=fun G0 H0 G H σ ρ E e q=>by
 unfold JK at q;split at q
 . rename_i ds d z1 z2;split at q
   . rename_i hz;obtain ⟨a,vs,h1,h2,h3,h4,h5⟩:=e.ow z1;refine ⟨_,h1,.inl ⟨rfl,vs,.inl (.inl h4)⟩,h _ _ _ _ _ _ _ _ e z2 fun v G' H' x r=>?_⟩;have e':=e.grow x;exact ⟨a,vs,v,rfl,rfl,x.hh _ _ h4,by rw [h5.length];exact Z9 hz,q G' _ σ x.gg (e'.put z1 h1 ((h5.mono x.gg).snoc r))⟩
   . exact q.elim
 . exact q.elim
def jmu (i:Nat):FS:=fun ρ=>match ρ[i]? with
 | some (.ow _)=>.next (ρ.set i (.ow []))
 | _=>.fail
def jrz (i:Nat) (fa fb:ef->Option D):FS:=fun ρ=>match ρ[i]?,fa ρ,fb ρ with
 | some (.ow ds),some (.int k),some d=>if 0<=k/\k<=ds.length/\Jm ds.length then .next (ρ.set i (.ow (ds.take k.toNat++d::ds.drop k.toNat))) else .fail
 | _,_,_=>.fail
def jfD (i:Nat) (fk fa:ef->Option D):FS:=fun ρ=>match ρ[i]?,fa ρ,fk ρ with
 | some (.ow ds),some d,some (.int k)=>match ixN ds.length k with
   | some j=>.next (ρ.set i (.ow (ds.set j d)))
   | none=>.fail
 | _,_,_=>.fail
theorem jrh {tk:TE} {fk:ef->Option D} (i:Nat) (hk:EOk tk fk) (h:EOk ta fa):SOk (jeB ta (jsF (jfT i) tk jmz)) (jfD i fk fa):=fun G0 H0 G H σ ρ E e q=>by
 unfold jfD at q;split at q
 . rename_i ds d k z1 z2 z3;split at q
   . rename_i j hj;obtain ⟨a,vs,h1,h2,h3,h4,h5⟩:=e.ow z1;refine h _ _ _ _ _ _ _ _ e z2 fun v G' H' x r=>⟨_,h1,hk _ _ _ _ _ _ _ _ (e.grow x) z3 fun w G2 H2 x2 r2=>?_⟩
     (have hh:=Rep.of_int r2;subst hh)
     have e':=(e.grow x).grow x2;exact ⟨a,vs,k,j,rfl,rfl,(x.trans x2).hh _ _ h4,by rw [h5.length];exact hj,q G2 _ σ (x.trans x2).gg (e'.put z1 h1 ((h5.mono (x.trans x2).gg).set (r.mono x2.gg) j))⟩
   . exact q.elim
 . exact q.elim
end
def GOk (g:TG) (m:D->ef->Option ef):Prop:=∀G0 H0 G H σ ρ v d ρ' (Q:St->Hp->Prop),EnvOk G0 H0 G H σ ρ->Rep G v d->m d ρ=some ρ'->(∀σ',EnvOk G0 H0 G H σ' ρ'->Q σ' H)->g v σ H Q
def jj1 (g:TGs) (m:List D->ef->Option ef):Prop:=∀G0 H0 G H σ ρ vs ds ρ' (Q:St->Hp->Prop),EnvOk G0 H0 G H σ ρ->Reps G vs ds->m ds ρ=some ρ'->(∀σ',EnvOk G0 H0 G H σ' ρ'->Q σ' H)->g vs σ H Q
def jz (i:Nat):D->ef->Option ef:=fun d ρ=>some (ρ.set i (.sh d))
def JJ:List D->ef->Option ef
 | [],ρ=>some ρ
 | _,_=>none
def jR (m:D->ef->Option ef) (ms:List D->ef->Option ef):List D->ef->Option ef
 | d::ds,ρ=>(m d ρ).bind fun ρ'=>ms ds ρ'
 | [],_=>none
def Jz (n:Nat) (ms:List D->ef->Option ef):D->ef->Option ef
 | .tup ds,ρ=>if ds.length=n then ms ds ρ else none
 | _,_=>none
theorem jhG (i:Nat):GOk (jaG i) (jz i):=fun G0 H0 G H σ ρ v d ρ' Q e r q k=>by cases q;exact k _ (e.set r)
theorem joL:jj1 jqW JJ:=fun G0 H0 G H σ ρ vs ds ρ' Q e r q k=>by
 cases r with
 | nil=>cases q;exact ⟨rfl,k _ e⟩
 | cons _ _=>cases q
theorem jmk {g:TG} {gs:TGs} {m:D->ef->Option ef} {ms:List D->ef->Option ef} (h:GOk g m) (hs:jj1 gs ms):jj1 (joZ g gs) (jR m ms):=fun G0 H0 G H σ ρ vs ds ρ' Q e r q k=>by
 cases r with
 | nil=>cases q
 | cons r t=>obtain ⟨ρ1,q1,q2⟩:=bind_some q;exact ⟨_,_,rfl,h _ _ _ _ _ _ _ _ _ _ e r q1 fun σ' e'=>hs _ _ _ _ _ _ _ _ _ _ e' t q2 k⟩
theorem joc {n:Nat} {gs:TGs} {ms:List D->ef->Option ef} (hs:jj1 gs ms):GOk (jnY Fr.K n gs) (Jz n ms):=fun G0 H0 G H σ ρ v d ρ' Q e r q k=>by
 cases r with
 | tup h r=>
   simp only [Jz] at q;split at q
   . rename_i hl;exact ⟨_,_,rfl,.inl (.inl (e.same _ _ h)),by rw [r.length];exact hl,hs _ _ _ _ _ _ _ _ _ _ e r q k⟩
   . cases q
 | _=>cases q
def jg3 (m:D->ef->Option ef) (fe:ef->Option D):FS:=fun ρ=>match (fe ρ).bind fun d=>m d ρ with
 | some ρ'=>.next ρ'
 | none=>.fail
theorem jsC {g:TG} {m:D->ef->Option ef} {te:TE} {fe:ef->Option D} (hg:GOk g m) (h:EOk te fe):SOk (jeB te g) (jg3 m fe):=fun G0 H0 G H σ ρ E e q=>by
 unfold jg3 at q;split at q
 . rename_i ρ' z;obtain ⟨d,z1,z2⟩:=bind_some z;exact h _ _ _ _ _ _ _ _ e z1 fun v G' H' x r=>hg _ _ _ _ _ _ _ _ _ _ (e.grow x) r z2 fun σ' e'=>q G' H' σ' x.gg e'
 . exact q.elim
def Iter (G1 H1:Hp) (J:It) (ds:List D):Prop:=∀(i:Nat) G H,Same G1 G->Same H1 H->Same G H->
 (∀d,ds[i]?=some d->J.go i H/\∀x H',J.yld i H x H'->∃G',Ext G H G' H'/\Rep G' x d)/\(ds[i]?=none->J.stop i H)
def jkj (wi:TI) (f:ef->Option (List D)):Prop:=∀G0 H0 G H σ ρ (R:It->Hp->Prop) ds,EnvOk G0 H0 G H σ ρ->f ρ=some ds->(∀J G' H',Ext G H G' H'->Iter G' H' J ds->R J H')->wi σ H R
def IOk (wi:TI) (f:ef->Option (List D)):Prop:=∀G0 H0 G H σ ρ (R:It->Hp->Prop) ds,EnvOk G0 H0 G H σ ρ->f ρ=some ds->(∀J G' H',Ext G H G' H'->Iter G' G' J ds->R J H')->wi σ H R
theorem Iter.weak {G H:Hp} {J:It} {ds:List D} (h:Iter G G J ds):Iter G H J ds:=fun i G' H' a b c=>h i G' H' a (a.trans c) c
theorem IOk.t {wi:TI} {f:ef->Option (List D)} (h:IOk wi f):jkj wi f:=fun G0 H0 G H σ ρ R ds e q k=>h _ _ _ _ _ _ _ _ e q fun J G' H' x j=>k J G' H' x j.weak
section
variable {te:TE} {fe:ef->Option D} {ta:TA} {fa:ef->Option (List D)}
def j3 (fe:ef->Option D):ef->Option (List D):=fun ρ=>match fe ρ with
 | some (.lst l)=>some l
 | _=>none
def jcF (fe:ef->Option D):ef->Option (List D):=fun ρ=>match fe ρ with
 | some (.tup l)=>some l
 | _=>none
end
end
end L2
namespace L2
open PySem PySem.Spec PyProof.Rows
section
variable [Fr]
section
variable {te:TE} {fe:ef->Option D} {ta:TA} {fa:ef->Option (List D)}
theorem Reps.none_of {G:Hp} {vs:List V} {ds:List D} {i:Nat} (r:Reps G vs ds) (h:ds[i]?=none):vs.length<=i:=by rw [r.length];exact YY.mp h
theorem jeJ {G1 H1:Hp} {a:Addr} {vs:List V} {ds:List D} (h:Rd H1 a (.lst vs)) (r:Reps G1 vs ds):Iter G1 H1 (Itl Fr.K a) ds:=fun i G H s1 s2 s3=>by have hq:J6 Fr.K H a vs:=.inl (h.same s2);refine ⟨fun d hd=>?_,fun hd=>⟨vs,hq,r.none_of hd⟩⟩;obtain ⟨v,h1,h2⟩:=r.get hd;refine ⟨⟨vs,v,hq,h1⟩,fun x H' y=>?_⟩;obtain ⟨e,y⟩:=y;subst e;have z:=y vs hq;rw [h1] at z;cases z;exact ⟨G,.refl s3,h2.mono s1⟩
theorem jlZ {G1 H1:Hp} {a:Addr} {vs:List V} {ds:List D} (h:H1 a=some (.tup vs)) (r:Reps G1 vs ds):Iter G1 H1 (Itt Fr.K a) ds:=fun i G H s1 s2 s3=>by have hq:SqT Fr.K H a vs:=.inl (.inl (s2 _ _ h));refine ⟨fun d hd=>?_,fun hd=>⟨vs,hq,r.none_of hd⟩⟩;obtain ⟨v,h1,h2⟩:=r.get hd;refine ⟨⟨vs,v,hq,h1⟩,fun x H' y=>?_⟩;obtain ⟨e,y⟩:=y;subst e;have z:=y vs hq;rw [h1] at z;cases z;exact ⟨G,.refl s3,h2.mono s1⟩
def rng (lo:Int) (n:Nat):List D:=(List.range n).map fun (i:Nat)=>D.int (lo+(i:Int))
theorem jlX {G1 H1:Hp} {lo:Int} {n:Nat}:Iter G1 H1 (Itr lo n) (rng lo n):=fun i G H s1 s2 s3=>by
 refine ⟨fun d hd=>?_,fun hd=>?_⟩
 . unfold rng at hd;rw [List.getElem?_map] at hd;cases e:(List.range n)[i]? with
   | none=>rw [e] at hd;cases hd
   | some j=>rw [e] at hd;cases hd;obtain ⟨hi,hj⟩:=Yo.mp e;simp at hi hj;subst hj;refine ⟨hi,fun x H' y=>?_⟩;obtain ⟨e1,e2⟩:=y;subst e1 e2;exact ⟨G,.refl s3,.int _⟩
 . have:=YY.mp hd;simp [rng] at this;exact this
theorem Ext.newT {G H:Hp} {t:Addr} {o:HO} (s:Same G H) (hn:H t=none):Ext G H (upd G t o) (upd H t o):=(Ext.new s hn).freeze hn (s.free hn) jE
def ja1 (l m:List D):List D:=(l.zip m).map fun p=>.tup [p.1,p.2]
theorem jkQ {G1 H1:Hp} {a b:Addr} {vs us:List V} {ds es:List D} (h:Rd H1 a (.lst vs)) (h':Rd H1 b (.lst us)) (r:Reps G1 vs ds) (r':Reps G1 us es):Iter G1 H1 (Itz Fr.K a b) (ja1 ds es):=fun i G H s1 s2 s3=>by
 have hq:J6 Fr.K H a vs:=.inl (h.same s2);have hq':J6 Fr.K H b us:=.inl (h'.same s2);refine ⟨fun d hd=>?_,fun hd=>⟨vs,us,hq,hq',?_⟩⟩
 . unfold ja1 at hd;rw [List.getElem?_map] at hd;cases e:(ds.zip es)[i]? with
   | none=>rw [e] at hd;cases hd
   | some p=>rw [e] at hd;cases hd;obtain ⟨g1,g2⟩:=YT.mp e;obtain ⟨v,h1,h2⟩:=r.get g1;obtain ⟨u,h3,h4⟩:=r'.get g2;refine ⟨⟨vs,us,v,u,hq,hq',h1,h3⟩,fun x H' y=>?_⟩;obtain ⟨t,x',y',hn,e1,e2,y1,y2⟩:=y;subst e1 e2;have z1:=y1 vs hq;have z2:=y2 us hq';rw [h1] at z1;rw [h3] at z2;cases z1;cases z2;have x:=Ext.newT (o:=.tup [v,u]) s3 hn;exact ⟨_,x,.tup jE (.cons (h2.mono (s1.trans x.gg)) (.cons (h4.mono (s1.trans x.gg)) .nil))⟩
 . have:=YY.mp hd;simp [ja1] at this;rw [r.length,r'.length];omega
def jaH (l:List D):List D:=(l.zipIdx).map fun p=>.tup [.int p.2,p.1]
theorem jka {G1 H1:Hp} {a:Addr} {vs:List V} {ds:List D} (h:Rd H1 a (.lst vs)) (r:Reps G1 vs ds):Iter G1 H1 (Ite Fr.K a) (jaH ds):=fun i G H s1 s2 s3=>by
 have hq:J6 Fr.K H a vs:=.inl (h.same s2);refine ⟨fun d hd=>?_,fun hd=>⟨vs,hq,?_⟩⟩
 . unfold jaH at hd;rw [List.getElem?_map,List.getElem?_zipIdx] at hd;cases e:ds[i]? with
   | none=>rw [e] at hd;cases hd
   | some p=>rw [e] at hd;cases hd;obtain ⟨v,h1,h2⟩:=r.get e;refine ⟨⟨vs,v,hq,h1⟩,fun x H' y=>?_⟩;obtain ⟨t,x',hn,e1,e2,y1⟩:=y;subst e1 e2;have z1:=y1 vs hq;rw [h1] at z1;cases z1;have x:=Ext.newT (o:=.tup [.int i,v]) s3 hn;refine ⟨_,x,.tup jE (.cons ?_ (.cons (h2.mono (s1.trans x.gg)) .nil))⟩;simp;exact .int _
 . have:=YY.mp hd;simp [jaH] at this;rw [r.length];omega
theorem jda {ρ:ef} {ds:List D} (h:j3 fe ρ=some ds):fe ρ=some (.lst ds):=by unfold j3 at h;split at h <;> first | (cases h;assumption) | cases h
theorem jhU {ρ:ef} {ds:List D} (h:jcF fe ρ=some ds):fe ρ=some (.tup ds):=by unfold jcF at h;split at h <;> first | (cases h;assumption) | cases h
theorem jpC (h:EOk te fe):IOk (jgr Fr.K te) (j3 fe):=fun G0 H0 G H σ ρ R ds e q k=>by refine h _ _ _ _ _ _ _ _ e (jda q) fun v G' H' x r=>?_;obtain ⟨_,_,rfl,h,r⟩:=r.of_lst;exact ⟨_,rfl,⟨_,.inl (h.same x.gh)⟩,k _ G' H' x (jeJ h r)⟩
theorem jnu (h:JA te fe):jkj (jgr Fr.K te) (j3 fe):=fun G0 H0 G H σ ρ R ds e q k=>by refine h _ _ _ _ _ _ _ _ e (jda q) fun v G' H' x r=>?_;obtain ⟨_,_,rfl,h,r⟩:=r.of_lst;exact ⟨_,rfl,⟨_,.inl h⟩,k _ G' H' x (jeJ h r)⟩
theorem jsn (h:EOk te fe):IOk (jqi Fr.K te) (jcF fe):=fun G0 H0 G H σ ρ R ds e q k=>by refine h _ _ _ _ _ _ _ _ e (jhU q) fun v G' H' x r=>?_;obtain ⟨_,_,rfl,h,r⟩:=r.of_tup;exact ⟨_,rfl,⟨_,.inl (.inl (x.gh _ _ h))⟩,k _ G' H' x (jlZ h r)⟩
def JV (fa:ef->Option (List D)):ef->Option (List D):=fun ρ=>match fa ρ with
 | some [.int j]=>if -(2 ^ 62)<=j/\j<2 ^ 62 then some (rng 0 j.toNat) else none
 | _=>none
theorem jqZ (h:jcb ta fa):IOk (jov ta) (JV fa):=fun G0 H0 G H σ ρ R ds e q k=>by
 unfold JV at q;split at q
 . rename_i j z;split at q
   . rename_i hb;cases q;refine h _ _ _ _ _ _ _ _ e z fun vs G' H' x r=>?_;cases r with
     | cons r t=>(have hh:=RepT.of_int r;subst hh);cases t;exact ⟨j,rfl,hb.1,hb.2,k _ G' H' x jlX⟩
   . cases q
 . cases q
def Jt (fa:ef->Option (List D)):ef->Option (List D):=fun ρ=>match fa ρ with
 | some [.lst l,.lst m]=>some (ja1 l m)
 | _=>none
theorem jqh (h:jcb ta fa):jkj (jpS Fr.K ta) (Jt fa):=fun G0 H0 G H σ ρ R ds e q k=>by
 unfold Jt at q;split at q
 . rename_i l m z;cases q;refine h _ _ _ _ _ _ _ _ e z fun vs G' H' x r=>?_;cases r with
   | cons r t=>cases t with | cons r' t=>cases t;cases r with | lst h1 r1=>cases r' with | lst h2 r2=>exact ⟨_,_,_,_,rfl,.inl h1,.inl h2,k _ G' H' x (jkQ h1 h2 r1 r2)⟩
 . cases q
def ZZ (fa:ef->Option (List D)):ef->Option (List D):=fun ρ=>match fa ρ with
 | some [.lst l]=>some (jaH l)
 | _=>none
theorem jpW (h:AOk ta fa):IOk (jlh Fr.K ta) (ZZ fa):=fun G0 H0 G H σ ρ R ds e q k=>by
 unfold ZZ at q;split at q
 . rename_i l z;cases q;refine h _ _ _ _ _ _ _ _ e z fun vs G' H' x r=>?_;cases r with
   | cons r t=>cases t;cases r with | lst h1 r1=>exact ⟨_,_,rfl,.inl (h1.same x.gh),k _ G' H' x (jka h1 r1)⟩
 . cases q
end
def Q4 (m:D->ef->Option ef) (B:FS):List D->FS
 | [],ρ=>.next ρ
 | d::ds,ρ=>match m d ρ with
   | none=>.fail
   | some ρ1=>match B ρ1 with
     | .next ρ2=>Q4 m B ds ρ2
     | .cnt ρ2=>Q4 m B ds ρ2
     | .brk ρ2=>.next ρ2
     | .ret d=>.ret d
     | .retO l=>.retO l
     | .fail=>.fail
def zQ (fi:ef->Option (List D)) (m:D->ef->Option ef) (B:FS):FS:=fun ρ=>match fi ρ with
 | some ds=>Q4 m B ds ρ
 | none=>.fail
theorem jsu {wi:TI} {fi:ef->Option (List D)} {g:TG} {m:D->ef->Option ef} {tb:TS} {B:FS} (hi:IOk wi fi) (hg:GOk g m) (hb:SOk tb B):SOk (jro wi g tb) (zQ fi m B):=fun G0 H0 G H σ ρ E e q=>by
 unfold zQ at q;split at q
 . rename_i ds z;refine hi _ _ _ _ _ _ _ _ e z fun J G1 H1 x1 it=>?_;refine ⟨fun i n σ' H'=>n=ds.length-i/\i<=ds.length/\∃G' ρ',Same G1 G'/\EnvOk G0 H0 G' H' σ' ρ'/\ResOk G0 H0 G' (Q4 m B (ds.drop i) ρ') E,⟨_,rfl,yE _,G1,ρ,.refl _,e.grow x1,q.mono x1.gg⟩,?_⟩;rintro i n σ' H' ⟨rfl,hl,G',ρ',s1,e1,q1⟩;obtain ⟨go,stop⟩:=it i G' H' s1 (s1.trans e1.same) e1.same;by_cases hlt:i<ds.length
   . have hd:ds[i]?=some ds[i]:=Ya hlt;obtain ⟨g1,g2⟩:=go _ hd;rw [KG hlt] at q1;simp only [Q4] at q1;split at q1
     . exact q1.elim
     . rename_i ρ1 hm;refine .inr ⟨g1,fun σ2 H2=>∃G2 ρ2,Same G1 G2/\EnvOk G0 H0 G2 H2 σ2 ρ2/\ResOk G0 H0 G2 (Q4 m B (ds.drop (i+1)) ρ2) E,fun σ2 H2 ⟨G2,ρ2,a1,a2,a3⟩=>⟨_,by omega,rfl,hlt,G2,ρ2,a1,a2,a3⟩,fun x H2 y=>?_⟩;obtain ⟨G2,x2,r2⟩:=g2 x H2 y;refine hg _ _ _ _ _ _ _ _ _ _ (e1.grow x2) r2 hm fun σ2 e2=>hb _ _ _ _ _ _ _ e2 ?_;have q2:=q1.mono x2.gg;have s2:=s1.trans x2.gg;cases hB:B ρ1 with
       | next ρ2=>rw [hB] at q2;exact fun G3 H3 σ3 s3 e3=>⟨G3,ρ2,s2.trans s3,e3,q2.mono s3⟩
       | cnt ρ2=>rw [hB] at q2;exact fun G3 H3 σ3 s3 e3=>⟨G3,ρ2,s2.trans s3,e3,q2.mono s3⟩
       | brk ρ2=>rw [hB] at q2;exact q2
       | ret d=>rw [hB] at q2;exact q2
       | retO d=>rw [hB] at q2;exact q2
       | fail=>rw [hB] at q2;exact q2
   . have hd:ds[i]?=none:=YY.mpr (by omega);rw [KY (by omega)] at q1;exact .inl ⟨stop hd,q1 G' H' σ' (.refl _) e1⟩
 . exact q.elim
def wh (c:ef->Option Bool) (B:FS):Nat->ef->Option Res
 | 0,_=>none
 | n+1,ρ=>match c ρ with
   | none=>some .fail
   | some false=>some (.next ρ)
   | some true=>match B ρ with
     | .next ρ2=>wh c B n ρ2
     | .cnt ρ2=>wh c B n ρ2
     | .brk ρ2=>some (.next ρ2)
     | .ret d=>some (.ret d)
     | .retO l=>some (.retO l)
     | .fail=>some .fail
open Classical in
def Qy (c:ef->Option Bool) (B:FS):FS:=fun ρ=>if h:∃n r,wh c B n ρ=some r then h.choose_spec.choose else .fail
omit [Fr] in
theorem jje {c:ef->Option Bool} {B:FS}:∀{n k:Nat} {ρ:ef} {r:Res},wh c B n ρ=some r->wh c B (n+k) ρ=some r
 | 0,_,_,_,h=>by cases h
 | n+1,k,ρ,r,h=>by
   rw [Nat.add_right_comm];unfold wh at h ⊢;cases hc:c ρ with
   | none=>rw [hc] at h;exact h
   | some b=>
     rw [hc] at h;cases b with
     | false=>exact h
     | true=>
       dsimp only at h ⊢;cases hB:B ρ with
       | next ρ2=>rw [hB] at h;exact jje h
       | cnt ρ2=>rw [hB] at h;exact jje h
       | brk ρ2=>rw [hB] at h;exact h
       | ret d=>rw [hB] at h;exact h
       | retO d=>rw [hB] at h;exact h
       | fail=>rw [hB] at h;exact h
omit [Fr] in
theorem jqO {c:ef->Option Bool} {B:FS} {n k:Nat} {ρ:ef} {r r':Res} (h:wh c B n ρ=some r) (h':wh c B k ρ=some r'):r=r':=by have a:=jje (k:=k) h;have b:=jje (k:=n) h';rw [Nat.add_comm k n,a] at b;exact Option.some.inj b
omit [Fr] in
theorem jeI {c:ef->Option Bool} {B:FS} {n:Nat} {ρ:ef} {r:Res} (h:wh c B n ρ=some r):Qy c B ρ=r:=by unfold Qy;have hx:∃n r,wh c B n ρ=some r:=⟨n,r,h⟩;rw [dif_pos hx];exact jqO hx.choose_spec.choose_spec h
theorem jnJ {tc:TT} {c:ef->Option Bool} {tb:TS} {B:FS} (hc:TOk tc c) (hb:SOk tb B):SOk (jiy tc tb) (Qy c B):=fun G0 H0 G H σ ρ E e q=>by
 by_cases hx:∃n r,wh c B n ρ=some r
 . obtain ⟨n,r,hr⟩:=hx;rw [jeI hr] at q;refine ⟨fun n σ' H'=>∃G' ρ' r,EnvOk G0 H0 G' H' σ' ρ'/\wh c B n ρ'=some r/\ResOk G0 H0 G' r E,⟨n,G,ρ,r,e,hr,q⟩,?_⟩;rintro n σ' H' ⟨G',ρ',r,e1,h1,q1⟩;cases n with
   | zero=>cases h1
   | succ n=>
     unfold wh at h1;split at h1
     . cases h1;exact q1.elim
     . rename_i z;cases h1;exact hc _ _ _ _ _ _ _ _ e1 z fun G2 H2 x=>by rw [if_neg Yh];exact q1 G2 H2 σ' x.gg (e1.grow x)
     . rename_i z;refine hc _ _ _ _ _ _ _ _ e1 z fun G2 H2 x=>?_;rw [if_pos rfl];refine ⟨fun σ2 H2=>∃G' ρ' r,EnvOk G0 H0 G' H2 σ2 ρ'/\wh c B n ρ'=some r/\ResOk G0 H0 G' r E,fun σ2 H2 w=>⟨n,yT n,w⟩,hb _ _ _ _ _ _ _ (e1.grow x) ?_⟩;have q2:=q1.mono x.gg;cases hB:B ρ' with
       | next ρ2=>rw [hB] at h1;exact fun G3 H3 σ3 s3 e3=>⟨G3,ρ2,r,e3,h1,q2.mono s3⟩
       | cnt ρ2=>rw [hB] at h1;exact fun G3 H3 σ3 s3 e3=>⟨G3,ρ2,r,e3,h1,q2.mono s3⟩
       | brk ρ2=>rw [hB] at h1;cases h1;exact q2
       | ret d=>rw [hB] at h1;cases h1;exact q2
       | retO d=>rw [hB] at h1;cases h1;exact q2
       | fail=>rw [hB] at h1;cases h1;exact q2
 . unfold Qy at q;rw [dif_neg hx] at q;exact q.elim
def JE (n:Nat) (ix:List Nat) (ρ:ef):ef:=List.replicate n .un++ix.map fun k=>match ρ[k]? with
 | some (.sh d)=>.sh d
 | _=>.un
theorem jlF {G0 H0 G H:Hp} {σ:St} {ρ:ef} (n:Nat) (ix:List Nat) (e:EnvOk G0 H0 G H σ ρ):EnvOk G0 H0 G H (Qd n σ ix) (JE n ix ρ):=by
 have key:∀(i:Nat) s,(JE n ix ρ)[i]?=some s->s=.un\/∃d k,s=.sh d/\n<=i/\ix[i-n]?=some k/\ρ[k]?=some (.sh d):=fun i s h=>by
  unfold JE at h;rcases YX i n with hi | hi
  . rw [YC ‹"aq"›,List.getElem?_replicate] at h;simp [hi] at h;exact .inl h.symm
  . rw [Yz ‹"aq"›,List.length_replicate,List.getElem?_map] at h;cases e1:ix[i-n]? with
    | none=>rw [e1] at h;cases h
    | some k=>
      rw [e1] at h;simp only [Yi,Option.some.injEq] at h;split at h
      . rename_i d hd;exact .inr ⟨d,k,h.symm,hi,rfl,hd⟩
      . exact .inl h.symm
 refine ⟨e.ext,by simp [Qd,JE,capt],fun i o s h1 h2=>?_,fun i j o o' s s' b h1 h2 h3 h4 f f'=>?_⟩
 . rcases key i s h2 with rfl | ⟨d,k,rfl,hi,hk,hd⟩
   . exact .un _
   . obtain ⟨v,hv,r⟩:=e.sh hd;unfold Qd at h1;rw [Yz ‹"aq"›,List.length_replicate] at h1;unfold capt at h1;rw [List.getElem?_map,hk] at h1;simp only [Yi,Option.some.injEq] at h1;rw [hv] at h1;subst h1;exact .sh r
 . rcases key i _ h2 with z | ⟨d,k,z,_⟩
   . subst z;cases o with | none=>exact f.elim | some v=>cases v <;> exact f.elim
   . subst z;cases o with | none=>exact f.elim | some v=>cases v <;> exact f.elim
def ZM (m:D->ef->Option ef) (ft:ef->Option Bool) (fe:ef->Option D) (ρ:ef):List D->Option (List D)
 | []=>some []
 | d::ds=>(m d ρ).bind fun ρ1=>(ft ρ1).bind fun b=>if b then (fe ρ1).bind fun y=>(ZM m ft fe ρ ds).map (y::·) else ZM m ft fe ρ ds
def JC (fi:ef->Option (List D)) (m:D->ef->Option ef) (ft:ef->Option Bool) (fe:ef->Option D) (n:Nat) (ix:List Nat):ef->Option (List D):=fun ρ=>(fi ρ).bind fun ds=>if Jm ds.length then ZM m ft fe (JE n ix ρ) ds else none
theorem jsm {wi:TI} {fi:ef->Option (List D)} {g:TG} {m:D->ef->Option ef} {tt:TT} {ft:ef->Option Bool} {te:TE} {fe:ef->Option D} (n:Nat) (ix:List Nat) (hi:jkj wi fi) (hg:GOk g m) (ht:TOk tt ft) (he:EOk te fe) :
 EOkO (tLC wi g tt te n ix) (JC fi m ft fe n ix):=fun G0 H0 G H σ ρ Q es e q k=>by
 obtain ⟨ds,q1,q2⟩:=bind_some q;split at q2
 . rename_i hz;refine hi _ _ _ _ _ _ _ _ e q1 fun J G1 H1 x1 it=>?_;refine ⟨fun i n' ys H'=>n'=ds.length-i/\i<=ds.length/\ys.length<=i/\∃G' gs hs,Ext G1 H1 G' H'/\Reps G' ys gs/\ZM m ft fe (JE n ix ρ) (ds.drop i)=some hs/\gs++hs=es,⟨_,rfl,yE _,Ys _,G1,[],es,.refl x1.gh,.nil,q2,rfl⟩,?_⟩;rintro i n' ys H' ⟨rfl,hl,hy,G',gs,hs,x2,r2,hlc,hes⟩;have hz':=Z9 hz;obtain ⟨go,stop⟩:=it i G' H' x2.gg x2.hh x2.gh;by_cases hlt:i<ds.length
   . have hd:ds[i]?=some ds[i]:=Ya hlt;obtain ⟨g1,g2⟩:=go _ hd;rw [KG hlt] at hlc;simp only [ZM] at hlc;obtain ⟨ρ1,hm,hlc⟩:=bind_some hlc;obtain ⟨b,hb,hlc⟩:=bind_some hlc;refine .inr ⟨g1,by omega,fun ys' H'=>ys'.length<=i+1/\∃G' gs hs,Ext G1 H1 G' H'/\Reps G' ys' gs/\ZM m ft fe (JE n ix ρ) (ds.drop (i+1))=some hs/\gs++hs=es,fun ys' H' ⟨a0,a⟩=>⟨_,by omega,rfl,hlt,a0,a⟩,fun x H2 y=>?_⟩;obtain ⟨G2,x3,r3⟩:=g2 x H2 y;have e3:EnvOk G0 H0 G2 H2 (Qd n σ ix) (JE n ix ρ):=(jlF n ix e).grow ‹"aI"›;refine hg _ _ _ _ _ _ _ _ _ _ e3 r3 hm fun σ2 e4=>ht _ _ _ _ _ _ _ _ e4 hb fun G4 H4 x4=>?_;have x24:=(x2.trans x3).trans x4;cases b with
     | false=>rw [if_neg Yh] at hlc ⊢;exact ⟨by omega,G4,gs,hs,x24,r2.mono (x3.trans x4).gg,hlc,hes⟩
     | true=>rw [if_pos rfl] at hlc ⊢;obtain ⟨y',hy',hlc⟩:=bind_some hlc;obtain ⟨hs',hh,hlc⟩:=map_some hlc;subst hlc;refine he _ _ _ _ _ _ _ _ (e4.grow x4) hy' fun v G5 H5 x5 r5=>⟨by simp;omega,G5,gs++[y'],hs',x24.trans x5,((r2.mono ((x3.trans x4).trans x5).gg).snoc r5),hh,by simpa using hes⟩
   . have hd:ds[i]?=none:=YY.mpr (by omega);rw [KY (by omega)] at hlc;cases hlc;rw [yH] at hes;subst hes;refine .inl ⟨stop hd,by omega,fun p hp=>?_⟩;exact k p ys G' _ ((x1.trans x2).trans (.new x2.gh hp)) ((x1.trans x2).hh.free hp) (x2.gh.free hp) jE r2
 . cases q2
def qF (n:Nat) (ds:List D):ef:=ds.map .sh++List.replicate (n-ds.length) .un
def jcQ:Res->Option D
 | .ret d=>some d
 | .retO es=>some (.lst es)
 | .next _=>some .non
 | _=>none
def jb6:Res->Option (List D)
 | .retO es=>some es
 | _=>none
def qW (k n:Nat) (F:FS) (ds:List D):Option D:=if ds.length=k then jcQ (F (qF n ds)) else none
def Jq (k n:Nat) (F:FS) (ds:List D):Option (List D):=if ds.length=k then jb6 (F (qF n ds)) else none
theorem jiS {G H:Hp} {vs:List V} {ds:List D} {k n:Nat} (s:Same G H) (r:Reps G vs ds) (hk:k=n-vs.length):EnvOk G H G H (vs.map some++List.replicate k none) (qF n ds):=by
 have hl:=r.length;refine ⟨.refl s,by simp [qF,hl,hk],fun i o s' h1 h2=>?_,fun i j o o' s s' b h1 h3 _ _ f _=>?_⟩
 . unfold qF at h2;rcases YX i ds.length with hi | hi
   . rw [YC ‹"aq"›,List.getElem?_map] at h2;rw [YC (by simpa [hl] using hi),List.getElem?_map] at h1;have hd:ds[i]?=some ds[i]:=Ya hi;obtain ⟨v,g1,g2⟩:=r.get hd;rw [g1] at h1;rw [hd] at h2;cases h1;cases h2;exact .sh g2
   . rw [Yz ‹"aq"›,List.getElem?_replicate] at h2;split at h2
     . cases h2;exact .un _
     . cases h2
 . exfalso;unfold qF at h3;rcases YX i ds.length with hi | hi
   . rw [YC ‹"aq"›,List.getElem?_map] at h3;have hd:ds[i]?=some ds[i]:=Ya hi;rw [hd] at h3;cases h3;cases o with | none=>exact f.elim | some v=>cases v <;> exact f.elim
   . rw [Yz ‹"aq"›,List.getElem?_replicate] at h3;split at h3
     . cases h3;cases o with | none=>exact f.elim | some v=>cases v <;> exact f.elim
     . cases h3
theorem jr0 {k n:Nat} {F:FS} {vs:List V} {H:Hp} {Q:VK} {E:XK} (q:spS (qW k n F) vs H Q E):vs.length=k:=by
 obtain ⟨G,ds,d,s,r,hf,fin⟩:=q;unfold qW at hf;split at hf
 . rename_i h;rw [r.length];exact h
 . cases hf
theorem jrs {k n:Nat} {F:FS} {vs:List V} {H:Hp} {Q:VK} {E:XK} (q:spO (Jq k n F) vs H Q E):vs.length=k:=by
 obtain ⟨G,ds,d,s,r,hf,fin⟩:=q;unfold Jq at hf;split at hf
 . rename_i h;rw [r.length];exact h
 . cases hf
theorem jqk {t:TS} {F:FS} {a n k:Nat} {vs:List V} {H:Hp} {Q:VK} {E:XK} (h:SOk t F) (hk:k=n-vs.length) (q:spS (qW a n F) vs H Q E):t { nx:=fun _ H'=>Q .non H',rt:=Q } (vs.map some++List.replicate k none) H:=by
 obtain ⟨G,ds,d,s,r,hf,fin⟩:=q;refine h G H G H _ _ _ (jiS s r hk) ?_;unfold qW at hf;split at hf
 . cases z:F (qF n ds) with
   | next ρ=>rw [z] at hf;cases hf;exact fun G' H' σ _ e=>fin _ G' H' e.ext .non
   | ret d=>rw [z] at hf;cases hf;exact fun G' H' v x r=>fin v G' H' x r
   | retO es=>rw [z] at hf;cases hf;exact fun G' H' a us x hn hg hh r=>fin _ _ H' (x.freeze hn hg hh) (.lst (.inl jE) (r.mono (.upd hg)))
   | brk _=>rw [z] at hf;cases hf
   | cnt _=>rw [z] at hf;cases hf
   | fail=>rw [z] at hf;cases hf
 . cases hf
theorem jpa {t:TS} {F:FS} {a n k:Nat} {vs:List V} {H:Hp} {Q:VK} {E:XK} (h:SOk t F) (hk:k=n-vs.length) (q:spO (Jq a n F) vs H Q E):t { nx:=fun _ H'=>Q .non H',rt:=Q } (vs.map some++List.replicate k none) H:=by
 obtain ⟨G,ds,d,s,r,hf,fin⟩:=q;refine h G H G H _ _ _ (jiS s r hk) ?_;unfold Jq at hf;split at hf
 . cases z:F (qF n ds) with
   | retO es=>rw [z] at hf;cases hf;exact fun G' H' a us x hn hg hh r=>fin a us G' H' x hn hg hh r
   | _=>rw [z] at hf;cases hf
 . cases hf
end
end L2
namespace L2
open PySem PySem.Spec PyProof.Rows
def ZW:List D->Option (List Int)
 | []=>some []
 | .int i::l=>(ZW l).map (i::·)
 | _=>none
theorem QW:∀ns:List Int,ZW (ns.map D.int)=some ns
 | []=>rfl
 | n::ns=>by simp [ZW,QW ns]
theorem Qz:∀{l:List D} {ns:List Int},ZW l=some ns->l=ns.map D.int
 | [],_,h=>by cases h;rfl
 | .int i::l,ns,h=>by obtain ⟨ms,h1,h2⟩:=map_some h;subst h2;rw [Qz h1];rfl
 | .bl _::_,_,h=>by cases h
 | .non::_,_,h=>by cases h
 | .str _::_,_,h=>by cases h
 | .lst _::_,_,h=>by cases h
 | .tup _::_,_,h=>by cases h
 | .scr _::_,_,h=>by cases h
def jex:List D->Option (List Bool)
 | []=>some []
 | .bl i::l=>(jex l).map (i::·)
 | _=>none
theorem Z4:∀ns:List Bool,jex (ns.map D.bl)=some ns
 | []=>rfl
 | n::ns=>by simp [jex,Z4 ns]
theorem jbY:∀{l:List D} {ns:List Bool},jex l=some ns->l=ns.map D.bl
 | [],_,h=>by cases h;rfl
 | .bl i::l,ns,h=>by obtain ⟨ms,h1,h2⟩:=map_some h;subst h2;rw [jbY h1];rfl
 | .int _::_,_,h=>by cases h
 | .non::_,_,h=>by cases h
 | .str _::_,_,h=>by cases h
 | .lst _::_,_,h=>by cases h
 | .tup _::_,_,h=>by cases h
 | .scr _::_,_,h=>by cases h
def jgF:List Int->Option Int
 | []=>none
 | x::l=>match jgF l with
   | none=>some x
   | some y=>some (if y<x then y else x)
theorem jgS:∀{l:List Int},jgF l=none->l=[]
 | [],_=>rfl
 | x::l,h=>by unfold jgF at h;split at h <;> cases h
theorem jf7:∀{l:List Int} {m:Int},jgF l=some m->m∈l/\∀a∈l,m<=a
 | [],_,h=>by cases h
 | x::l,m,h=>by
   unfold jgF at h;split at h
   . rename_i z;cases h;rw [jgS z];simp
   . rename_i y z;cases h;obtain ⟨h1,h2⟩:=jf7 z;refine ⟨by split <;> simp [h1],fun a ha=>?_⟩;rcases Yr.mp ha with rfl | ha
     . split <;> omega
     . have:=h2 a ha;split <;> omega
section
variable [Fr]
theorem RepTs.one {G H:Hp} {xs:List V} {d:D} (h:RepTs G H xs [d]):∃v,xs=[v]/\RepT G H v d:=by cases h with | cons r t=>cases t;exact ⟨_,rfl,r⟩
theorem RepTs.two {G H:Hp} {xs:List V} {d e:D} (h:RepTs G H xs [d,e]):∃v u,xs=[v,u]/\RepT G H v d/\RepT G H u e:=by cases h with | cons r t=>cases t with | cons r' t=>cases t;exact ⟨_,_,rfl,r,r'⟩
theorem RepTs.three {G H:Hp} {xs:List V} {d e f:D} (h:RepTs G H xs [d,e,f]):∃v u w,xs=[v,u,w]/\RepT G H v d/\RepT G H u e/\RepT G H w f:=by cases h with | cons r t=>cases t with | cons r' t=>cases t with | cons r2 t=>cases t;exact ⟨_,_,_,rfl,r,r',r2⟩
section
variable {As:TA} {fs:ef->Option (List D)} {ta:TE} {fa:ef->Option D}
def qG:List D->Option D
 | [.lst l]=>some (.int l.length)
 | [.tup l]=>some (.int l.length)
 | [.scr l]=>some (.int l.length)
 | [.str z]=>if z.length<=sizeLine then some (.int z.length) else none
 | _=>none
theorem jmG {ds:List D} {d:D} (q:qG ds=some d):(∃l,ds=[.lst l]/\D.int l.length=d)\/(∃l,ds=[.tup l]/\D.int l.length=d)\/(∃l,ds=[.scr l]/\D.int l.length=d)\/∃z,ds=[.str z]/\z.length<=sizeLine/\D.int z.length=d:=by
 cases ds with
 | nil=>exact qr q
 | cons x t=>
   cases t with
   | cons y t=>cases x <;> exact qr q
   | nil=>
     cases x with
     | lst l=>exact .inl ⟨l,rfl,Option.some.inj q⟩
     | tup l=>exact .inr (.inl ⟨l,rfl,Option.some.inj q⟩)
     | scr l=>exact .inr (.inr (.inl ⟨l,rfl,Option.some.inj q⟩))
     | str z=>
       by_cases c:z.length<=sizeLine
       . exact .inr (.inr (.inr ⟨z,rfl,c,Option.some.inj ((if_pos c).symm.trans q)⟩))
       . exact qr ((if_neg c).symm.trans q)
     | _=>exact qr q
theorem jrw:jey (fun xs H Q=>(∃p ys,xs=[.ref p]/\(J6 Fr.K H p ys\/SqT Fr.K H p ys)/\Q (.int ys.length) H)\/∃z,xs=[.str z]/\z.length<=sizeLine/\Q (.int z.length) H) qG:=fun G H xs ds d Q s rr q k=>by
 rcases jmG q with ⟨l,rfl,rfl⟩ | ⟨l,rfl,rfl⟩ | ⟨l,rfl,rfl⟩ | ⟨z,rfl,hz,rfl⟩
 . obtain ⟨v,rfl,r⟩:=rr.one;cases r with | lst h r=>exact .inl ⟨_,_,rfl,.inl (.inl h),by rw [r.length];exact k _ G H (.refl s) (.int _)⟩
 . obtain ⟨v,rfl,r⟩:=rr.one;cases r with | tup h r=>exact .inl ⟨_,_,rfl,.inr (.inl (.inl h)),by rw [r.length];exact k _ G H (.refl s) (.int _)⟩
 . obtain ⟨v,rfl,r⟩:=rr.one;cases r with | scr h=>exact .inl ⟨_,_,rfl,.inl h,by rw [Yd];exact k _ G H (.refl s) (.int _)⟩
 . obtain ⟨v,rfl,r⟩:=rr.one
   (have hh:=RepT.of_str r;subst hh)
   exact .inr ⟨_,rfl,hz,k _ G H (.refl s) (.int _)⟩
def Qc:List D->Option (List D)
 | [.lst l]=>some l
 | [.tup l]=>some l
 | _=>none
theorem jpf:jgZ (fun xs H Q=>∃p ys,xs=[.ref p]/\(J6 Fr.K H p ys\/SqT Fr.K H p ys)/\∀l,H l=none->Q (.ref l) (upd H l (.lst ys))) Qc:=fun G H xs ds d Q s rr q k=>by
 unfold Qc at q;split at q
 . cases q;obtain ⟨v,rfl,r⟩:=rr.one;cases r with | lst h r=>exact ⟨_,_,rfl,.inl (.inl h),fun l hl=>k l _ G _ (.new s hl) hl (s.free hl) jE r⟩
 . cases q;obtain ⟨v,rfl,r⟩:=rr.one;cases r with | tup h r=>exact ⟨_,_,rfl,.inr (.inl (.inl h)),fun l hl=>k l _ G _ (.new s hl) hl (s.free hl) jE r⟩
 . cases q
def jow:List D->Option D
 | [.lst l]=>some (.tup l)
 | _=>none
def Qb:List D->Option D
 | [.lst l]=>(ZW l).map fun ns=>.int ns.sum
 | _=>none
theorem jrJ:jey (fun xs H Q=>∃(p:Addr) (ns:List Int),xs=[.ref p]/\J6 Fr.K H p (ns.map V.int)/\Q (.int ns.sum) H) Qb:=fun G H xs ds d Q s rr q k=>by
 unfold Qb at q;split at q
 . obtain ⟨ns,q1,q2⟩:=map_some q;subst q2;obtain ⟨v,rfl,r⟩:=rr.one;obtain ⟨_,_,rfl,h,r⟩:=r.of_lst;rw [Qz q1] at r;rw [r.ints] at h;exact ⟨_,ns,rfl,.inl h,k _ G H (.refl s) (.int _)⟩
 . cases q
def jeo:List D->Option D
 | [.lst l]=>(jex l).map fun ns=>.bl (ns.all id)
 | _=>none
theorem jrr:jey (fun xs H Q=>∃(p:Addr) (ns:List Bool),xs=[.ref p]/\J6 Fr.K H p (ns.map V.bl)/\Q (.bl (ns.all id)) H) jeo:=fun G H xs ds d Q s rr q k=>by
 unfold jeo at q;split at q
 . obtain ⟨ns,q1,q2⟩:=map_some q;subst q2;obtain ⟨v,rfl,r⟩:=rr.one;obtain ⟨_,_,rfl,h,r⟩:=r.of_lst;rw [jbY q1] at r;rw [r.bls] at h;exact ⟨_,ns,rfl,.inl h,k _ G H (.refl s) (.bl _)⟩
 . cases q
def QJ:List D->Option D
 | [.int i,.int j]=>some (.int (if j<i then j else i))
 | _=>none
def jaO:List D->Option D
 | [.int i,.int j]=>some (.int (if j>i then j else i))
 | _=>none
theorem jqE:jey (fun xs H Q=>∃i j,xs=[.int i,.int j]/\Q (.int (if j<i then j else i)) H) QJ:=fun G H xs ds d Q s rr q k=>by
 unfold QJ at q;split at q
 . cases q;obtain ⟨v,u,rfl,r,r'⟩:=rr.two
   (have hh:=RepT.of_int r;subst hh)
   (have hh:=RepT.of_int r';subst hh)
   exact ⟨_,_,rfl,k _ G H (.refl s) (.int _)⟩
 . cases q
theorem jpw:jey (fun xs H Q=>∃i j,xs=[.int i,.int j]/\Q (.int (if j>i then j else i)) H) jaO:=fun G H xs ds d Q s rr q k=>by
 unfold jaO at q;split at q
 . cases q;obtain ⟨v,u,rfl,r,r'⟩:=rr.two
   (have hh:=RepT.of_int r;subst hh)
   (have hh:=RepT.of_int r';subst hh)
   exact ⟨_,_,rfl,k _ G H (.refl s) (.int _)⟩
 . cases q
def jdM (i j k:Int):Int:=if k<(if j<i then j else i) then k else if j<i then j else i
def jcM:List D->Option D
 | [.int i,.int j,.int k]=>some (.int (jdM i j k))
 | _=>none
theorem jqc:jey (fun xs H Q=>∃i j k,xs=[.int i,.int j,.int k]/\Q (.int (jdM i j k)) H) jcM:=fun G H xs ds d Q s rr q k=>by
 unfold jcM at q;split at q
 . cases q;obtain ⟨v,u,w,rfl,r,r',r2⟩:=rr.three
   (have hh:=RepT.of_int r;subst hh)
   (have hh:=RepT.of_int r';subst hh)
   (have hh:=RepT.of_int r2;subst hh)
   exact ⟨_,_,_,rfl,k _ G H (.refl s) (.int _)⟩
 . cases q
def jgg:List D->Option D
 | [.lst l]=>(ZW l).bind fun ns=>(jgF ns).map .int
 | _=>none
theorem jqR:jey (fun xs H Q=>∃(p:Addr) (ns:List Int),xs=[.ref p]/\J6 Fr.K H p (ns.map V.int)/\0<ns.length/\∀M,M∈ns->(∀a∈ns,M<=a)->Q (.int M) H) jgg:=fun G H xs ds d Q s rr q k=>by
 unfold jgg at q;split at q
 . obtain ⟨ns,q1,q2⟩:=bind_some q;obtain ⟨m,q4,q3⟩:=map_some q2;subst q3;obtain ⟨v,rfl,r⟩:=rr.one;obtain ⟨m1,m2⟩:=jf7 q4;obtain ⟨_,_,rfl,h,r⟩:=r.of_lst;rw [Qz q1] at r;rw [r.ints] at h;refine ⟨_,ns,rfl,.inl h,List.length_pos_of_mem m1,fun M h1 h2=>?_⟩;have e:M=m:=by have:=h2 m m1;have:=m2 M h1;omega
   subst e;exact k _ G H (.refl s) (.int _)
 . cases q
def jqb:List D->Option D
 | [.int i]=>some (.int i)
 | [.bl b]=>some (.int (if b then 1 else 0))
 | _=>none
theorem jr9:jey (fun xs H Q=>(∃i,xs=[.int i]/\Q (.int i) H)\/∃k,xs=[.bl k]/\Q (.int (if k then 1 else 0)) H) jqb:=fun G H xs ds d Q s rr q k=>by
 unfold jqb at q;split at q
 . cases q;obtain ⟨v,rfl,r⟩:=rr.one
   (have hh:=RepT.of_int r;subst hh)
   exact .inl ⟨_,rfl,k _ G H (.refl s) (.int _)⟩
 . cases q;obtain ⟨v,rfl,r⟩:=rr.one
   (have hh:=RepT.of_bl r;subst hh)
   exact .inr ⟨_,rfl,k _ G H (.refl s) (.int _)⟩
 . cases q
def dIs:D->D->Option D
 | .bl a,.bl b=>some (.bl (decide (a=b)))
 | _,_=>none
def joV:D->D->Option D
 | .bl a,.bl b=>some (.bl (!decide (a=b)))
 | _,_=>none
def vOf:D->V
 | .int i=>.int i
 | .bl b=>.bl b
 | .str z=>.str z
 | _=>.non
theorem RepT.v {G H:Hp} {v:V} {d:D} (r:RepT G H v d) (f:Jf d=true):v=vOf d:=by cases r <;> first | rfl | cases f
theorem Rep.v {G:Hp} {v:V} {d:D} (r:Rep G v d) (f:Jf d=true):v=vOf d:=by cases r <;> first | rfl | cases f
theorem jbp {d:D} (f:Jf d=true):jgv (vOf d)=true:=by cases d <;> first | rfl | cases f
def jcR (xs:List D) (lo hi:Option Int):List D:=(xs.drop (HT.sIx xs.length 0 lo)).take ‹"aN"›
def POk (t:TO) (f:ef->Option (Option Int)):Prop:=∀G0 H0 G H σ ρ (Q:Option Int->Hp->Prop) b,EnvOk G0 H0 G H σ ρ->f ρ=some b->(∀G' H',Ext G H G' H'->Q b H')->t σ H Q
def pNo:ef->Option (Option Int):=fun _=>some none
def pSo (fa:ef->Option D):ef->Option (Option Int):=fun ρ=>match fa ρ with
 | some (.int i)=>some (some i)
 | _=>none
theorem jtf:POk jjk pNo:=fun G0 H0 G H σ ρ Q b e q k=>by cases q;exact k G H (.refl e.same)
theorem jsZ (h:JA ta fa):POk (joI ta) (pSo fa):=fun G0 H0 G H σ ρ Q b e q k=>by
 unfold pSo at q;split at q
 . rename_i i z;cases q;refine h _ _ _ _ _ _ _ _ e z fun v G' H' x r=>?_
   (have hh:=RepT.of_int r;subst hh)
   exact ⟨_,rfl,k G' H' x⟩
 . cases q
def eSl (fa:ef->Option D) (fl fh:ef->Option (Option Int)):ef->Option (List D):=fun ρ=>match fa ρ,fl ρ,fh ρ with
 | some (.lst l),some lo,some hi=>some (jcR l lo hi)
 | some (.scr ns),some lo,some hi=>some (jcR (ns.map .int) lo hi)
 | _,_,_=>none
theorem jte {tl th:TO} {fl fh:ef->Option (Option Int)} (h:JA ta fa) (hl:POk tl fl) (hh:POk th fh):EOkO (tSl (jqo Fr.K) ta tl th) (eSl fa fl fh):=fun G0 H0 G H σ ρ Q ds e q k=>by
 unfold eSl at q;split at q
 . rename_i l lo hi z1 z2 z3;cases q;refine h _ _ _ _ _ _ _ _ e z1 fun v G1 H1 x1 r=>hl _ _ _ _ _ _ _ _ (e.grow x1) z2 fun G2 H2 x2=>hh _ _ _ _ _ _ _ _ ((e.grow x1).grow x2) z3 fun G3 H3 x3=>?_;obtain ⟨_,_,rfl,h,r⟩:=r.of_lst;have x:=(x1.trans x2).trans x3;have r3:=r.mono (x2.trans x3).gg;refine ⟨_,_,rfl,.inl (h.same (x2.trans x3).hh),fun p hp=>k p _ G3 _ (x.trans (.new x3.gh hp)) (x.hh.free hp) (x3.gh.free hp) jE ?_⟩;unfold jkm jcR;rw [r.length];exact (r3.drop _).take _
 . rename_i ns lo hi z1 z2 z3;cases q;refine h _ _ _ _ _ _ _ _ e z1 fun v G1 H1 x1 r=>hl _ _ _ _ _ _ _ _ (e.grow x1) z2 fun G2 H2 x2=>hh _ _ _ _ _ _ _ _ ((e.grow x1).grow x2) z3 fun G3 H3 x3=>?_;obtain ⟨_,rfl,h⟩:=r.of_scr;have x:=(x1.trans x2).trans x3;refine ⟨_,_,rfl,(x2.trans x3).hh.seq h,fun p hp=>k p _ G3 _ (x.trans (.new x3.gh hp)) (x.hh.free hp) (x3.gh.free hp) jE ?_⟩;unfold jkm jcR;rw [Yd,Yd];exact ((Reps.of_ints ns).drop _).take _
 . cases q
def Zs (T:String):D->Option Bool
 | .int _=>some (T == "int")
 | .bl _=>some (T == "bool" || T == "int")
 | .non=>some false
 | .str _=>some (T == "str")
 | .lst _=>some (T == "list")
 | .tup _=>some (T == "tuple")
 | .scr _=>none
 | .dic _ _=>none
def jev (T:String) (fa:ef->Option D):ef->Option D:=fun ρ=>(fa ρ).bind fun d=>(Zs T d).map .bl
def eLZ (fs:ef->Option (List D)):ef->Option (List D):=fun ρ=>match fs ρ with
 | some [.lst l,.lst m]=>if Jm l.length then some (ja1 l m) else none
 | _=>none
theorem js3 (h:jcb As fs):EOkO (jdZ Fr.K As) (eLZ fs):=fun G0 H0 G H σ ρ Q ds e q k=>by
 unfold eLZ at q;split at q
 . rename_i l m z;split at q
   . rename_i hz;cases q;refine h _ _ _ _ _ _ _ _ e z fun vs G1 H1 x1 rr=>?_;obtain ⟨v,u,rfl,r1,r2⟩:=rr.two;cases r1 with
     | @lst a vs l h1 r1=>
       cases r2 with
       | @lst b us m h2 r2=>
         refine ⟨a,b,vs,us,rfl,.inl h1,.inl h2,by rw [r1.length];exact Z9 hz,fun c ts H' hc hts hcn hnd tL hoth hcl htup=>?_⟩;have G2:∃G2:Hp,G2=fun x=>if x∈ts then H' x else G1 x:=⟨_,rfl⟩
         obtain ⟨G2,eG2⟩:=G2;have inT:∀x,x∈ts->G2 x=H' x:=fun x hx=>by rw [eG2];exact if_pos hx
         have outT:∀x,x∉ts->G2 x=G1 x:=fun x hx=>by rw [eG2];exact if_neg hx
         have sG:Same G1 G2:=fun x o w=>by rw [outT x fun z=>by have:=hts x z;rw [x1.gh x o w] at this;cases this];exact w
         have sH:Same H1 H':=fun x o w=>by rw [hoth x (jM w hc) fun z=>by have:=hts x z;rw [w] at this;cases this];exact w
         have x2:Ext G1 H1 G2 H':=⟨sH,sG,fun x o w=>by
          by_cases hx:x∈ts
          . rw [inT x hx] at w;exact w
          . rw [outT x hx] at w;exact sH x o (x1.gh x o w),fun x o w=>by
          by_cases hx:x∈ts
          . exact .inr (hts x hx)
          . rw [outT x hx] at w;exact .inl w⟩
         have gc:G2 c=none:=by rw [outT c hcn];exact x1.gh.free hc
         refine k c _ G2 H' (x1.trans x2) (x1.hh.free hc) gc hcl ?_;have len:(ts.map V.ref).length=(ja1 l m).length:=by simp [ja1,tL,r1.length,r2.length]
         have build:∀(vs:List V) (ds:List D),vs.length=ds.length->(∀(i:Nat) v d,vs[i]?=some v->ds[i]?=some d->Rep G2 v d)->Reps G2 vs ds:=by
          intro vs;induction vs with
          | nil=>intro ds hl _;cases ds with | nil=>exact .nil | cons _ _=>simp at hl
          | cons v vs ih=>
            intro ds hl hh;cases ds with
            | nil=>simp at hl
            | cons d ds=>exact .cons (hh 0 v d rfl rfl) (ih ds (by simpa using hl) fun i v d h1 h2=>hh (i+1) v d (by simpa using h1) (by simpa using h2))
         refine build _ _ len fun i v d g1 g2=>?_;rw [List.getElem?_map] at g1;cases et:ts[i]? with
         | none=>rw [et] at g1;cases g1
         | some t=>
           rw [et] at g1;cases g1;unfold ja1 at g2;rw [List.getElem?_map] at g2;cases ep:(l.zip m)[i]? with
           | none=>rw [ep] at g2;cases g2
           | some p=>rw [ep] at g2;cases g2;obtain ⟨w1,w2⟩:=YT.mp ep;obtain ⟨v1,y1,y2⟩:=r1.get w1;obtain ⟨v2,y3,y4⟩:=r2.get w2;have ht:=htup i t v1 v2 et y1 y3;exact .tup (by rw [inT t (YF et)];exact ht) (.cons (y2.mono sG) (.cons (y4.mono sG) .nil))
   . cases q
 . cases q
end
def eqB (x y:D):Option Bool:=if Jf x=true then (if Jf y=true then some (eqV (vOf x) (vOf y)) else none) else none
def jd6 (f:D->D->Option Bool):List D->List D->Option Bool
 | x::l,y::m=>(f x y).bind fun b=>(jd6 f l m).map (b && ·)
 | _,_=>some true
def eqF:Nat->D->D->Option Bool
 | n+1,.lst l,.lst m=>if l.length=m.length then jd6 (eqF n) l m else some false
 | n+1,.tup l,.tup m=>(jd6 (eqF n) l m).map (· && l.length == m.length)
 | _,x,y=>eqB x y
def jfc (x y:D):Option Bool:=if Jf x && Jf y then (if jqx (vOf x) (vOf y) then some (decide (vOf x=vOf y)) else none) else eqF 40 x y
def jhD:R2:=fun x y H Q=>∃G dx dy b,Same G H/\RepT G H x dx/\RepT G H y dy/\jfc dx dy=some b/\Q (.bl b) H
def jhL:R2:=fun x y H Q=>∃G dx dy b,Same G H/\RepT G H x dx/\RepT G H y dy/\jfc dx dy=some b/\Q (.bl (!b)) H
def dEq:D->D->Option D:=fun x y=>(jfc x y).map .bl
def dNe:D->D->Option D:=fun x y=>(jfc x y).map fun b=>.bl (!b)
theorem js5:ROk jhD dEq:=fun G H x y dx dy d Q s rx ry q k=>by obtain ⟨b,q1,q2⟩:=map_some q;subst q2;exact ⟨G,dx,dy,b,s,rx,ry,q1,k _ G H (.refl s) (.bl _)⟩
theorem jsV:ROk jhL dNe:=fun G H x y dx dy d Q s rx ry q k=>by obtain ⟨b,q1,q2⟩:=map_some q;subst q2;exact ⟨G,dx,dy,b,s,rx,ry,q1,k _ G H (.refl s) (.bl _)⟩
def joA:R2:=fun x y H Q=>∃l b xs zs,x=.ref l/\y=.ref b/\Rd H l (.lst xs)/\Rd H b (.lst zs)/\xs.length+zs.length<=sizeLine/\∀p,H p=none->Q (.ref p) (upd H p (.lst (xs++zs)))
def jcU:D->D->Option (List D)
 | .lst l,.lst m=>if l.length+m.length<=sizeLine then some (l++m) else none
 | _,_=>none
theorem jrY:jpO joA jcU:=fun G H x y dx dy d Q s rx ry q k=>by
 unfold jcU at q;split at q
 . split at q
   . rename_i hz;cases q;obtain ⟨_,_,rfl,h,r⟩:=rx.of_lst;obtain ⟨_,_,rfl,h',r'⟩:=ry.of_lst;exact ⟨_,_,_,_,rfl,rfl,h,h',by rw [r.length,r'.length];exact hz,fun p hp=>k p _ G _ (.new s hp) hp (s.free hp) jE (r.append r')⟩
   . cases q
 . cases q
end
end L2
namespace L2
open PySem PySem.Spec PyProof.Rows
section
variable {es:List Expr} {env:PySem.Env} {p:Pos}
end
section
variable {X:Cx}
theorem jkD:CallR X (.builtin "len") (fun xs H Q=>(∃p ys,xs=[.ref p] ∧ (J6 X.K H p ys ∨ SqT X.K H p ys) ∧ Q (.int ys.length) H) ∨ ∃z,xs=[.str z] ∧ z.length ≤ sizeLine ∧ Q (.int z.length) H):=call_len_seq.or jfl
theorem jm2:OpR X (binaryOp .Add) joA:=by
 intro tf s σ H x y v u Q I rx ry h;obtain ⟨l,b,xs,zs,rfl,rfl,hH,hB,hz,q⟩:=h;cases rx;cases ry;obtain ⟨z,its,n,r,e⟩:=hH.ok I.hok;obtain ⟨z2,its2,n2,r2,e2⟩:=hB.ok I.hok;have hl:=r.length;have hl2:=r2.length;refine PySem.P.add_list e e2 ?_ (by rw [YI,YI];omega);have ea:its.toArray++its2.toArray=(its++its2).toArray:=by simp
 rw [ea];exact ⟨.ref _,_,I.lnew (t':=s.toks) (r.append r2) (by rw [YQ];omega),rfl,q _ I.fresh⟩
theorem jjR (hc:X.calm=true):CallR X (.builtin "min") (fun xs H Q=>∃i j k,xs=[.int i,.int j,.int k] ∧ Q (.int (jdM i j k)) H):=by
 intro tf s σ H xs us Q I r h;obtain ⟨i,j,k,rfl,q⟩:=h;cases r with
 | cons r1 r=>
   cases r with
   | cons r2 r=>
     cases r with
     | cons r3 r=>
       cases r;obtain ⟨t1,rfl⟩:=r1;obtain ⟨t2,rfl⟩:=r2;obtain ⟨t3,rfl⟩:=r3;refine min_three_ints (I.ok.hd hc) fun h' tk kk=>⟨_,H,I.kept kk,?_,q⟩;unfold jdM;by_cases h1:j<i
       . rw [if_pos h1,if_pos h1];by_cases h2:k<j
         . rw [if_pos h2,if_pos h2];exact ⟨_,rfl⟩
         . rw [if_neg h2,if_neg h2];exact ⟨_,rfl⟩
       . rw [if_neg h1,if_neg h1];by_cases h2:k<i
         . rw [if_pos h2,if_pos h2];exact ⟨_,rfl⟩
         . rw [if_neg h2,if_neg h2];exact ⟨_,rfl⟩
end
def jil (k:Int):List Int->List Int
 | []=>[k]
 | x::l=>if k<=x then k::x::l else x::jil k l
def Zn (l:List Int):List Int:=l.foldr jil []
theorem jb2 (k:Int):∀l:List Int,(jil k l).Perm (k::l)
 | []=>.refl _
 | x::l=>by
   unfold jil;split
   . exact .refl _
   . exact ((jb2 k l).cons x).trans (.swap k x l)
theorem Q3:∀l:List Int,(Zn l).Perm l
 | []=>.refl _
 | x::l=>(jb2 x (Zn l)).trans ((Q3 l).cons x)
theorem jcp {k:Int}:∀{l:List Int},l.Pairwise (· <= ·)->(jil k l).Pairwise (· <= ·)
 | [],_=>by simp [jil]
 | x::l,h=>by
   have h':=YD.mp h;unfold jil;split
   . rename_i hk;refine YD.mpr ⟨fun y hy=>?_,h⟩;rcases Yr.mp hy with rfl | hy
     . exact hk
     . exact KN hk (h'.1 y hy)
   . rename_i hk;refine YD.mpr ⟨fun y hy=>?_,jcp h'.2⟩;rcases Yr.mp ((jb2 k l).mem_iff.mp hy) with rfl | hy
     . omega
     . exact h'.1 y hy
theorem J2:∀l:List Int,(Zn l).Pairwise (· <= ·)
 | []=>by simp [Zn]
 | x::l=>jcp (J2 l)
theorem jd0:∀{l m:List Int},l.Pairwise (· <= ·)->m.Pairwise (· <= ·)->l.Perm m->l=m
 | [],m,_,_,h=>(List.nil_perm.mp h).symm ▸ rfl
 | x::l,[],_,_,h=>absurd h.length_eq (by simp)
 | x::l,y::m,h1,h2,h=>by
   have p1:=YD.mp h1;have p2:=YD.mp h2;have e:x=y:=by
     rcases Yr.mp (h.mem_iff.mp Yf) with z | z
     . exact z
     . rcases Yr.mp (h.mem_iff.mpr Yf) with z' | z'
       . exact z'.symm
       . have:=p2.1 x z;have:=p1.1 y z';omega
   subst e;rw [jd0 p1.2 p2.2 ((List.perm_cons x).mp h)]
theorem jmP {l m:List Int} (h:m.Perm l) (hs:m.Pairwise (· <= ·)):m=Zn l:=jd0 hs (J2 l) (h.trans (Q3 l).symm)
section
variable {X:Cx}
theorem jif (hc:X.calm=true):CallR X (.builtin "sorted") (fun xs H Q=>∃(p:Addr) (ns:List Int),xs=[.ref p] ∧ J6 X.K H p (ns.map V.int) ∧ ns.length<64 ∧ ∀l,H l=none → Q (.ref l) (upd H l (.lst ((Zn ns).map V.int)))):=by
 intro tf s σ H xs us Q I r h;obtain ⟨p,ns,rfl,hq,hl,q⟩:=h;obtain ⟨u,rfl,rx⟩:=Vals.one r;cases rx;obtain ⟨its,rv,pl,hz⟩:=I.list hq;have hi:IntsAre its ns:=Zk rv;have tL:its.length=ns.length:=by have:=rv.length;rw [Yd] at this;exact this.symm
 refine sorted_ints pl.isList hi (by omega) fun out ks q1 q2 q3=>?_;have ek:ks=Zn ns:=jmP q2 q3;subst ek;have hn:H (s.heap.objs.size+1)=none:=I.hok.fresh (K9 _);obtain ⟨e,he⟩:=sortedAll_at s.heap its out;refine ⟨.ref (s.heap.objs.size+1),upd H (s.heap.objs.size+1) (.lst ((Zn ns).map V.int)),?_,rfl,q _ hn⟩;refine I.laid (t':=s.toks) (fun b o e=>sortedAll_old e) (K9 _) ⟨?_,out.toList,e,jch q1,by simpa using he⟩;have:=(Q3 ns).length_eq;rw [Yd];exact Y5 (by omega:(Zn ns).length<=64) (by decide)
end
section
variable [Fr]
def jhd:List D->Option (List D)
 | [.lst l]=>(ZW l).bind fun ns=>if ns.length<64 then some ((Zn ns).map .int) else none
 | _=>none
theorem jpj:jgZ (fun xs H Q=>∃(p:Addr) (ns:List Int),xs=[.ref p]/\J6 Fr.K H p (ns.map V.int)/\ns.length<64/\∀l,H l=none->Q (.ref l) (upd H l (.lst ((Zn ns).map V.int)))) jhd:=fun G H xs ds es Q s rr q k=>by
 unfold jhd at q;split at q
 . obtain ⟨ns,q1,q2⟩:=bind_some q;split at q2
   . rename_i hz;cases q2;obtain ⟨v,rfl,r⟩:=rr.one;obtain ⟨_,_,rfl,h,r⟩:=r.of_lst;rw [Qz q1] at r;rw [r.ints] at h;exact ⟨_,ns,rfl,.inl h,hz,fun l hl=>k l _ G _ (.new s hl) hl (s.free hl) jE (Reps.of_ints _)⟩
   . cases q2
 . cases q
def jhn (fs:ef->Option (List D)):ef->Option (List D):=fun ρ=>match fs ρ with
 | some [.lst l]=>(ZW l).bind fun ns=>if ns.length<64 then some ((srt ns).map .int) else none
 | _=>none
theorem jq0 {X:Cx} {As:TA} {fs:ef->Option (List D)} (ha:jcb As fs):EOkO (tCB (fun xs H Q=>∃(a:Addr) (ns:List Int),xs=[.ref a]/\H a=some (jfe X a ns)/\ns.length<64 /\
 ∀(l:Addr) (ks:List Int),H l=none->ks.Pairwise (· < ·)->(∀k,k∈ks ↔ k∈ns)->ks.length<=ns.length->Q (.ref l) (upd H l (.lst (ks.map V.int))))
 (jdf (tCB (fun xs H Q=>∃(p:Addr) (ns:List Int),xs=[.ref p]/\J6 Fr.K H p (ns.map V.int)/\ns.length<64/\∀a,H a=none->Q (.ref a) (upd H a (jfe X a ns))) As) jks)) (jhn fs):=fun G0 H0 G H σ ρ Q es e q k=>by
 unfold jhn at q;split at q
 . rename_i l z;obtain ⟨ns,q1,q2⟩:=bind_some q;split at q2
   . rename_i hz;cases q2;refine ha _ _ _ _ _ _ _ _ e z fun vs G1 H1 x1 rr=>?_;obtain ⟨v,rfl,r⟩:=rr.one;obtain ⟨_,_,rfl,h,r⟩:=r.of_lst;rw [Qz q1] at r;rw [r.ints] at h;refine ⟨_,ns,rfl,.inl h,hz,fun a ha'=>?_⟩;have x2:Ext G1 H1 G1 (upd H1 a (jfe X a ns)):=.new x1.gh ha';refine ⟨a,ns,rfl,jE,hz,fun l ks hl hp hm hn=>?_⟩;have ek:ks=srt ns:=ja8 hp Zm fun j=>by rw [hm j,jc5]
     subst ek;exact k l _ G1 _ ((x1.trans x2).trans (.new x2.gh hl)) ((x1.trans x2).hh.free hl) (x2.gh.free hl) jE (Reps.of_ints _)
   . cases q2
 . cases q
def okT (T:String):Bool:=T == "int" || T == "bool" || T == "str" || T == "list" || T == "tuple"
theorem jnq {G H:Hp} {x:V} {d:D} {T:String} {b:Bool} (r:RepT G H x d) (q:Zs T d=some b) (hT:okT T=true):IsT Fr.K H x T b:=by
 have hT':T = "int" ∨ T="bool" ∨ T="str" ∨ T="list" ∨ T="tuple":=by simpa [okT,or_assoc] using hT
 cases r with
 | int i=>rcases hT' with rfl | rfl | rfl | rfl | rfl <;> (simp [Zs] at q;subst q;exact ⟨_,.int i,by rfl⟩)
 | bl i=>rcases hT' with rfl | rfl | rfl | rfl | rfl <;> (simp [Zs] at q;subst q;exact ⟨_,.bl i,by rfl⟩)
 | non=>rcases hT' with rfl | rfl | rfl | rfl | rfl <;> (simp [Zs] at q;subst q;exact ⟨_,.non,by rfl⟩)
 | str i=>rcases hT' with rfl | rfl | rfl | rfl | rfl <;> (simp [Zs] at q;subst q;exact ⟨_,.str i,by rfl⟩)
 | lst h r=>
   rcases h with h | ⟨o,h⟩
   . rcases hT' with rfl | rfl | rfl | rfl | rfl <;> (simp [Zs] at q;subst q;exact ⟨_,.lst h,by rfl⟩)
   . rcases hT' with rfl | rfl | rfl | rfl | rfl <;> (simp [Zs] at q;subst q;exact ⟨_,.frz h,by rfl⟩)
 | tup h r=>rcases hT' with rfl | rfl | rfl | rfl | rfl <;> (simp [Zs] at q;subst q;exact ⟨_,.tup h,by rfl⟩)
 | scr h=>cases q
 | dic h hl r=>cases q
theorem jsw {T:String} {ta:TE} {fa:ef->Option D} (ha:JA ta fa) (hT:okT T=true):EOk (tCB (fun xs H Q=>∃x T b,xs=[x,.ty T]/\IsT Fr.K H x T b/\Q (.bl b) H) (jdf ta (jdf (tC (.ty T)) jks))) (jev T fa):=fun G0 H0 G H σ ρ Q d e q k=>by obtain ⟨dx,q1,q2⟩:=bind_some q;obtain ⟨b,q4,q3⟩:=map_some q2;subst q3;exact ha _ _ _ _ _ _ _ _ e q1 fun v G' H' x r=>⟨v,T,b,rfl,jnq r q4 hT,k _ G' H' x (.bl _)⟩
end
section
variable [Fr]
theorem jg0 {v:V} (f:jgv v=true):eqV v v=true:=by cases v <;> first | rfl | exact absurd f Yh | simp [eqV]
theorem jab {x y:D} {b:Bool} (h:eqB x y=some b):Jf x=true/\Jf y=true/\b=eqV (vOf x) (vOf y):=by
 unfold eqB at h;by_cases f1:Jf x=true
 . by_cases f2:Jf y=true
   . rw [if_pos f1,if_pos f2] at h;exact ⟨f1,f2,(Option.some.inj h).symm⟩
   . rw [if_pos f1,if_neg f2] at h;exact qr h
 . rw [if_neg f1] at h;exact qr h
theorem jcX {n:Nat} {dx dy:D} {b:Bool} (h:eqF (n+1) dx dy=some b):(∃l m,dx=.lst l/\dy=.lst m/\(if l.length=m.length then jd6 (eqF n) l m else some false)=some b)\/(∃l m,dx=.tup l/\dy=.tup m/\(jd6 (eqF n) l m).map (· && l.length == m.length)=some b)\/eqB dx dy=some b:=by
 cases dx with
 | lst l=>
   cases dy with
   | lst m=>exact .inl ⟨l,m,rfl,rfl,h⟩
   | _=>exact qr h
 | tup l=>
   cases dy with
   | tup m=>exact .inr (.inl ⟨l,m,rfl,rfl,h⟩)
   | _=>exact qr h
 | _=>exact .inr (.inr h)
theorem jbu {f:D->D->Option Bool}:∀{l m:List D} {b:Bool},jd6 f l m=some b->∃e:Nat->Bool,(∀(j:Nat) x y,l[j]?=some x->m[j]?=some y->f x y=some (e j))/\(List.range (min l.length m.length)).all e=b:=by
 intro l;induction l with
 | nil=>intro m b h;cases h;exact ⟨fun _=>true,fun j x y h1 _=>(by rw [Kz] at h1;cases h1),by rw [Y3,Nat.zero_min];rfl⟩
 | cons x l ih=>
   intro m b h;cases m with
   | nil=>cases h;exact ⟨fun _=>true,fun j x y _ h2=>(by rw [Kz] at h2;cases h2),by rw [Y3,Nat.min_zero];rfl⟩
   | cons y m=>
     obtain ⟨c,h1,h2⟩:=bind_some h;obtain ⟨c',h3,h4⟩:=map_some h2;obtain ⟨e,he,hb⟩:=ih h3;refine ⟨fun j=>Nat.casesOn j c e,fun j u v g1 g2=>?_,?_⟩
     . cases j with
       | zero=>cases g1;cases g2;exact h1
       | succ j=>exact he j u v g1 g2
     . rw [<-h4,<- hb];simp only [YH,Nat.add_min_add_right,KW,List.all_cons,List.all_map];rfl
end
section
variable {X:Cx} {tf:List (Addr×Obj)} {σ:St} {H G:Hp} {s:Shared}
theorem jjc [Fr] (hK:Fr.K=X.K) (I:Inv X tf σ H s) (sg:Same G H):∀(n:Nat) {v:V} {dx dy:D} {b:Bool},Rep G v dx->Rep G v dy->eqF n dx dy=some b->b=true:=by
 intro n;induction n with
 | zero=>intro v dx dy b rx ry h;obtain ⟨f1,f2,rfl⟩:=jab (show eqB dx dy=some b from h);rw [<-rx.v f1,<- ry.v f2];exact jg0 (by rw [rx.v f1];exact jbp f1)
 | succ n ih=>
   have zz:∀{vs:List V} {l m:List D} {b:Bool},Reps G vs l->Reps G vs m->jd6 (eqF n) l m=some b->b=true:=by
    intro vs;induction vs with
    | nil=>intro l m b r1 r2 h;cases r1;cases r2;cases h;rfl
    | cons v vs ihv=>
      intro l m b r1 r2 h;cases r1 with
      | cons a1 t1=>
        cases r2 with
        | cons a2 t2=>obtain ⟨c,h1,h2⟩:=bind_some h;obtain ⟨c',h3,h4⟩:=map_some h2;rw [ih a1 a2 h1,ihv t1 t2 h3] at h4;exact h4.symm
   intro v dx dy b rx ry h;rcases jcX h with ⟨l,m,rfl,rfl,q⟩ | ⟨l,m,rfl,rfl,q⟩ | q
   . obtain ⟨_,_,rfl,h1,r1⟩:=rx.of_lst;obtain ⟨_,_,e0,h2,r2⟩:=ry.of_lst;cases e0;have e:=I.list_inj (.inl (h1.same sg)) (.inl (h2.same sg));subst e;rw [if_pos (show l.length=m.length by rw [<-r1.length,<- r2.length])] at q;exact zz r1 r2 q
   . obtain ⟨_,_,rfl,h1,r1⟩:=rx.of_tup;obtain ⟨_,_,e0,h2,r2⟩:=ry.of_tup;cases e0;rw [h1] at h2;cases h2;have hl:l.length=m.length:=by rw [<-r1.length,<- r2.length]
     obtain ⟨c,h3,h4⟩:=map_some q;rw [zz r1 r2 h3,hl] at h4;simpa using h4.symm
   . obtain ⟨f1,f2,rfl⟩:=jab q;rw [<-rx.v f1,<- ry.v f2];exact jg0 (by rw [rx.v f1];exact jbp f1)
theorem jjv [Fr] {x y:V} {dx dy:D} {b:Bool} {u v:Value} {A:Around} (rx:Rep G x dx) (ry:Rep G y dy) (h:eqB dx dy=some b) (ru:RelV x u) (rv:RelV y v):SeqAt.EqAt A s u v b:=by obtain ⟨f1,f2,rfl⟩:=jab h;rw [<-rx.v f1,<- ry.v f2];exact jfU ru rv (by rw [rx.v f1];exact jbp f1) (by rw [ry.v f2];exact jbp f2)
theorem jbH [Fr] {vs us:List V} {l m:List D} {i1 i2:List Value} {e:Nat->Bool} {A:Around} {n:Nat} (r1:Reps G vs l) (r2:Reps G us m) (v1:Vals vs i1) (v2:Vals us i2)
 (he:∀(j:Nat) x y,l[j]?=some x->m[j]?=some y->eqF n x y=some (e j))
 (ih:∀{x y:V} {dx dy:D} {b:Bool} {u v:Value},Rep G x dx->Rep G y dy->eqF n dx dy=some b->RelV x u->RelV y v->SeqAt.EqAt A s u v b) :
 ∀j (h1:j<i1.toArray.size) (h2:j<i2.toArray.size),SeqAt.EqAt A s i1.toArray[j] i2.toArray[j] (e j):=fun j h1 h2=>by
 have l1:=v1.length;have l2:=v2.length;have hj1:j<vs.length:=by simp at h1;omega
 have hj2:j<us.length:=by simp at h2;omega
 obtain ⟨u1,g1,g2⟩:=v1.get (Ya hj1);obtain ⟨u2,g3,g4⟩:=v2.get (Ya hj2);obtain ⟨d1,k1,k2⟩:=r1.getV (Ya hj1);obtain ⟨d2,k3,k4⟩:=r2.getV (Ya hj2);have e1:i1.toArray[j]=u1:=by have:=Yo.mp g1;simpa using this.2
 have e2:i2.toArray[j]=u2:=by have:=Yo.mp g3;simpa using this.2
 rw [e1,e2];exact ih k2 k4 (he j _ _ k1 k3) g2 g4
theorem jhj [Fr] (hK:Fr.K=X.K) (I:Inv X tf σ H s) {a c:Addr} {vs us:List V} {l m:List D} {b:Bool} {n:Nat} {A:Around} (h1:Rd H a (.lst vs)) (h2:Rd H c (.lst us)) (r1:Reps G vs l) (r2:Reps G us m) (h:(if l.length=m.length then jd6 (eqF n) l m else some false)=some b) (hu:A.units<cLine)
 (ih:∀{x y:V} {dx dy:D} {b:Bool} {u v:Value},Rep G x dx->Rep G y dy->eqF n dx dy=some b->RelV x u->RelV y v->SeqAt.EqAt A.in1 s u v b):SeqAt.RcAt A s (.ref a) (.ref c) b:=by
 obtain ⟨i1,v1,p1,_⟩:=I.list (.inl h1);obtain ⟨i2,v2,p2,_⟩:=I.list (.inl h2);have l1:=v1.length;have l2:=v2.length;have k1:=r1.length;have k2:=r2.length;split at h
 . rename_i hl;obtain ⟨e,he,hb⟩:=jbu h;have hb':(List.range i1.toArray.size).all e=b:=by rw [<-hb,<- hl,kl,YI,<- l1,k1]
   rw [<-hb'];exact SeqAt.RcAt.lists p1.isList p2.isList (by simp;omega) hu (jbH r1 r2 v1 v2 he ih)
 . rename_i hl;cases h;exact SeqAt.RcAt.lists_lengths p1.isList p2.isList (by simp;omega) hu
theorem ji9 [Fr] (hK:Fr.K=X.K) (I:Inv X tf σ H s) {a c:Addr} {vs us:List V} {l m:List D} {b:Bool} {n:Nat} {A:Around} (h1:H a=some (.tup vs)) (h2:H c=some (.tup us)) (r1:Reps G vs l) (r2:Reps G us m) (h:(jd6 (eqF n) l m).map (· && l.length == m.length)=some b) (hu:A.units<cLine)
 (ih:∀{x y:V} {dx dy:D} {b:Bool} {u v:Value},Rep G x dx->Rep G y dy->eqF n dx dy=some b->RelV x u->RelV y v->SeqAt.EqAt A.in1 s u v b):SeqAt.RcAt A s (.ref a) (.ref c) b:=by
 obtain ⟨i1,v1,p1,_⟩:=I.tuple (SqT.of h1);obtain ⟨i2,v2,p2,_⟩:=I.tuple (SqT.of h2);have l1:=v1.length;have l2:=v2.length;have k1:=r1.length;have k2:=r2.length;obtain ⟨c,h3,h4⟩:=map_some h;obtain ⟨e,he,hb⟩:=jbu h3;have q1:i1.toArray.size=l.length:=by simp;omega
 have q2:i2.toArray.size=m.length:=by simp;omega
 have hb':‹"aO"›=b:=by rw [q1,q2,hb];exact h4
 rw [<-hb'];exact SeqAt.RcAt.tuples (show s.heap.IsTuple a i1.toArray from p1) (show s.heap.IsTuple _ i2.toArray from p2) hu (jbH r1 r2 v1 v2 he ih)
theorem joz [Fr] (hK:Fr.K=X.K) (I:Inv X tf σ H s) (sg:Same G H):∀(n:Nat) {x y:V} {dx dy:D} {b:Bool} {u v:Value} {A:Around},Rep G x dx->Rep G y dy->eqF n dx dy=some b->RelV x u->RelV y v->A.units+n<cLine->SeqAt.EqAt A s u v b:=by
 intro n;induction n with
 | zero=>intro x y dx dy b u v A rx ry h ru rv _;exact jjv rx ry (show eqB dx dy=some b from h) ru rv
 | succ n ih=>
   intro x y dx dy b u v A rx ry h ru rv hu;have hu1:A.units<cLine:=by omega
   have ih':∀{x y:V} {dx dy:D} {b:Bool} {u v:Value},Rep G x dx->Rep G y dy->eqF n dx dy=some b->RelV x u->RelV y v->SeqAt.EqAt A.in1 s u v b:=fun r1 r2 h ru rv=>ih r1 r2 h ru rv (by show A.units+1+n<cLine;omega);rcases jcX h with ⟨l,m,rfl,rfl,q⟩ | ⟨l,m,rfl,rfl,q⟩ | q
   . cases rx with
     | @lst a vs _ h1 r1=>
       cases ry with
       | @lst c us _ h2 r2=>
         cases ru;cases rv;by_cases hac:a=c
         . subst hac;rw [jjc hK I sg (n+1) (.lst h1 r1) (.lst h2 r2) h];exact SeqAt.EqAt.same _
         . exact SeqAt.EqAt.of_refs hac (jhj hK I (h1.same sg) (h2.same sg) r1 r2 q hu1 ih')
   . cases rx with
     | @tup a vs _ h1 r1=>
       cases ry with
       | @tup c us _ h2 r2=>
         cases ru;cases rv;by_cases hac:a=c
         . subst hac;rw [jjc hK I sg (n+1) (.tup h1 r1) (.tup h2 r2) h];exact SeqAt.EqAt.same _
         . exact SeqAt.EqAt.of_refs hac (ji9 hK I (sg _ _ h1) (sg _ _ h2) r1 r2 q hu1 ih')
   . exact jjv rx ry q ru rv
end
section
variable {X:Cx}
theorem jpT [Fr] (hK:Fr.K=X.K) {tf:List (Addr×Obj)} {σ:St} {H G:Hp} {s:Shared} (hu:X.A.units+64<cLine) (I:Inv X tf σ H s) (sg:Same G H) {x y:V} {dx dy:D} {b:Bool} {u v:Value} (rx:RepT G H x dx) (ry:RepT G H y dy) (h:eqF 40 dx dy=some b)
 (hf:(Jf dx && Jf dy)=false) (ru:RelV x u) (rv:RelV y v):SeqAt.RcAt X.A s u v b:=by
 have ih:∀{x y:V} {dx dy:D} {b:Bool} {u v:Value},Rep G x dx->Rep G y dy->eqF 39 dx dy=some b->RelV x u->RelV y v->SeqAt.EqAt X.A.in1 s u v b:=fun r1 r2 h ru rv=>joz hK I sg 39 r1 r2 h ru rv (by show X.A.units+1+39<cLine;omega);rcases jcX (n:=39) h with ⟨l,m,rfl,rfl,q⟩ | ⟨l,m,rfl,rfl,q⟩ | q
 . obtain ⟨_,_,rfl,h1,r1⟩:=rx.of_lst;obtain ⟨_,_,rfl,h2,r2⟩:=ry.of_lst;cases ru;cases rv;exact jhj hK I h1 h2 r1 r2 q (by omega) ih
 . obtain ⟨_,_,rfl,h1,r1⟩:=rx.of_tup;obtain ⟨_,_,rfl,h2,r2⟩:=ry.of_tup;cases ru;cases rv;exact ji9 hK I h1 h2 r1 r2 q (by omega) ih
 . obtain ⟨f1,f2,_⟩:=jab q;rw [f1,f2] at hf;exact absurd hf Bool.noConfusion
theorem jj9 [Fr] (hK:Fr.K=X.K) (I:Inv X tf σ H s) {a c:Addr} {vs us:List V} {l m:List D} {b:Bool} {n:Nat} {A:Around} (h1:Rd H a (.lst vs)) (h2:Rd H c (.lst us)) (r1:Reps G vs l) (r2:Reps G us m) (h:(if l.length=m.length then jd6 (eqF n) l m else some false)=some b) (hu:A.units<cLine)
 (ih:∀{x y:V} {dx dy:D} {b:Bool} {u v:Value},Rep G x dx->Rep G y dy->eqF n dx dy=some b->RelV x u->RelV y v->SeqAt.EqAt A.in1 s u v b):SeqAt.RcNeAt A s (.ref a) (.ref c) (!b):=by
 obtain ⟨i1,v1,p1,_⟩:=I.list (.inl h1);obtain ⟨i2,v2,p2,_⟩:=I.list (.inl h2);have l1:=v1.length;have l2:=v2.length;have k1:=r1.length;have k2:=r2.length;split at h
 . rename_i hl;obtain ⟨e,he,hb⟩:=jbu h;have hb':(List.range i1.toArray.size).all e=b:=by rw [<-hb,<- hl,kl,YI,<- l1,k1]
   rw [<-hb'];exact SeqAt.RcNeAt.lists p1.isList p2.isList (by simp;omega) hu (jbH r1 r2 v1 v2 he ih)
 . rename_i hl;cases h;exact SeqAt.RcNeAt.lists_lengths p1.isList p2.isList (by simp;omega) hu
theorem jlD [Fr] (hK:Fr.K=X.K) (I:Inv X tf σ H s) {a c:Addr} {vs us:List V} {l m:List D} {b:Bool} {n:Nat} {A:Around} (h1:H a=some (.tup vs)) (h2:H c=some (.tup us)) (r1:Reps G vs l) (r2:Reps G us m) (h:(jd6 (eqF n) l m).map (· && l.length == m.length)=some b) (hu:A.units<cLine)
 (ih:∀{x y:V} {dx dy:D} {b:Bool} {u v:Value},Rep G x dx->Rep G y dy->eqF n dx dy=some b->RelV x u->RelV y v->SeqAt.EqAt A.in1 s u v b):SeqAt.RcNeAt A s (.ref a) (.ref c) (!b):=by
 obtain ⟨i1,v1,p1,_⟩:=I.tuple (SqT.of h1);obtain ⟨i2,v2,p2,_⟩:=I.tuple (SqT.of h2);have l1:=v1.length;have l2:=v2.length;have k1:=r1.length;have k2:=r2.length;obtain ⟨c,h3,h4⟩:=map_some h;obtain ⟨e,he,hb⟩:=jbu h3;have q1:i1.toArray.size=l.length:=by simp;omega
 have q2:i2.toArray.size=m.length:=by simp;omega
 have hb':‹"aO"›=b:=by rw [q1,q2,hb];exact h4
 rw [<-hb'];exact SeqAt.RcNeAt.tuples (show s.heap.IsTuple a i1.toArray from p1) (show s.heap.IsTuple _ i2.toArray from p2) hu (jbH r1 r2 v1 v2 he ih)
theorem jnV [Fr] (hK:Fr.K=X.K) {tf:List (Addr×Obj)} {σ:St} {H G:Hp} {s:Shared} (hu:X.A.units+64<cLine) (I:Inv X tf σ H s) (sg:Same G H) {x y:V} {dx dy:D} {b:Bool} {u v:Value} (rx:RepT G H x dx) (ry:RepT G H y dy) (h:eqF 40 dx dy=some b)
 (hf:(Jf dx && Jf dy)=false) (ru:RelV x u) (rv:RelV y v):SeqAt.RcNeAt X.A s u v (!b):=by
 have ih:∀{x y:V} {dx dy:D} {b:Bool} {u v:Value},Rep G x dx->Rep G y dy->eqF 39 dx dy=some b->RelV x u->RelV y v->SeqAt.EqAt X.A.in1 s u v b:=fun r1 r2 h ru rv=>joz hK I sg 39 r1 r2 h ru rv (by show X.A.units+1+39<cLine;omega);rcases jcX (n:=39) h with ⟨l,m,rfl,rfl,q⟩ | ⟨l,m,rfl,rfl,q⟩ | q
 . obtain ⟨_,_,rfl,h1,r1⟩:=rx.of_lst;obtain ⟨_,_,rfl,h2,r2⟩:=ry.of_lst;cases ru;cases rv;exact jj9 hK I h1 h2 r1 r2 q (by omega) ih
 . obtain ⟨_,_,rfl,h1,r1⟩:=rx.of_tup;obtain ⟨_,_,rfl,h2,r2⟩:=ry.of_tup;cases ru;cases rv;exact jlD hK I h1 h2 r1 r2 q (by omega) ih
 . obtain ⟨f1,f2,_⟩:=jab q;rw [f1,f2] at hf;exact absurd hf Bool.noConfusion
theorem jlU (hu:X.A.units+64<cLine):OpR X (compareOp .Eq) (@jhD ⟨X.K⟩):=by
 intro tf s σ H x y v u Q I rx ry h;obtain ⟨G,dx,dy,b,sg,r1,r2,he,q⟩:=h;unfold jfc at he;split at he
 . rename_i hf;simp only [KI] at hf;split at he
   . rename_i hs;cases he;have e1:=@RepT.v ⟨X.K⟩ _ _ _ _ r1 hf.1;have e2:=@RepT.v ⟨X.K⟩ _ _ _ _ r2 hf.2;rw [<-e1,<- e2] at q hs;exact jrE tf s σ H x y v u Q I rx ry ⟨hs,q⟩
   . cases he
 . rename_i hf;exact @jpT X ⟨X.K⟩ rfl _ _ _ _ _ hu I sg _ _ _ _ _ _ _ r1 r2 he (by simpa using hf) rx ry X.prog X.w _ _ ⟨.bl b,H,I,rfl,q⟩
theorem jkT (hu:X.A.units+64<cLine):OpR X (compareOp .NotEq) (@jhL ⟨X.K⟩):=by
 intro tf s σ H x y v u Q I rx ry h;obtain ⟨G,dx,dy,b,sg,r1,r2,he,q⟩:=h;unfold jfc at he;split at he
 . rename_i hf;simp only [KI] at hf;split at he
   . rename_i hs;cases he;have e1:=@RepT.v ⟨X.K⟩ _ _ _ _ r1 hf.1;have e2:=@RepT.v ⟨X.K⟩ _ _ _ _ r2 hf.2;rw [<-e1,<- e2] at q hs;exact jrD tf s σ H x y v u Q I rx ry ⟨hs,q⟩
   . cases he
 . rename_i hf;exact @jnV X ⟨X.K⟩ rfl _ _ _ _ _ hu I sg _ _ _ _ _ _ _ r1 r2 he (by simpa using hf) rx ry X.prog X.w _ _ ⟨.bl (!b),H,I,rfl,q⟩
end
def LcOk (sc:Scope) (N:List Str) (scope:Scope) (F:List Str) (ix:List Nat):Prop:=
 scope.kind=.function/\(∀x∈scope.names,x.2=.local->scope.names.lookup x.1=some .local)/\(∀y∈scope.names,y.2=.cell->scope.names.lookup y.1=some .cell) /\
 (∀y∈scope.names,y.2=.free->sc.names.lookup y.1=some .cell\/sc.names.lookup y.1=some .free)/\ix.length=F.length /\
 (∀p∈F.zip ix,N[p.2]?=some p.1/\(sc.names.lookup p.1=some .cell\/sc.names.lookup p.1=some .free)/\scope.names.lookup p.1=some .free)
instance (sc:Scope) (N:List Str) (scope:Scope) (F:List Str) (ix:List Nat):Decidable (LcOk sc N scope F ix):=by unfold LcOk;infer_instance
section
variable {X:Cx} {tg iter elt:Expr} {ifs:List Expr} {scope:Scope} {pos:Pos} {wi:TI} {g:TG} {tt:TT} {te:TE} {Lc F N:List Str} {ix:List Nat} {sc:Scope}
theorem LcOk.free (ok:LcOk sc N scope F ix) (hsc:X.env.scope=sc):∀n,(n,NameKind.free)∈scope.names->X.env.scope.names.lookup n=some .cell\/X.env.scope.names.lookup n=some .free:=fun n hn=>by rw [hsc];exact ok.2.2.2.1 (n,.free) hn rfl
theorem LcOk.capt (ok:LcOk sc N scope F ix) (hsc:X.env.scope=sc) (hN:X.N=N):∀(j:Nat) (x:Str) (k:Nat),F[j]?=some x->ix[j]?=some k->X.N[k]?=some x/\(X.env.scope.names.lookup x=some .cell\/X.env.scope.names.lookup x=some .free)/\scope.names.lookup x=some .free:=fun j x k h1 h2=>by rw [hsc,hN];exact ok.2.2.2.2.2 (x,k) (YF (i:=j) (YT.mpr ⟨h1,h2⟩))
theorem jpK (hsc:X.env.scope=sc) (hN:X.N=N) (hc:X.calm=true) (ok:LcOk sc N scope F ix)
 (hi:PI X tg iter wi) (hg:∀C s H fp,PG ‹"e"› tg g) (hloc:jim Lc.length g) (ht:∀C s H fp,PTs ‹"e"› ifs tt) (he:∀C s H fp,PE ‹"e"› elt te)
 (hs:∀x,foldedSetIterable iter X.env x=pure x:=by intro _;rfl):PE X ‹"r"› (tLC wi g tt te Lc.length ix):=
 jrl hc ok.1 ok.2.1 ok.2.2.1 (ok.free hsc) ok.2.2.2.2.1 (ok.capt hsc hN) hi hg hloc ht he hs
theorem jdx {i:Nat} {y:Str} {py spos:Pos} (hNd:X.N.Nodup) (hy:X.N[i]?=some y) (hyl:X.env.scope.names.lookup y=some .local) (hsc:X.env.scope=sc) (hN:X.N=N) (hc:X.calm=true) (ok:LcOk sc N scope F ix)
 (hi:PI X tg iter wi) (hg:∀C s H fp,PG ‹"e"› tg g) (hloc:jim Lc.length g) (ht:∀C s H fp,PTs ‹"e"› ifs tt) (he:∀C s H fp,PE ‹"e"› elt te)
 (hsw:swapsWith ‹"r"› (some (.Name y py)) spos.line X.env=pure true)
 (hs:∀x,foldedSetIterable iter X.env x=pure x:=by intro _;rfl):PS X (.Assign [.Name y py] ‹"r"› spos) (jeB (tLC wi g tt te Lc.length ix) (jaG i)):=
 jkG hNd hy hyl hc ok.1 ok.2.1 ok.2.2.1 (ok.free hsc) ok.2.2.2.2.1 (ok.capt hsc hN) hi hg hloc ht he hsw hs
end
end L2
namespace L2
open PySem PySem.Spec PyProof.Rows
section
variable {i j:Int} {F F':FS} {ρ ρ':ef} {r:Res}
theorem Zd (h:F ρ=.next ρ') (h':F' ρ'=r):jA F F' ρ=r:=by unfold jA;rw [h];exact h'
theorem j1:qL (.int i) (.int j)=some (.int (i+j)):=rfl
theorem qy:zp (.int i) (.int j)=some (.int (i-j)):=rfl
theorem Qx (h1:-18446744073709551616<i) (h2:i<18446744073709551616):qS (.int i) (.int j)=some (.int (i*j)):=by unfold qS dI;simp only;rw [if_pos];exact .inl (.inl ⟨by omega,by omega⟩)
theorem JD (h1:-18446744073709551616<j) (h2:j<18446744073709551616):qS (.int i) (.int j)=some (.int (i*j)):=by unfold qS dI;simp only;rw [if_pos];exact .inl (.inr ⟨by omega,by omega⟩)
theorem zc (h1:0<j) (h2:j<1606938044258990275541962092341162602522202993782792835301376):J4 (.int i) (.int j)=some (.int (i/j)):=by unfold J4 dI;simp only;rw [if_pos];exact ⟨h1,by show j<2 ^ 200;omega⟩
theorem j5 (h1:0<j):qK (.int i) (.int j)=some (.int (i%j)):=by unfold qK dI;simp only;rw [if_pos];exact h1
theorem jbT (h:jeC i j):jaz (.int i) (.int j)=some (.int (i ^ j.toNat)):=by unfold jaz dI;simp only;rw [if_pos h]
theorem ji6:jaz (.int 10) (.int 5)=some (.int 100000):=by rw [jbT (by unfold jeC;omega)];rfl
theorem jmD:jaz (.int 10) (.int 9)=some (.int 1000000000):=by rw [jbT (by unfold jeC;omega)];rfl
theorem jlA:jaz (.int 10) (.int 14)=some (.int 100000000000000):=by rw [jbT (by unfold jeC;omega)];rfl
theorem jhY:jaz (.int 10) (.int 15)=some (.int 1000000000000000):=by rw [jbT (by unfold jeC;omega)];rfl
theorem jlw:jaz (.int 10) (.int 16)=some (.int 10000000000000000):=by rw [jbT (by unfold jeC;omega)];rfl
theorem QC:dLt (.int i) (.int j)=some (.bl (decide (i<j))):=rfl
theorem jce:dLe (.int i) (.int j)=some (.bl (decide (i<=j))):=rfl
theorem jd1:dGt (.int i) (.int j)=some (.bl (decide (j<i))):=rfl
theorem jdt:dGe (.int i) (.int j)=some (.bl (decide (j<=i))):=rfl
theorem jlt:decide (V.int i=V.int j)=decide (i=j):=by
 by_cases q:i=j
 . subst q;simp
 . have:¬V.int i=V.int j:=fun z=>q (by injection z);simp [q,this]
theorem jnX:dEq (.int i) (.int j)=some (.bl (decide (i=j))):=by show some (D.bl (decide (V.int i=V.int j)))=_;rw [jlt]
theorem jqg:dNe (.int i) (.int j)=some (.bl (!decide (i=j))):=by show some (D.bl (!decide (V.int i=V.int j)))=_;rw [jlt]
theorem jqF {a b:Bool}:dEq (.bl a) (.bl b)=some (.bl (decide (a=b))):=by cases a <;> cases b <;> rfl
theorem jsD {a b:Bool}:dNe (.bl a) (.bl b)=some (.bl (!decide (a=b))):=by cases a <;> cases b <;> rfl
theorem jrZ {ds:List D} {i:Int} (h0:0<=i) (h1:i<ds.length):∃m,m∈ds/\jO (.lst ds) (.int i)=some m:=by
 have hi:i.toNat<ds.length:=by omega
 refine ⟨ds[i.toNat],KH hi,?_⟩;show atI ds i=_;unfold atI ixN;rw [if_pos h0,if_pos h1];simp [hi]
theorem jb5 {ds:List D} {i:Int} {d:D} (h0:0<=i) (h:ds[i.toNat]?=some d):jO (.lst ds) (.int i)=some d:=by have hi:i.toNat<ds.length:=(Yo.mp h).1;show atI ds i=_;unfold atI ixN;rw [if_pos h0,if_pos (by omega)];simpa using h
theorem j6 {n:Nat} (h:n<16777216):Jm n=true:=YU h
theorem jcK {i:Int}:Zs "int" (.int i)=some true:=by rfl
theorem jej {b:Bool}:Zs "int" (.bl b)=some true:=by rfl
theorem jcD  : Zs "int" .non=some false:=by rfl
theorem jcy {z:Str}:Zs "int" (.str z)=some false:=by rfl
theorem jcB {l:List D}:Zs "int" (.lst l)=some false:=by rfl
theorem jct {l:List D}:Zs "int" (.tup l)=some false:=by rfl
theorem jbr {i:Int}:Zs "bool" (.int i)=some false:=by rfl
theorem jcx {b:Bool}:Zs "bool" (.bl b)=some true:=by rfl
theorem jbg  : Zs "bool" .non=some false:=by rfl
theorem jbf {z:Str}:Zs "bool" (.str z)=some false:=by rfl
theorem jbI {l:List D}:Zs "bool" (.lst l)=some false:=by rfl
theorem jbz {l:List D}:Zs "bool" (.tup l)=some false:=by rfl
theorem jcE {i:Int}:Zs "str" (.int i)=some false:=by rfl
theorem jdz {b:Bool}:Zs "str" (.bl b)=some false:=by rfl
theorem jcj  : Zs "str" .non=some false:=by rfl
theorem jcw {z:Str}:Zs "str" (.str z)=some true:=by rfl
theorem jci {l:List D}:Zs "str" (.lst l)=some false:=by rfl
theorem jcG {l:List D}:Zs "str" (.tup l)=some false:=by rfl
theorem jbs {i:Int}:Zs "list" (.int i)=some false:=by rfl
theorem jcI {b:Bool}:Zs "list" (.bl b)=some false:=by rfl
theorem jbj  : Zs "list" .non=some false:=by rfl
theorem jbm {z:Str}:Zs "list" (.str z)=some false:=by rfl
theorem jbE {l:List D}:Zs "list" (.lst l)=some true:=by rfl
theorem jbC {l:List D}:Zs "list" (.tup l)=some false:=by rfl
theorem jaE {i:Int}:Zs "tuple" (.int i)=some false:=by rfl
theorem jbP {b:Bool}:Zs "tuple" (.bl b)=some false:=by rfl
theorem jaS  : Zs "tuple" .non=some false:=by rfl
theorem jaJ {z:Str}:Zs "tuple" (.str z)=some false:=by rfl
theorem jaL {l:List D}:Zs "tuple" (.lst l)=some false:=by rfl
theorem jaN {l:List D}:Zs "tuple" (.tup l)=some true:=by rfl
theorem JQ {a:D} {l:List D}:jO (.tup (a::l)) (.int 0)=some a:=by show atI (a::l) 0=_;unfold atI ixN;rw [if_pos (by decide),if_pos (by simp only [YH];omega)];rfl
theorem JI {a b:D} {l:List D}:jO (.tup (a::b::l)) (.int 1)=some b:=by show atI (a::b::l) 1=_;unfold atI ixN;rw [if_pos (by decide),if_pos (by simp only [YH];omega)];rfl
theorem ZR {a b c:D} {l:List D}:jO (.tup (a::b::c::l)) (.int 2)=some c:=by show atI (a::b::c::l) 2=_;unfold atI ixN;rw [if_pos (by decide),if_pos (by simp only [YH];omega)];rfl
theorem jb9 {a b c d:D} {l:List D}:jO (.tup (a::b::c::d::l)) (.int 3)=some d:=by show atI (a::b::c::d::l) 3=_;unfold atI ixN;rw [if_pos (by decide),if_pos (by simp only [YH];omega)];rfl
theorem jfA {a:D} {l:List D}:jO (.lst (a::l)) (.int 0)=some a:=by show atI (a::l) 0=_;unfold atI ixN;rw [if_pos (by decide),if_pos (by simp only [YH];omega)];rfl
theorem jl2 {a b:D} {l:List D}:jO (.lst (a::b::l)) (.int 1)=some b:=by show atI (a::b::l) 1=_;unfold atI ixN;rw [if_pos (by decide),if_pos (by simp only [YH];omega)];rfl
theorem jkV {a b c:D} {l:List D}:jO (.lst (a::b::c::l)) (.int 2)=some c:=by show atI (a::b::c::l) 2=_;unfold atI ixN;rw [if_pos (by decide),if_pos (by simp only [YH];omega)];rfl
theorem jkW {a b c d:D} {l:List D}:jO (.lst (a::b::c::d::l)) (.int 3)=some d:=by show atI (a::b::c::d::l) 3=_;unfold atI ixN;rw [if_pos (by decide),if_pos (by simp only [YH];omega)];rfl
end
end L2
namespace L2
open PySem PySem.Spec PyProof.Rows
structure Fm where
 ι:Type
 X:ι->Cx
 K:PySem.W.Frag
 N:List Str
 hK:∀i,(X i).K=K
 hN:∀i,(X i).N=N
 calm:∀i,(X i).calm=true
abbrev Fm.fr (M:Fm):Fr:=⟨M.K⟩
structure WE (M:Fm) (e:Expr) (f:ef->Option D):Prop where
 h:∃t,(∀i,PE (M.X i) e t)/\@EOk M.fr t f
structure WT (M:Fm) (e:Expr) (f:ef->Option D):Prop where
 h:∃t,(∀i,PE (M.X i) e t)/\@JA M.fr t f
structure WO (M:Fm) (e:Expr) (f:ef->Option (List D)):Prop where
 h:∃t,(∀i,PE (M.X i) e t)/\@EOkO M.fr t f
structure WC (M:Fm) (e:Expr) (f:ef->Option Bool):Prop where
 h:∃t,(∀i,PT (M.X i) e t)/\@TOk M.fr t f
structure WW (M:Fm) (e:Expr) (f:ef->Option Bool):Prop where
 h:∃t,(∀i,PW (M.X i) e t)/\@TOk M.fr t f
structure WTs (M:Fm) (e:List Expr) (f:ef->Option Bool):Prop where
 h:∃t,(∀i,PTs (M.X i) e t)/\@TOk M.fr t f
structure WA (M:Fm) (e:List Expr) (f:ef->Option (List D)):Prop where
 h:∃t,(∀i,PA (M.X i) e t)/\@AOk M.fr t f
structure WAT (M:Fm) (e:List Expr) (f:ef->Option (List D)):Prop where
 h:∃t,(∀i,PA (M.X i) e t)/\@jcb M.fr t f
structure WP (M:Fm) (e:Option Expr) (f:ef->Option (Option Int)):Prop where
 h:∃t,(∀i,PO (M.X i) e t)/\@POk M.fr t f
structure WI (M:Fm) (tg e:Expr) (f:ef->Option (List D)):Prop where
 h:∃t,(∀i,PI (M.X i) tg e t)/\@IOk M.fr t f
structure WIT (M:Fm) (tg e:Expr) (f:ef->Option (List D)):Prop where
 h:∃t,(∀i,PI (M.X i) tg e t)/\@jkj M.fr t f
structure WG (M:Fm) (tg:Expr) (m:D->ef->Option ef):Prop where
 h:∃t,(∀i,PG (M.X i) tg t)/\@GOk M.fr t m
structure WGs (M:Fm) (tg:List Expr) (m:List D->ef->Option ef):Prop where
 h:∃t,(∀i,PGs (M.X i) tg t)/\@jj1 M.fr t m
structure WL (M:Fm) (n:Nat) (tg:Expr) (m:D->ef->Option ef):Prop where
 h:∃t,(∀i,PG (M.X i) tg t)/\@GOk M.fr t m/\jim n t
structure WS (M:Fm) (st:Stmt) (F:FS):Prop where
 h:∃t,(∀i,PS (M.X i) st t)/\@SOk M.fr t F
structure WSs (M:Fm) (st:List Stmt) (F:FS):Prop where
 h:∃t,(∀i,PSs (M.X i) st t)/\@SOk M.fr t F
def qu:Expr->Bool
 | .Starred _ _=>true
 | _=>false
theorem qB {e:Expr} {es:List Expr} {env:PySem.Env} (h:qu e=false):starEach (e::es) env=(false,eval e env)::starEach es env:=by cases e <;> first | rfl | cases h
theorem J8 {pos:Pos} {env:PySem.Env}:∀{es:List Expr},(es.all fun e=>!qu e)=true->(backTo pos (starEach es env)).any (·.1)=false
 | [],_=>rfl
 | e::es,h=>by simp only [List.all_cons,KI,Bool.not_eq_true'] at h;rw [qB h.1];show (false || (backTo pos (starEach es env)).any (·.1))=false;rw [J8 h.2];rfl
section
variable {M:Fm} {a b c e o:Expr} {es:List Expr} {fa fb fc fe:ef->Option D} {fo:ef->Option (List D)} {fs:ef->Option (List D)} {ga gb:ef->Option Bool} {pos p apos cpos:Pos} {x:Str}
theorem WO.toE (h:WO M e fo):WE M e (jH fo):=let ⟨t,h1,h2⟩:=h.h;⟨t,h1,@EOkO.e M.fr _ _ h2⟩
theorem WE.toT (h:WE M e fe):WT M e fe:=let ⟨t,h1,h2⟩:=h.h;⟨t,h1,@EOk.t M.fr _ _ h2⟩
abbrev eg:=@WE.toT
theorem jn (i:Nat) (hN:M.N[i]?=some x:=by rfl) (hv:autoParam (∀j,Vis (M.X j).env.scope x) QA.a7._auto_1) (hd:‹"u"›=false:=by decide)
 (hcd:(x == ("__classdict__":Str))=false:=by decide):WE M (.Name x pos) (jm i):=⟨_,fun j=>Z1 (by rw [M.hN j];exact hN) (hv j) hd hcd,@jr8 M.fr i⟩
theorem jc (i:Nat) (hN:M.N[i]?=some x:=by rfl) (hv:autoParam (∀j,Vis (M.X j).env.scope x) QA.a7._auto_1) (hd:‹"u"›=false:=by decide)
 (hcd:(x == ("__classdict__":Str))=false:=by decide):WT M (.Name x pos) (ja i):=⟨_,fun j=>Z1 (by rw [M.hN j];exact hN) (hv j) hd hcd,@jqM M.fr i⟩
theorem qE {i:Int} {t:Tok} (hg:∀j,Gl (M.X j) x) (hm:∀j,(M.X j).mg x=some (.int i t)) (hd:‹"u"›=false:=by decide):WE M (.Name x pos) (eC (.int i)):=⟨_,fun j=>jnm (hg j) (hm j) hd,@joF M.fr i⟩
theorem jx {i:Int} {k:Nat}:WE M (.Constant (.int i) k pos) (eC (.int i)):=⟨_,fun _=>jqP,@joF M.fr i⟩
theorem jay {i:Bool} {k:Nat}:WE M (.Constant (.bool i) k pos) (eC (.bl i)):=⟨_,fun _=>jrK,@jsW M.fr i⟩
theorem jg7 {k:Nat}:WE M (.Constant .none k pos) (eC .non):=⟨_,fun _=>jpM,@jsE M.fr⟩
theorem jeW {op:Operator} {r:R2} {f:D->D->Option D} (ho:∀j,OpR (M.X j) (binaryOp op) r) (hr:@ROk M.fr r f) (ha:WT M a fa) (hb:WT M b fb):WE M (.BinOp a op b pos) (jq f fa fb):=let ⟨_,h1,h2⟩:=ha.h;let ⟨_,k1,k2⟩:=hb.h;⟨_,fun j=>jkU (ho j) (h1 j) (k1 j),@jnt M.fr _ _ _ _ _ _ hr h2 k2⟩
theorem zF (ha:WT M a fa) (hb:WT M b fb):WE M (.BinOp a .Add b pos) (jq qL fa fb):=jeW (fun _=>jpI) (@jrI M.fr) ha hb
theorem Jh (ha:WT M a fa) (hb:WT M b fb):WE M (.BinOp a .Sub b pos) (jq zp fa fb):=jeW (fun _=>jpo) (@jre M.fr) ha hb
theorem zO (ha:WT M a fa) (hb:WT M b fb):WE M (.BinOp a .Mult b pos) (jq qS fa fb):=jeW (fun _=>jmR) (@jru M.fr) ha hb
theorem Q1 (ha:WT M a fa) (hb:WT M b fb):WE M (.BinOp a .FloorDiv b pos) (jq J4 fa fb):=jeW (fun _=>jmh) (@jsc M.fr) ha hb
theorem zN (ha:WT M a fa) (hb:WT M b fb):WE M (.BinOp a .Mod b pos) (jq qK fa fb):=jeW (fun _=>jqw) (@jsy M.fr) ha hb
theorem jjH (ha:WT M a fa) (hb:WT M b fb):WE M (.BinOp a .Pow b pos) (jq jaz fa fb):=jeW (fun _=>jqe) (@jrQ M.fr) ha hb
theorem jja (ha:WT M a fa) (hb:WT M b fb):WO M (.BinOp a .Add b pos) (jq jcU fa fb):=let ⟨_,h1,h2⟩:=ha.h;let ⟨_,k1,k2⟩:=hb.h;⟨_,fun j=>jkU jm2 (h1 j) (k1 j),@joD M.fr _ _ _ _ _ _ (@jrY M.fr) h2 k2⟩
theorem w_not (ha:WT M a fa):WE M (.UnaryOp .Not a pos) (jj4 fa):=let ⟨_,h1,h2⟩:=ha.h;⟨_,fun j=>jpl (h1 j),@jsA M.fr _ _ h2⟩
theorem jP (ha:WT M a fa) (hb:WT M b fb) (hs:jfi b:=by exact fun _ _=>rfl):WE M (.Subscript a b pos) (jq jO fa fb):=let ⟨_,h1,h2⟩:=ha.h;let ⟨_,k1,k2⟩:=hb.h;⟨_,fun j=>joB (r:=rIx M.K) (by rw [<-M.hK j];exact jkY) (h1 j) (k1 j) hs,@jnt M.fr _ _ _ _ _ _ (@jtk M.fr) h2 k2⟩
structure WCmp (M:Fm) (op:CmpOp) (f:D->D->Option D):Prop where
 h:∃r,(∀j,OpR (M.X j) (compareOp op) r)/\@ROk M.fr r f
theorem jfk:WCmp M .Lt dLt:=⟨_,fun _=>jr3,@jtb M.fr⟩
theorem jgQ:WCmp M .LtE dLe:=⟨_,fun _=>jq7,@jsY M.fr⟩
theorem jqV:WCmp M .Gt dGt:=⟨_,fun _=>jss,@jtc M.fr⟩
theorem jpQ:WCmp M .GtE dGe:=⟨_,fun _=>jsi,@js1 M.fr⟩
theorem jjM (hu:∀j,(M.X j).A.units+64<cLine):WCmp M .Eq dEq:=⟨@jhD M.fr,fun j=>by have:=jlU (hu j);rw [M.hK j] at this;exact this,@js5 M.fr⟩
theorem jlY (hu:∀j,(M.X j).A.units+64<cLine):WCmp M .NotEq dNe:=⟨@jhL M.fr,fun j=>by have:=jkT (hu j);rw [M.hK j] at this;exact this,@jsV M.fr⟩
variable {op op':CmpOp} {f f':D->D->Option D}
theorem jhv (ho:WCmp M op f) (ha:WT M a fa) (hb:WT M b fb) (hm:autoParam (behindInMarks op b=false) QA.a9._auto_1):WE M (.Compare a [op] [b] pos) (jq f fa fb):=let ⟨_,r1,r2⟩:=ho.h;let ⟨_,h1,h2⟩:=ha.h;let ⟨_,k1,k2⟩:=hb.h;⟨_,fun j=>jnA (r1 j) (h1 j) (k1 j) hm,@jnt M.fr _ _ _ _ _ _ r2 h2 k2⟩
theorem za (ho:WCmp M op f) (ha:WT M a fa) (hb:WT M b fb) (hm:autoParam (behindInMarks op b=false) QA.a9._auto_1):WC M (.Compare a [op] [b] pos) (qQ (jq f fa fb)):=let ⟨_,r1,r2⟩:=ho.h;let ⟨_,h1,h2⟩:=ha.h;let ⟨_,k1,k2⟩:=hb.h;⟨_,fun j=>jnl (r1 j) (h1 j) (k1 j) hm,@jqQ M.fr _ _ (@EOk.t M.fr _ _ (@jnt M.fr _ _ _ _ _ _ r2 h2 k2))⟩
theorem jiC (ho:WCmp M op f) (ho':WCmp M op' f') (ha:WT M a fa) (hb:WT M b fb) (hc:WT M c fc) (hm:autoParam (lastMarks [op,op'] [b,c]=false) QA.a6._auto_1):WE M (.Compare a [op,op'] [b,c] pos) (Qs f f' fa fb fc):=let ⟨_,r1,r2⟩:=ho.h;let ⟨_,r3,r4⟩:=ho'.h;let ⟨_,h1,h2⟩:=ha.h;let ⟨_,k1,k2⟩:=hb.h;let ⟨_,l1,l2⟩:=hc.h;⟨_,fun j=>jk6 (r1 j) (r3 j) (h1 j) (k1 j) (l1 j) hm,@jmX M.fr _ _ _ _ _ _ _ _ _ _ r2 r4 h2 k2 l2⟩
theorem jrX {k:Nat} {p':Pos} (ha:WT M a fa):WC M (.Compare a [.Is] [.Constant .none k p'] pos) (qQ (jj5 fa)):=let ⟨_,h1,h2⟩:=ha.h;⟨_,fun j=>jmH (jpx (h1 j)),@t_B M.fr _ _ (@EOk.t M.fr _ _ (@jrR M.fr _ _ h2))⟩
theorem jfv {k:Nat} {p':Pos} (ha:WT M a fa):WC M (.Compare a [.IsNot] [.Constant .none k p'] pos) (qQ (jaF fa)):=let ⟨_,h1,h2⟩:=ha.h;⟨_,fun j=>jmH (jn4 (h1 j)),@t_B M.fr _ _ (@EOk.t M.fr _ _ (@jqy M.fr _ _ h2))⟩
theorem jmJ {bo:BoolOp} (h:WE M a fa):WE M (.BoolOp bo [a] pos) fa:=let ⟨_,h1,h2⟩:=h.h;⟨_,fun j=>jp4 (h1 j),h2⟩
theorem jjz (ha:WT M a fa) (hb:WE M (.BoolOp .And (b::es) pos) fb):WE M (.BoolOp .And (a::b::es) pos) (jdS fa fb):=let ⟨_,h1,h2⟩:=ha.h;let ⟨_,k1,k2⟩:=hb.h;⟨_,fun j=>jqB (h1 j) (k1 j),@jrT M.fr _ _ _ _ h2 k2⟩
theorem jr6 (hc:WC M c ga) (ha:WE M a fa) (hb:WE M b fb):WE M (.IfExp c a b pos) (eIf ga fa fb):=let ⟨_,l1,l2⟩:=hc.h;let ⟨_,h1,h2⟩:=ha.h;let ⟨_,k1,k2⟩:=hb.h;⟨_,fun j=>jlk (l1 j) (h1 j) (k1 j),@jtg M.fr _ _ _ _ _ _ l2 h2 k2⟩
theorem ZE (h:WT M a fa) (he:∀j whole,isTrue a (M.X j).env whole=(do let v <- whole;standAt a.pos;holding [v] (truthy v)):=by intro _ _;rfl):WC M a (qQ fa):=let ⟨_,h1,h2⟩:=h.h;⟨_,fun j=>jp3 (h1 j) (he j),@t_B M.fr _ _ h2⟩
theorem WW.toC (h:WW M a ga):WC M a ga:=let ⟨_,h1,h2⟩:=h.h;⟨_,fun j=>(h1 j).pt,h2⟩
theorem jfY (h:WC M a ga):WW M (.BoolOp .And [a] pos) ga:=let ⟨_,h1,h2⟩:=h.h;⟨_,fun j=>jnU (h1 j),h2⟩
theorem jlC (h:WC M a ga):WW M (.BoolOp .Or [a] pos) ga:=let ⟨_,h1,h2⟩:=h.h;⟨_,fun j=>jo2 (h1 j),h2⟩
theorem jgj (ha:WC M a ga) (hb:WW M (.BoolOp .And (b::es) pos) gb):WW M (.BoolOp .And (a::b::es) pos) (ZK ga gb):=let ⟨_,h1,h2⟩:=ha.h;let ⟨_,k1,k2⟩:=hb.h;⟨_,fun j=>jpE (h1 j) (k1 j),@jg4 M.fr _ _ _ _ h2 k2⟩
theorem jo6 (ha:WC M a ga) (hb:WW M (.BoolOp .Or (b::es) pos) gb):WW M (.BoolOp .Or (a::b::es) pos) (bOr ga gb):=let ⟨_,h1,h2⟩:=ha.h;let ⟨_,k1,k2⟩:=hb.h;⟨_,fun j=>jsh (h1 j) (k1 j),@jsT M.fr _ _ _ _ h2 k2⟩
theorem jbk (ha:WC M a ga):WC M (.UnaryOp .Not a pos) (jaf ga):=let ⟨_,h1,h2⟩:=ha.h;⟨_,fun j=>jqf (h1 j),@jcA M.fr _ _ h2⟩
theorem jt:WA M [] jk:=⟨_,fun _=>jb3,@a_nil M.fr⟩
theorem jd (ha:WE M e fe) (hs:WA M es fs) (h:qu e=false:=by rfl):WA M (e::es) (jb fe fs):=let ⟨_,h1,h2⟩:=ha.h;let ⟨_,k1,k2⟩:=hs.h;⟨_,fun j=>Zq (h1 j) (k1 j) (qB h),@jlu M.fr _ _ _ _ h2 k2⟩
theorem jB:WAT M [] jk:=⟨_,fun _=>jb3,@jp7 M.fr⟩
theorem jl (ha:WT M e fe) (hs:WAT M es fs) (h:qu e=false:=by rfl):WAT M (e::es) (jb fe fs):=let ⟨_,h1,h2⟩:=ha.h;let ⟨_,k1,k2⟩:=hs.h;⟨_,fun j=>Zq (h1 j) (k1 j) (qB h),@jm9 M.fr _ _ _ _ h2 k2⟩
theorem jeE {k:Nat} (h:WA M es fs):WE M (.Tuple es k pos) (ZJ fs):=let ⟨_,h1,h2⟩:=h.h;⟨_,fun j=>jpY (h1 j),@jrC M.fr _ _ h2⟩
theorem JG (h:WA M es fs):WO M (.List es pos) (zx fs):=let ⟨_,h1,h2⟩:=h.h;⟨_,fun j=>jqS (h1 j),@jr2 M.fr _ _ h2⟩
theorem joC:WP M none pNo:=⟨_,fun _=>jnz,@jtf M.fr⟩
theorem jiY (h:WT M e fe):WP M (some e) (pSo fe):=let ⟨_,h1,h2⟩:=h.h;⟨_,fun j=>jnL (h1 j),@jsZ M.fr _ _ h2⟩
theorem jqA {lo hi:Option Expr} {fl fh:ef->Option (Option Int)} {p2:Pos} (h:WT M e fe) (hl:WP M lo fl) (hh:WP M hi fh):WO M (.Subscript e (.Slice lo hi none p2) pos) (eSl fe fl fh):=let ⟨_,h1,h2⟩:=h.h;let ⟨_,k1,k2⟩:=hl.h;let ⟨_,l1,l2⟩:=hh.h;⟨_,fun j=>jmj (r:=jqo M.K) (by rw [<-M.hK j];exact jnr) (h1 j) (k1 j) (l1 j),@jte M.fr _ _ _ _ _ _ h2 k2 l2⟩
structure WB (M:Fm) (g:Value) (f:List D->Option D):Prop where
 h:∃r,(∀j,CallR (M.X j) g r)/\@jey M.fr r f
structure WBO (M:Fm) (g:Value) (f:List D->Option (List D)):Prop where
 h:∃r,(∀j,CallR (M.X j) g r)/\@jgZ M.fr r f
theorem tH:WB M (.builtin "len") qG:=⟨_,fun j=>by have:=jkD (X:=M.X j);rw [M.hK j] at this;exact this,@jrw M.fr⟩
theorem tN:WBO M (.type "list") Qc:=⟨_,fun j=>by have:=jfn (X:=M.X j);rw [M.hK j] at this;exact this,@jpf M.fr⟩
theorem tO:WB M (.builtin "sum") Qb:=⟨_,fun j=>by have:=jlq (M.calm j);rw [M.hK j] at this;exact this,@jrJ M.fr⟩
theorem uV:WB M (.builtin "all") jeo:=⟨_,fun j=>by have:=jmo (M.calm j);rw [M.hK j] at this;exact this,@jrr M.fr⟩
theorem jfJ:WB M (.builtin "min") QJ:=⟨_,fun j=>jjL (M.calm j),@jqE M.fr⟩
theorem jk7:WB M (.builtin "max") jaO:=⟨_,fun j=>jkl (M.calm j),@jpw M.fr⟩
theorem jqr:WB M (.builtin "min") jcM:=⟨_,fun j=>jjR (M.calm j),@jqc M.fr⟩
theorem jqq:WB M (.builtin "min") jgg:=⟨_,fun j=>by have:=jkA (M.calm j);rw [M.hK j] at this;exact this,@jqR M.fr⟩
theorem mn:WB M (.type "int") jqb:=⟨_,fun _=>jjS,@jr9 M.fr⟩
theorem jp1:WBO M (.builtin "sorted") jhd:=⟨_,fun j=>by have:=jif (M.calm j);rw [M.hK j] at this;exact this,@jpj M.fr⟩
variable {id T:String} {f1:List D->Option D} {f2:List D->Option (List D)}
theorem qH (hc:WB M (.builtin id) f1) (hg:∀j,Gl (M.X j) x) (hm:∀j,(M.X j).mg x=none) (hv:bootBuiltins x=some (.builtin id)) (ha:WAT M (e::es) fs) (hn:x ≠ "__name__":=by decide) (hdb:‹"u"›=false:=by decide)
 (h:qu e=false:=by rfl) (h':(es.all fun e=>!qu e)=true:=by rfl):WE M ‹"Q"› (jg f1 fs):=
 let ⟨_,r1,r2⟩:=hc.h;let ⟨_,h1,h2⟩:=ha.h;⟨_,fun j=>jbF (r1 j) (hg j) (hm j) hv (h1 j) hn hdb (qB h) (J8 h'),@js7 M.fr _ _ _ _ r2 h2⟩
theorem jrM (hc:WBO M (.builtin id) f2) (hg:∀j,Gl (M.X j) x) (hm:∀j,(M.X j).mg x=none) (hv:bootBuiltins x=some (.builtin id)) (ha:WAT M (e::es) fs) (hn:x ≠ "__name__":=by decide) (hdb:‹"u"›=false:=by decide)
 (h:qu e=false:=by rfl) (h':(es.all fun e=>!qu e)=true:=by rfl):WO M ‹"Q"› (jg f2 fs):=
 let ⟨_,r1,r2⟩:=hc.h;let ⟨_,h1,h2⟩:=ha.h;⟨_,fun j=>jbF (r1 j) (hg j) (hm j) hv (h1 j) hn hdb (qB h) (J8 h'),@joO M.fr _ _ _ _ r2 h2⟩
theorem jdd (hc:WBO M (.type T) f2) (hg:∀j,Gl (M.X j) x) (hm:∀j,(M.X j).mg x=none) (hv:bootBuiltins x=some (.type T)) (ha:WAT M (e::es) fs) (hn:x ≠ "__name__":=by decide) (hdb:‹"u"›=false:=by decide)
 (h:qu e=false:=by rfl) (h':(es.all fun e=>!qu e)=true:=by rfl):WO M ‹"Q"› (jg f2 fs):=
 let ⟨_,r1,r2⟩:=hc.h;let ⟨_,h1,h2⟩:=ha.h;⟨_,fun j=>jbX (r1 j) (hg j) (hm j) hv (h1 j) hn hdb (qB h) (J8 h'),@joO M.fr _ _ _ _ r2 h2⟩
theorem jfa {y:Str} {p':Pos} (hg:∀j,Gl (M.X j) "isinstance") (hm:∀j,(M.X j).mg "isinstance"=none) (hg':∀j,Gl (M.X j) y) (hm':∀j,(M.X j).mg y=none) (hv':bootBuiltins y=some (.type T)) (hT:okT T=true) (ha:WT M a fa)
 (hn:y ≠ "__name__":=by decide) (hdb:(y == ("__debug__":Str))=false:=by decide) (h:qu a=false:=by rfl):WE M (.Call (.Name "isinstance" p) [a,.Name y p'] [] pos) (jev T fa):=
 let ⟨_,h1,h2⟩:=ha.h
 ⟨_,fun j=>jbF (r:=fun xs H Q=>∃x T b,xs=[x,.ty T]/\IsT M.K H x T b/\Q (.bl b) H) (by have:=jhc (X:=M.X j);rw [M.hK j] at this;exact this) (hg j) (hm j) boot_isinstance (Zq (h1 j) (Zq (jsG (hg' j) (hm' j) hv' hn hdb) jb3 (qB rfl)) (qB h)) (by decide) (by decide) (qB h) (J8 rfl),@jsw M.fr T _ _ h2 hT⟩
theorem jpH {p' pos':Pos} (hg:∀j,Gl (M.X j) "sorted") (hm:∀j,(M.X j).mg "sorted"=none) (hg':∀j,Gl (M.X j) "set") (hm':∀j,(M.X j).mg "set"=none) (ha:WAT M [e] fs) (h:qu e=false:=by rfl) (sub:∀i j,(M.X i).prog=(M.X j).prog ∧ (M.X i).w=(M.X j).w) (j0:M.ι) :
 WO M (.Call (.Name "sorted" p) [.Call (.Name "set" p') [e] [] pos'] [] pos) (jhn fs):=
 let ⟨ta,h1,h2⟩:=ha.h
 ⟨_,fun j=>by
  have r1:=jh9 (X:=M.X j) (M.calm j);have r2:=jeg (X:=M.X j) (M.calm j);have eS:∀a ns,jfe (M.X j) a ns=jfe (M.X j0) a ns:=fun a ns=>by unfold jfe;rw [(sub j j0).1,(sub j j0).2]
  rw [M.hK j] at r1;simp only [eS] at r1 r2;exact jbF r2 (hg j) (hm j) boot_sorted (Zq (jbX r1 (hg' j) (hm' j) boot_set (h1 j) (by decide) (by decide) (qB h) (J8 rfl)) jb3 (qB rfl)) (by decide) (by decide) (qB rfl) (J8 rfl),@jq0 M.fr (M.X j0) _ _ h2⟩
theorem js8 {p1 p2 pos1 pos2:Pos} (hg1:∀j,Gl (M.X j) "list") (hm1:∀j,(M.X j).mg "list"=none) (hg2:∀j,Gl (M.X j) "zip") (hm2:∀j,(M.X j).mg "zip"=none) (ha:WAT M [a,b] fs) (h:qu a=false:=by rfl) (h':qu b=false:=by rfl) :
 WO M (.Call (.Name "list" p1) [.Call (.Name "zip" p2) [a,b] [] pos2] [] pos1) (eLZ fs):=
 let ⟨_,h1,h2⟩:=ha.h
 ⟨jdZ M.K _,fun j=>by have:=jhH (p1:=p1) (p2:=p2) (pos1:=pos1) (pos2:=pos2) (M.calm j) (hg1 j) (hm1 j) (hg2 j) (hm2 j) (h1 j) (by rw [qB h,qB h'];rfl) (by rw [qB h'];rfl) (by rw [qB rfl];rfl);rw [M.hK j] at this;exact this,@js3 M.fr _ _ h2⟩
theorem jQ {k:Nat} {g:Addr} {fd:FuncData} {ps:List Str} (F:∀j,FnOk (M.X j).prog (M.X j).w (M.X j).K (M.X j).mg (M.X j).base JT k g fd ps (@spS M.fr f1)) (hr:∀j,Room k (M.X j).A) (hg:∀j,Gl (M.X j) x) (hm:∀j,(M.X j).mg x=some (.ref g)) (hk:∀j,PySem.W.keepIn (M.X j).K (.ref g)=true)
 (hb:∀j,Binds (M.X j).K fd ps []) (ha:WA M (e::es) fs) (hdb:‹"u"›=false:=by decide) (h:qu e=false:=by rfl) (h':(es.all fun e=>!qu e)=true:=by rfl):WE M ‹"Q"› (jg f1 fs):=
 let ⟨_,h1,h2⟩:=ha.h;⟨_,fun j=>jiP (F j) (hr j) (hg j) (hm j) (hk j) (hb j) .nil joX (h1 j) hdb (qB h) (J8 h'),@jpu M.fr _ _ f1 E0 h2⟩
theorem qd {k:Nat} {g:Addr} {fd:FuncData} {ps:List Str} (F:∀j,FnOk (M.X j).prog (M.X j).w (M.X j).K (M.X j).mg (M.X j).base JT k g fd ps (@spO M.fr f2)) (hr:∀j,Room k (M.X j).A) (hg:∀j,Gl (M.X j) x) (hm:∀j,(M.X j).mg x=some (.ref g)) (hk:∀j,PySem.W.keepIn (M.X j).K (.ref g)=true)
 (hb:∀j,Binds (M.X j).K fd ps []) (ha:WA M (e::es) fs) (hdb:‹"u"›=false:=by decide) (h:qu e=false:=by rfl) (h':(es.all fun e=>!qu e)=true:=by rfl):WO M ‹"Q"› (jg f2 fs):=
 let ⟨_,h1,h2⟩:=ha.h;⟨_,fun j=>jiP (F j) (hr j) (hg j) (hm j) (hk j) (hb j) .nil joX (h1 j) hdb (qB h) (J8 h'),@jn3 M.fr _ _ f2 E0 h2⟩
variable {m:D->ef->Option ef} {ms:List D->ef->Option ef} {tg iter:Expr}
theorem jW {i:Nat} (hN:∀j,(M.X j).N.Nodup) (hi:M.N[i]?=some x) (hx:∀j,Loc (M.X j).env.scope x) (hf:∀j,(M.X j).fn x=true\/(M.X j).env.scope.names.lookup x=some .local):WG M (.Name x pos) (jz i):=⟨_,fun j=>jf1 (hN j) (by rw [M.hN j];exact hi) (hx j) (hf j),@jhG M.fr i⟩
theorem ZY:WGs M [] JJ:=⟨_,fun _=>jiV,@joL M.fr⟩
theorem qC (h1:WG M e m) (h2:WGs M es ms) (hs:∀j,(assignEach (e::es) (M.X j).env).map (·.2)=assign e (M.X j).env::‹"aG"›.map (·.2):=by intro _;rfl):WGs M (e::es) (jR m ms):=let ⟨_,a1,a2⟩:=h1.h;let ⟨_,b1,b2⟩:=h2.h;⟨_,fun j=>jge (a1 j) (b1 j) (hs j),@jmk M.fr _ _ _ _ a2 b2⟩
theorem jad {k n:Nat} (h:WGs M es ms) (hn:∀j,‹"aG"›.length=n:=by intro _;rfl) (hst:∀j,‹"aG"›.findIdx? (·.1)=none:=by intro _;rfl):WG M (.Tuple es k pos) (Jz n ms):=let ⟨_,a1,a2⟩:=h.h;⟨jnY M.K n _,fun j=>by have:=jkO (k:=k) (pos:=pos) (M.calm j) (a1 j) (hn j) (hst j);rw [M.hK j] at this;exact this,@joc M.fr n _ _ a2⟩
theorem WI.toT {f:ef->Option (List D)} (h:WI M tg e f):WIT M tg e f:=let ⟨_,h1,h2⟩:=h.h;⟨_,h1,@IOk.t M.fr _ _ h2⟩
theorem jbq (h:WE M e fe):WI M tg e (j3 fe):=let ⟨_,h1,h2⟩:=h.h;⟨jgr M.K _,fun j=>by have:=jjf (tg:=tg) (h1 j);rw [M.hK j] at this;exact this,@jpC M.fr _ _ h2⟩
theorem j9 (h:WT M e fe):WIT M tg e (j3 fe):=let ⟨_,h1,h2⟩:=h.h;⟨jgr M.K _,fun j=>by have:=jjf (tg:=tg) (h1 j);rw [M.hK j] at this;exact this,@jnu M.fr _ _ h2⟩
theorem jp6 (h:WE M e fe):WI M tg e (jcF fe):=let ⟨_,h1,h2⟩:=h.h;⟨jqi M.K _,fun j=>by have:=jo8 (tg:=tg) (h1 j);rw [M.hK j] at this;exact this,@jsn M.fr _ _ h2⟩
theorem zZ (hg:∀j,Gl (M.X j) "range") (hm:∀j,(M.X j).mg "range"=none) (ha:WAT M [a] fs) (h:qu a=false:=by rfl):WI M tg (.Call (.Name "range" p) [a] [] pos) (JV fs):=let ⟨_,h1,h2⟩:=ha.h;⟨_,fun j=>jki (hg j) (hm j) (h1 j) (by rw [qB h];rfl),@jqZ M.fr _ _ h2⟩
theorem Ql {ts:List Expr} {k:Nat} {tp:Pos} (hg:∀j,Gl (M.X j) "zip") (hm:∀j,(M.X j).mg "zip"=none) (ha:WAT M [a,b] fs) (h:qu a=false:=by rfl) (h':qu b=false:=by rfl):WIT M (.Tuple ts k tp) (.Call (.Name "zip" p) [a,b] [] pos) (Jt fs):=let ⟨_,h1,h2⟩:=ha.h;⟨jpS M.K _,fun j=>by have:=jpJ (elts:=ts) (x1:=k) (tpos:=tp) (p:=p) (pos:=pos) (hg j) (hm j) (h1 j) (by rw [qB h,qB h'];rfl) (by rw [qB h'];rfl);rw [M.hK j] at this;exact this,@jqh M.fr _ _ h2⟩
theorem jc4 {ts:List Expr} {k:Nat} {tp:Pos} (hg:∀j,Gl (M.X j) "enumerate") (hm:∀j,(M.X j).mg "enumerate"=none) (ha:WA M [a] fs) (h:qu a=false:=by rfl):WI M (.Tuple ts k tp) (.Call (.Name "enumerate" p) [a] [] pos) (ZZ fs):=let ⟨_,h1,h2⟩:=ha.h;⟨jlh M.K _,fun j=>by have:=jm5 (elts:=ts) (x1:=k) (tpos:=tp) (p:=p) (pos:=pos) (hg j) (hm j) (h1 j) (by rw [qB h];rfl);rw [M.hK j] at this;exact this,@jpW M.fr _ _ h2⟩
variable {st:Stmt} {sts body:List Stmt} {F F' B:FS}
theorem j7:WSs M [] qi:=⟨_,fun _=>jmZ,@jo7 M.fr⟩
theorem jo (h:WS M st F):WSs M [st] F:=let ⟨_,h1,h2⟩:=h.h;⟨_,fun j=>jn5 (h1 j),h2⟩
theorem jf (h:WS M st F) (h':WSs M sts F'):WSs M (st::sts) (jA F F'):=let ⟨_,h1,h2⟩:=h.h;let ⟨_,k1,k2⟩:=h'.h;⟨_,fun j=>jk0 (h1 j) (k1 j),@jrp M.fr _ _ _ _ h2 k2⟩
theorem jc2 (h:WT M e fe) (hs:∀j,swapsWith e none pos.line (M.X j).env=pure false:=by intro _;rfl):WS M (.Expr e pos) (Q8 fe):=let ⟨_,h1,h2⟩:=h.h;⟨_,fun j=>ji8 (h1 j) (hs j),@jql M.fr _ _ h2⟩
theorem jX (h:WE M e fe):WS M (.Return (some e) pos) (qv fe):=let ⟨_,h1,h2⟩:=h.h;⟨_,fun j=>jit (h1 j),@jrA M.fr _ _ h2⟩
theorem JF (h:WO M e fo):WS M (.Return (some e) pos) (zG fo):=let ⟨_,h1,h2⟩:=h.h;⟨_,fun j=>jit (h1 j),@jpb M.fr _ _ h2⟩
theorem jf2 (i:Nat) (hN:M.N[i]?=some x:=by rfl) (hv:autoParam (∀j,Vis (M.X j).env.scope x) QA.a7._auto_1) (hd:‹"u"›=false:=by decide)
 (hcd:(x == ("__classdict__":Str))=false:=by decide):WS M (.Return (some (.Name x p)) pos) (jcq i):=⟨_,fun j=>jit ‹"6"›,@jqu M.fr i⟩
theorem ze (hc:WC M c ga) (h:WSs M sts F) (h':WSs M body F'):WS M (.If c sts body pos) (Qh ga F F'):=let ⟨_,l1,l2⟩:=hc.h;let ⟨_,h1,h2⟩:=h.h;let ⟨_,k1,k2⟩:=h'.h;⟨_,fun j=>jrj (l1 j) (h1 j) (k1 j),@jsX M.fr _ _ _ _ _ _ l2 h2 k2⟩
theorem jD {i:Nat} {pos':Pos} (h:WE M e fe) (hN:∀j,(M.X j).N.Nodup) (hi:M.N[i]?=some x) (hx:∀j,Loc (M.X j).env.scope x) (hf:∀j,(M.X j).fn x=true\/(M.X j).env.scope.names.lookup x=some .local) (hs:∀j,swapsWith e (some (.Name x pos')) pos.line (M.X j).env=pure false:=by intro _;rfl) :
 WS M (.Assign [.Name x pos'] e pos) (jG i fe):=let ⟨_,h1,h2⟩:=h.h;⟨_,fun j=>jhK (hN j) (by rw [M.hN j];exact hi) (hx j) (h1 j) (hs j) (hf j),@jol M.fr _ _ i h2⟩
theorem QP {i:Nat} {pos':Pos} (h:WO M e fo) (hN:∀j,(M.X j).N.Nodup) (hi:M.N[i]?=some x) (hx:∀j,Loc (M.X j).env.scope x) (hf:∀j,(M.X j).fn x=true\/(M.X j).env.scope.names.lookup x=some .local) (hs:∀j,swapsWith e (some (.Name x pos')) pos.line (M.X j).env=pure false:=by intro _;rfl) :
 WS M (.Assign [.Name x pos'] e pos) (Jx i fo):=let ⟨_,h1,h2⟩:=h.h;⟨_,fun j=>jhK (hN j) (by rw [M.hN j];exact hi) (hx j) (h1 j) (hs j) (hf j),@jqm M.fr _ _ i h2⟩
theorem jqU (h:WE M e fe) (hg:WG M tg m) (hs:∀j,swapsWithSole [tg] e pos.line (M.X j).env=pure false:=by intro _;rfl) (hw:∀j,swappedStores [tg] e (M.X j).env=pure none:=by intro _;rfl) (h1:∀j,(assignEach [tg] (M.X j).env).map (·.2)=[assign tg (M.X j).env]:=by intro _;rfl) :
 WS M (.Assign [tg] e pos) (jg3 m fe):=let ⟨_,a1,a2⟩:=h.h;let ⟨_,b1,b2⟩:=hg.h;⟨_,fun j=>jl7 (a1 j) (b1 j) (hs j) (hw j) (h1 j),@jsC M.fr _ _ _ _ b2 a2⟩
theorem jqd {i:Nat} {pos':Pos} {y:Str} {py:Pos} (hN:M.N[i]?=some y) (hv:∀j,Vis (M.X j).env.scope y) (hk:WE M b fb) (h:WE M e fe) (hd:(y == ("__debug__":Str))=false:=by decide) (hcd:(y == ("__classdict__":Str))=false:=by decide)
 (ha:autoParam (∀j v,assign (.Subscript (.Name y py) b pos') (M.X j).env v=(do
  let ov <- holding [v] (eval (.Name y py) (M.X j).env)
  let iv <- holding [v,ov] (eval b (M.X j).env)
  standAt pos'
  holding [v,ov,iv] (setItem ov iv v)
  release [v,ov,iv] [])) QA.a10._auto_1)
 (hs:∀j,swapsWithSole [.Subscript (.Name y py) b pos'] e pos.line (M.X j).env=pure false:=by intro _;rfl) (hw:∀j,swappedStores [.Subscript (.Name y py) b pos'] e (M.X j).env=pure none:=by intro _;rfl)
 (h1:∀j,(assignEach [.Subscript (.Name y py) b pos'] (M.X j).env).map (·.2)=[assign (.Subscript (.Name y py) b pos') (M.X j).env]:=by intro _;rfl):WS M (.Assign [.Subscript (.Name y py) b pos'] e pos) (jfD i fb fe):=
 let ⟨_,a1,a2⟩:=h.h;let ⟨_,b1,b2⟩:=hk.h;⟨_,fun j=>jl7 (a1 j) (jpN ‹"6"› (b1 j) jht (ha j)) (hs j) (hw j) (h1 j),@jrh M.fr _ _ _ _ i b2 a2⟩
theorem jfK (i:Nat) (h:WS M st F):WS M st (jbW i F):=let ⟨_,h1,h2⟩:=h.h;⟨_,h1,@jry M.fr _ _ i h2⟩
theorem zC (hi:WI M tg iter fo) (hg:WG M tg m) (hb:WSs M body B) (hp:autoParam (∀j,PassesOwn (model (M.X j).prog (M.X j).w) (M.X j).A (M.X j).env (M.X j).xe) QA.a11._auto_1) (hs:∀j x,foldedSetIterable iter (M.X j).env x=pure x:=by intro _ _;rfl):WS M (.For tg iter body [] pos) (zQ fo m B):=let ⟨_,i1,i2⟩:=hi.h;let ⟨_,g1,g2⟩:=hg.h;let ⟨_,b1,b2⟩:=hb.h;⟨_,fun j=>jpR (hp j) (M.calm j) (i1 j) (g1 j) (b1 j) (hs j),@jsu M.fr _ _ _ _ _ _ i2 g2 b2⟩
theorem jek (hc:WC M c ga) (hb:WSs M body B) (hp:autoParam (∀j,PassesOwn (model (M.X j).prog (M.X j).w) (M.X j).A (M.X j).env (M.X j).xe) QA.a11._auto_1):WS M (.While c body [] pos) (Qy ga B):=let ⟨_,c1,c2⟩:=hc.h;let ⟨_,b1,b2⟩:=hb.h;⟨_,fun j=>jk1 (hp j) (c1 j) (b1 j),@jnJ M.fr _ _ _ _ c2 b2⟩
theorem QR {i:Nat} {y:Str} {py:Pos} (hN:M.N[i]?=some y) (hv:∀j,Vis (M.X j).env.scope y) (h:WE M e fe) (hd:(y == ("__debug__":Str))=false:=by decide) (hcd:(y == ("__classdict__":Str))=false:=by decide)
 (hbase:∀j,attributeBase (.Name y py) "append" (M.X j).env (eval (.Name y py) (M.X j).env)=eval (.Name y py) (M.X j).env:=by intro _;rfl) (hline:(apos.endLine == cpos.line)=true:=by rfl) (h':qu e=false:=by rfl)
 (hs:∀j,swapsWith (.Call (.Attribute (.Name y py) "append" apos) [e] [] cpos) none pos.line (M.X j).env=pure false:=by intro _;rfl):WS M (.Expr (.Call (.Attribute (.Name y py) "append" apos) [e] [] cpos) pos) (JK i fe):=
 let ⟨_,a1,a2⟩:=h.h
 ⟨_,fun j=>ji8 (te:=tBM M.K "list" jfx _ _) (by have:=jos (X:=M.X j) (apos:=apos) (cpos:=cpos) PySem.F.plainAttrs_list PySem.F.slot_list_append PySem.F.type_list_append jjP (Z1 (i:=i) (pos:=py) (by rw [M.hN j];exact hN) (hv j) hd hcd) (Zq (a1 j) jb3 (qB h')) (hbase j) (by rw [qB h'];rfl) hline (qB h') (J8 rfl);rw [M.hK j] at this;exact this) (hs j),@jri M.fr _ _ i a2⟩
def Fm.blk (M:Fm) (N:List Str) (scope:Scope):Fm:=⟨M.ι×Addr×Shared×Hp×List Addr,fun i=>(M.X i.1).blk N scope i.2.1 i.2.2.1 i.2.2.2.1 i.2.2.2.2,M.K,N,fun i=>M.hK i.1,fun _=>rfl,fun i=>M.calm i.1⟩
variable {ifs:List Expr} {scope sc:Scope} {Lc Fn:List Str} {ix:List Nat}
theorem j4 {i n:Nat} (hN:∀j,(M.X j).N.Nodup) (hi:M.N[i]?=some x) (hn:i<n) (hx:∀j,Loc (M.X j).env.scope x) (hf:∀j,(M.X j).fn x=true\/(M.X j).env.scope.names.lookup x=some .local):WL M n (.Name x pos) (jz i):=⟨_,fun j=>jf1 (hN j) (by rw [M.hN j];exact hi) (hx j) (hf j),@jhG M.fr i,jkc hn⟩
def jsb (n:Nat) (t:TGs):Prop:=(∀xs σ H Q,t xs σ H Q->t xs σ H fun σ2 H2=>Q σ2 H2/\σ2.length=σ.length/\∀j,n<=j->σ2[j]?=σ[j]?)/\∀xs σ H (Q Q':St->Hp->Prop),(∀σ H,Q σ H->Q' σ H)->t xs σ H Q->t xs σ H Q'
structure WLs (M:Fm) (n:Nat) (tg:List Expr) (m:List D->ef->Option ef):Prop where
 h:∃t:TGs,(∀i,PGs (M.X i) tg t)/\@jj1 M.fr t m/\jsb n t
theorem Zx {n:Nat}:WLs M n [] JJ:=⟨jqW,fun _=>jiV,@joL M.fr,fun xs σ H Q h=>⟨h.1,h.2,rfl,fun _ _=>rfl⟩,fun xs σ H Q Q' hq h=>⟨h.1,hq _ _ h.2⟩⟩
theorem qO {i n:Nat} (hN:∀j,(M.X j).N.Nodup) (hi:M.N[i]?=some x) (hn:i<n) (hx:∀j,Loc (M.X j).env.scope x) (hf:∀j,(M.X j).fn x=true\/(M.X j).env.scope.names.lookup x=some .local) (h:WLs M n es ms)
 (hs:∀j,(assignEach (.Name x pos::es) (M.X j).env).map (·.2)=assign (.Name x pos) (M.X j).env::‹"aG"›.map (·.2):=by intro _;rfl):WLs M n (.Name x pos::es) (jR (jz i) ms):=
 let ⟨_,b1,b2,b3,b4⟩:=h.h
 ⟨_,fun j=>jge (jf1 (hN j) (by rw [M.hN j];exact hi) (hx j) (hf j)) (b1 j) (hs j),@jmk M.fr _ _ _ _ (@jhG M.fr i) b2,fun xs σ H Q ⟨v,r,e,q⟩=>⟨v,r,e,b4 _ _ _ _ _ (fun σ2 H2 ⟨q1,q2,q3⟩=>⟨q1,by rw [q2];simp,fun k hk=>by rw [q3 k hk,YR (by omega)]⟩) (b3 _ _ _ _ q)⟩,
  fun xs σ H Q Q' hq ⟨v,r,e,q⟩=>⟨v,r,e,b4 _ _ _ _ _ hq q⟩⟩
theorem Zr {k n l:Nat} (h:WLs M n es ms) (hn:∀j,‹"aG"›.length=l:=by intro _;rfl) (hst:∀j,‹"aG"›.findIdx? (·.1)=none:=by intro _;rfl):WL M n (.Tuple es k pos) (Jz l ms):=let ⟨_,a1,a2,a3,_⟩:=h.h;⟨jnY M.K l _,fun j=>by have:=jkO (k:=k) (pos:=pos) (M.calm j) (a1 j) (hn j) (hst j);rw [M.hK j] at this;exact this,@joc M.fr l _ _ a2,fun x σ H Q ⟨a,xs,e,hq,hl,q⟩=>⟨a,xs,e,hq,hl,a3 _ _ _ _ q⟩⟩
theorem jU:WTs M [] ‹"l"›:=⟨_,fun _=>jmV,@jpB M.fr⟩
theorem jbB (h:WC M e ga):WTs M [e] ga:=let ⟨_,h1,h2⟩:=h.h;⟨_,fun j=>jnB (h1 j),h2⟩
theorem JL (hsc:∀j,(M.X j).env.scope=sc) (ok:LcOk sc M.N scope Fn ix) (hi:WIT M tg iter fo) (hg:WL ‹"am"› Lc.length tg m) (ht:WTs ‹"am"› ifs ga) (he:WE ‹"am"› e fe)
 (hs:∀j x,foldedSetIterable iter (M.X j).env x=pure x:=by intro _ _;rfl):WO M ‹"O"› (JC fo m ga fe Lc.length ix):=
 let ⟨_,i1,i2⟩:=hi.h;let ⟨_,g1,g2,g3⟩:=hg.h;let ⟨_,t1,t2⟩:=ht.h;let ⟨_,e1,e2⟩:=he.h
 ⟨_,fun j=>jpK (hsc j) (M.hN j) (M.calm j) ok (i1 j) (fun C s H fp=>g1 (j,C,s,H,fp)) g3 (fun C s H fp=>t1 (j,C,s,H,fp)) (fun C s H fp=>e1 (j,C,s,H,fp)) (hs j),@jsm M.fr _ _ _ _ _ _ _ _ _ _ i2 g2 t2 e2⟩
def jjr (sc scope:Scope):Scope:={ scope with names:=scope.names.map fun (n,k)=>if (k == NameKind.free && sc.kind == .function && sc.names.lookup n == some .cell) then (n,NameKind.cell) else (n,k) }
theorem joE {N1:List Str} {scope1:Scope} (hsc:∀j,(M.X j).env.scope=sc) (ok:LcOk (jjr sc scope1) N1 scope Fn ix) (hi:WIT (M.blk N1 scope1) tg iter fo) (hg:WL ((M.blk N1 scope1).blk (Lc++Fn) scope) Lc.length tg m) (ht:WTs ((M.blk N1 scope1).blk (Lc++Fn) scope) ifs ga) (he:WE ((M.blk N1 scope1).blk (Lc++Fn) scope) e fe)
 (hs:∀j x,foldedSetIterable iter ((M.blk N1 scope1).X j).env x=pure x:=by intro _ _;rfl):WO (M.blk N1 scope1) ‹"O"› (JC fo m ga fe Lc.length ix):=
 JL (M:=M.blk N1 scope1) (sc:=jjr sc scope1) (fun j=>by rw [<-hsc j.1];rfl) ok hi hg ht he hs
theorem jef {i:Nat} {y:Str} {py spos:Pos} (hNd:∀j,(M.X j).N.Nodup) (hy:M.N[i]?=some y) (hyl:∀j,(M.X j).env.scope.names.lookup y=some .local) (hsc:∀j,(M.X j).env.scope=sc) (ok:LcOk sc M.N scope Fn ix) (hi:WIT M tg iter fo) (hg:WL ‹"am"› Lc.length tg m) (ht:WTs ‹"am"› ifs ga) (he:WE ‹"am"› e fe)
 (hsw:∀j,swapsWith ‹"O"› (some (.Name y py)) spos.line (M.X j).env=pure true:=by intro _;rfl) (hs:∀j x,foldedSetIterable iter (M.X j).env x=pure x:=by intro _ _;rfl):WS M (.Assign [.Name y py] ‹"O"› spos) (jG i (jH (JC fo m ga fe Lc.length ix))):=
 let ⟨_,i1,i2⟩:=hi.h;let ⟨_,g1,g2,g3⟩:=hg.h;let ⟨_,t1,t2⟩:=ht.h;let ⟨_,e1,e2⟩:=he.h
 ⟨_,fun j=>jdx (hNd j) (by rw [M.hN j];exact hy) (hyl j) (hsc j) (M.hN j) (M.calm j) ok (i1 j) (fun C s H fp=>g1 (j,C,s,H,fp)) g3 (fun C s H fp=>t1 (j,C,s,H,fp)) (fun C s H fp=>e1 (j,C,s,H,fp)) (hsw j) (hs j),@jol M.fr _ _ i (@EOkO.e M.fr _ _ (@jsm M.fr _ _ _ _ _ _ _ _ _ _ i2 g2 t2 e2))⟩
end
section
variable {P:Program} {w:World} {K:PySem.W.Frag} {mg:Str->Option Value} {base:Heap} {y qual:Str} {st:Stmt} {f:Addr} {fd:FuncData} {N ps:List Str} {k a n:Nat} {m:FS}
abbrev joe (P:Program) (w:World) (K:PySem.W.Frag) (mg:Str->Option Value) (base:Heap) (N:List Str) (qual:Str) (scope:Scope) (f:Addr) (cdv:Value) (A:Around) (outer:List PySem.Env) (s:Shared) (H:Hp) (E:XK):Fm:=⟨Unit,fun _=>(jh7 JT P w K mg base N qual scope f cdv A outer s H E).nox,K,N,fun _=>rfl,fun _=>rfl,fun _=>rfl⟩
theorem zq (F:Fun K y qual st f fd) (S:FnScope N ps (je st)) (ha:a=ps.length) (hn:N.length=n)
 (h:∀(cdv:Value) (A:Around) (outer:List PySem.Env) (s:Shared) (H:Hp) (E:XK),Room k ‹"aD"›->WSs (joe P w K mg base N qual (je st) f cdv A outer s H E) (jI st) m) :
 FnOk P w K mg base JT (k+1) f fd ps (@spS ⟨K⟩ (qW a n m)):=by
 letI:Fr:=⟨K⟩
 refine F.ok S (fun vs H Q E h=>(jr0 h).trans ha) (fun cdv A outer s H vs Q E hr q=>?_);obtain ⟨t,h1,h2⟩:=(h cdv A outer s H E hr).h;exact ⟨t,h1 (),jqk h2 (by rw [<-hn]) q⟩
theorem QK (F:Fun K y qual st f fd) (S:FnScope N ps (je st)) (ha:a=ps.length) (hn:N.length=n)
 (h:∀(cdv:Value) (A:Around) (outer:List PySem.Env) (s:Shared) (H:Hp) (E:XK),Room k ‹"aD"›->WSs (joe P w K mg base N qual (je st) f cdv A outer s H E) (jI st) m) :
 FnOk P w K mg base JT (k+1) f fd ps (@spO ⟨K⟩ (Jq a n m)):=by
 letI:Fr:=⟨K⟩
 refine F.ok S (fun vs H Q E h=>(jrs h).trans ha) (fun cdv A outer s H vs Q E hr q=>?_);obtain ⟨t,h1,h2⟩:=(h cdv A outer s H E hr).h;exact ⟨t,h1 (),jpa h2 (by rw [<-hn]) q⟩
end
end L2
namespace L2
open PySem PySem.Spec PyProof.Rows
def zH:List Int->List D->Int->Option D
 | i::ks,d::ds,k=>if i=k then some d else zH ks ds k
 | _,_,_=>none
def jmv:List Int->List D->Int->D->List D
 | i::ks,d::ds,k,e=>(if i=k then e else d)::jmv ks ds k e
 | _,_,_,_=>[]
def jc9:List Int->List V->Int->V->List V
 | i::ks,d::ds,k,e=>(if i=k then e else d)::jc9 ks ds k e
 | _,_,_,_=>[]
section
variable [Fr] {G H:Hp}
theorem jbD {i:Int} {ks:List Int} {v:V} {vs:List V}:zi (i::ks) (v::vs)=(Sum.inl i,v)::zi ks vs:=rfl
theorem jdF {vs:List V} {ds:List D} (r:Reps G vs ds):∀{ks:List Int} (k:Int),ks.length=vs.length->
 (∀d,zH ks ds k=some d->∃v,jby (zi ks vs) (Sum.inl k)=some v/\Rep G v d)/\(zH ks ds k=none->jby (zi ks vs) (Sum.inl k)=none):=by
 induction vs generalizing ds with
 | nil=>
   intro ks k hl;cases ks with
   | nil=>have hn:zH [] ds k=none:=rfl;rw [hn];exact ⟨fun d h=>(nomatch h),fun _=>rfl⟩
   | cons i ks=>cases hl
 | cons v vs ih=>
   intro ks k hl;cases ks with
   | nil=>cases hl
   | cons i ks=>
     cases r with
     | @cons _ d _ ds r t=>
       have ih':=ih t (ks:=ks) k (by simpa using hl);by_cases e:i=k
       . refine ⟨fun d' h=>⟨v,?_,?_⟩,fun h=>?_⟩
         . rw [jbD];exact jbR (by rw [e])
         . have h':(if i=k then some d else zH ks ds k)=some d':=h;rw [if_pos e] at h';cases h';exact r
         . have h':(if i=k then some d else zH ks ds k)=none:=h;rw [if_pos e] at h';cases h'
       . have h0:zH (i::ks) (d::ds) k=zH ks ds k:=if_neg e;rw [h0,jbD,jbA (show ¬(Sum.inl i:zV)=Sum.inl k from fun z=>e (by injection z))];exact ih'
theorem jhl {vs:List V} {ds:List D} (r:Reps G vs ds) {ks:List Int} (k:Int) (hl:ks.length=vs.length):(jby (zi ks vs) (Sum.inl k)).isSome=(zH ks ds k).isSome:=by
 obtain ⟨h1,h2⟩:=jdF r k hl;cases e:zH ks ds k with
 | none=>rw [h2 e];rfl
 | some d=>obtain ⟨v,hv,_⟩:=h1 d e;rw [hv];rfl
theorem jgs {v:V}:∀{ks:List Int} {vs:List V} {k:Int},ks.length=vs.length->(jc9 ks vs k v).length=ks.length
 | [],[],_,_=>rfl
 | [],_::_,_,h=>by cases h
 | _::_,[],_,h=>by cases h
 | i::ks,u::vs,k,h=>by show (jc9 ks vs k v).length+1=ks.length+1;rw [jgs (by simpa using h)]
theorem jmw {v:V} {d:D} (q:Rep G v d) {vs:List V} {ds:List D} (r:Reps G vs ds):∀{ks:List Int} {k:Int},Reps G (jc9 ks vs k v) (jmv ks ds k d):=by
 induction vs generalizing ds with
 | nil=>intro ks k;cases r;cases ks <;> exact .nil
 | cons u vs ih=>
   intro ks k;cases r with
   | cons a t=>
     cases ks with
     | nil=>exact .nil
     | cons i ks=>
       refine .cons ?_ (ih t);by_cases e:i=k
       . rw [if_pos e,if_pos e];exact q
       . rw [if_neg e,if_neg e];exact a
theorem jjp {v:V}:∀{ks:List Int} {vs:List V} {k:Int},ks.length=vs.length->(zi ks vs).map (fun kv=>if kv.1=(Sum.inl k:zV) then (kv.1,v) else kv)=zi ks (jc9 ks vs k v)
 | [],[],_,_=>rfl
 | [],_::_,_,h=>by cases h
 | _::_,[],_,h=>by cases h
 | i::ks,u::vs,k,h=>by
   show _=zi (i::ks) ((if i=k then v else u)::jc9 ks vs k v);rw [jbD,jbD,List.map_cons,jjp (by simpa using h)];congr 1;by_cases e:i=k
   . subst e;simp
   . rw [if_neg (show ¬(Sum.inl i:zV)=Sum.inl k from fun z=>e (by injection z)),if_neg e]
theorem jjB {v:V} {k:Int}:∀{ks:List Int} {vs:List V},ks.length=vs.length->zi ks vs++[(Sum.inl k,v)]=zi (ks++[k]) (vs++[v])
 | [],[],_=>rfl
 | [],_::_,h=>by cases h
 | _::_,[],h=>by cases h
 | i::ks,u::vs,h=>by show (Sum.inl i,u)::(zi ks vs++[(Sum.inl k,v)])=zi (i::(ks++[k])) (u::(vs++[v]));rw [jjB (by simpa using h)];rfl
omit [Fr] in
theorem jf3 {ks:List Int} {vs:List V} (h:ks.length=vs.length):(zi ks vs).length=ks.length:=by unfold zi;simp [h]
def jpA (neg:Bool):R2:=fun x y H Q=>∃a o,y=.ref a/\jgW H a x o/\Q (.bl (neg != o.isSome)) H
def jbc (neg:Bool):D->D->Option D
 | .int i,.dic ks ds=>some (.bl (neg != (zH ks ds i).isSome))
 | _,_=>none
theorem jlR {neg:Bool} {x y d:D} (q:jbc neg x y=some d):∃i ks ds,x=.int i/\y=.dic ks ds/\D.bl (neg != (zH ks ds i).isSome)=d:=by
 cases x with
 | int i=>
   cases y with
   | dic ks ds=>exact ⟨i,ks,ds,rfl,rfl,Option.some.inj q⟩
   | _=>exact qr q
 | _=>exact qr q
theorem jo0 (neg:Bool):ROk (jpA neg) (jbc neg):=fun G H x y dx dy d Q s rx ry q k=>by
 obtain ⟨i,ks,ds,rfl,rfl,rfl⟩:=jlR q
 (have hh:=RepT.of_int rx;subst hh)
 cases ry with
 | @dic a _ vs _ h hl r=>refine ⟨a,jby (zi ks vs) (Sum.inl i),rfl,.inl ⟨_,Sum.inl i,h,rfl,rfl⟩,?_⟩;rw [jhl r i hl];exact k _ G H (.refl s) (.bl _)
def jjj:D->D->Option D
 | .dic ks ds,.int i=>zH ks ds i
 | _,_=>none
theorem jkk {x y d:D} (q:jjj x y=some d):∃i ks ds,x=.dic ks ds/\y=.int i/\zH ks ds i=some d:=by
 cases x with
 | dic ks ds=>
   cases y with
   | int i=>exact ⟨i,ks,ds,rfl,rfl,q⟩
   | _=>exact qr q
 | _=>exact qr q
theorem jpF {td ty:TE} {fd fk:ef->Option D} (hd:JA td fd) (hk:JA ty fk):EOk (joq td ty) (jq jjj fd fk):=fun G0 H0 G H σ ρ Q d e q k=>by
 obtain ⟨x,qa,q⟩:=bind_some q;obtain ⟨y,qb,q⟩:=bind_some q;obtain ⟨i,ks,ds,rfl,rfl,q⟩:=jkk q;refine hd G0 H0 G H σ ρ _ _ e qa fun u G1 H1 x1 r1=>?_;refine hk G0 H0 G1 H1 σ ρ _ _ (e.grow x1) qb fun v G2 H2 x2 r2=>?_;have r1':=r1.mono x2.gg x2.hh;cases r1' with
 | @dic a _ vs _ h hl r=>
   (have hh:=RepT.of_int r2;subst hh)
   obtain ⟨v,h1,h2⟩:=(jdF r i hl).1 d q;exact ⟨a,v,rfl,.inl ⟨_,Sum.inl i,h,rfl,h1.symm⟩,k v G2 H2 (x1.trans x2) h2⟩
def EOkD (t:TE) (f:ef->Option (List Int×List D)):Prop:=∀G0 H0 G H σ ρ (Q:VK) p,EnvOk G0 H0 G H σ ρ->f ρ=some p->
 (∀a vs G' H',Ext G H G' H'->H a=none->G' a=none->H' a=some (.dK (zi p.1 vs))->p.1.length=vs.length->Reps G' vs p.2->Q (.ref a) H')->t σ H Q
def tFz (t:TE):TE:=fun σ H Q=>t σ H fun v H1=>∃a kvs,v=.ref a/\H1 a=some (.dK kvs)/\∀o,Q v (upd H1 a (.frz o (.dK kvs)))
def jlp (f:ef->Option (List Int×List D)):ef->Option D:=fun ρ=>(f ρ).map fun p=>.dic p.1 p.2
theorem EOkD.e {t:TE} {f:ef->Option (List Int×List D)} (h:EOkD t f):EOk (tFz t) (jlp f):=fun G0 H0 G H σ ρ Q d e q k=>by
 unfold jlp at q;cases z:f ρ with
 | none=>rw [z] at q;cases q
 | some ds=>rw [z] at q;cases q;refine h G0 H0 G H σ ρ _ ds e z fun a vs G' H' x hn hg ha hl r=>⟨a,_,rfl,ha,fun o=>?_⟩;have x':Ext G H G' (upd H' a (.frz o (.dK (zi ds.1 vs)))):=⟨fun b u w=>by rw [jF (jM w hn)];exact x.hh b u w,x.gg,fun b u w=>by rw [jF (jM w hg)];exact x.gh b u w,x.nw⟩;exact k _ _ _ (x'.freeze hn hg jE) (.dic jE hl (r.mono (.upd hg)))
def jlE:ef->Option (List Int×List D):=fun _=>some ([],[])
theorem jqz:EOkD jl5 jlE:=fun G0 H0 G H σ ρ Q p e q k hp hn=>by cases q;exact k hp [] G _ (.new e.same hn) hn (e.same.free hn) (by rw [jE];rfl) rfl .nil
def jhB (fk fv:ef->Option D):ef->Option (List Int×List D):=fun ρ=>match fk ρ,fv ρ with
 | some (.int i),some d=>some ([i],[d])
 | _,_=>none
theorem jpv {tk tv:TE} {fk fv:ef->Option D} (hk:EOk tk fk) (hv:EOk tv fv):EOkD (joJ [(tk,tv)]) (jhB fk fv):=fun G0 H0 G H σ ρ Q p e q k a ha=>by
 unfold jhB at q;split at q
 . rename_i i d z1 z2;cases q;have x0:Ext G H G (upd H a (.dK [])):=.new e.same ha;refine hk _ _ _ _ _ _ _ _ (e.grow x0) z1 fun x G1 H1 x1 r1=>hv _ _ _ _ _ _ _ _ ((e.grow x0).grow x1) z2 fun y G2 H2 x2 r2=>?_
   (have hh:=Rep.of_int r1;subst hh)
   have h2:H2 a=some (.dK []):=(x1.trans x2).hh _ _ jE;have ga:G2 a=none:=(x1.trans x2).gone (e.same.free ha) jE;refine ⟨h2,[(Sum.inl i,y)],rfl,by show 1<=15;decide,?_⟩;have x3:Ext G H G2 H2:=x0.trans (x1.trans x2);refine k a [y] G2 _ ⟨fun b o z=>?_,x3.gg,fun b o z=>?_,x3.nw⟩ ha ga ?_ rfl (.cons r2 .nil)
   . rw [jF (jM z ha)];exact x3.hh b o z
   . rw [jF (jM z ga)];exact x3.gh b o z
   . rw [jE];rfl
 . cases q
def jfR:List D->Option (List Int×List D)
 | [.dic ks ds]=>some (ks,ds)
 | _=>none
def jk8:List V->Hp->VK->Prop:=fun xs H Q=>∃a kvs,xs=[.ref a]/\Rd H a (.dK kvs)/\∀p,H p=none->Q (.ref p) (upd H p (.dK kvs))
theorem jnQ {As:TA} {fs:ef->Option (List D)} (h:jcb As fs):EOkD (tCB jk8 As) (jg jfR fs):=fun G0 H0 G H σ ρ Q p e q k=>by
 obtain ⟨ds,q1,q2⟩:=bind_some q;refine h _ _ _ _ _ _ _ _ e q1 fun vs G1 H1 x1 r1=>?_;unfold jfR at q2;split at q2
 . cases q2;cases r1 with
   | cons r t=>cases t;obtain ⟨_,_,rfl,h,hl,r⟩:=r.of_dic;exact ⟨_,_,rfl,h,fun b hb=>k b _ G1 _ (x1.trans (.new x1.gh hb)) (x1.hh.free hb) (x1.gh.free hb) jE hl r⟩
 . cases q2
def jdQ:List D->Option (List D)
 | [.dic ks _]=>if Jm ks.length then some (ks.map .int) else none
 | _=>none
def jlP:List V->Hp->VK->Prop:=fun xs H Q=>∃a ks vs,xs=[.ref a]/\Rd H a (.dK (zi ks vs))/\ks.length=vs.length/\∀p,H p=none->Q (.ref p) (upd H p (.lst (ks.map V.int)))
theorem jnj:jgZ jlP jdQ:=fun G H xs ds es Q s r q k=>by
 unfold jdQ at q;split at q
 . split at q
   . cases q;cases r with
     | cons r t=>cases t;obtain ⟨_,_,rfl,h,hl,r⟩:=r.of_dic;exact ⟨_,_,_,rfl,h,hl,fun b hb=>k b _ G _ (.new s hb) hb (s.free hb) jE (Reps.of_ints _)⟩
   . cases q
 . cases q
def jg9 (i:Nat) (fo:ef->Option (List Int×List D)):FS:=fun ρ=>match fo ρ with
 | some p=>.next (ρ.set i (.od p.1 p.2))
 | none=>.fail
theorem jpL {te:TE} {fo:ef->Option (List Int×List D)} (i:Nat) (h:EOkD te fo):SOk (jeB te (jaG i)) (jg9 i fo):=fun G0 H0 G H σ ρ E e q=>by
 unfold jg9 at q;split at q
 . rename_i p z;exact h _ _ _ _ _ _ _ _ e z fun a vs G' H' x hn hg hh hl r=>q G' H' _ x.gg (e.setD x hn hg hh hl r)
 . exact q.elim
def jlM (t:TE):TS:=fun D σ H=>t σ H fun v H1=>∃a kvs,v=.ref a/\H1 a=some (.dK kvs)/\∀o,D.rt v (upd H1 a (.frz o (.dK kvs)))
def jgt (i:Nat):FS:=fun ρ=>match ρ[i]? with
 | some (.od ks ds)=>.ret (.dic ks ds)
 | _=>.fail
theorem jqp (i:Nat):SOk (jlM (jfT i)) (jgt i):=fun G0 H0 G H σ ρ E e q=>by
 unfold jgt at q;split at q
 . rename_i ks ds z;obtain ⟨a,vs,h1,h2,h3,h4,hl,h5⟩:=e.od z;refine ⟨_,h1,a,_,rfl,h4,fun o=>?_⟩;have x':Ext G0 H0 G (upd H a (.frz o (.dK (zi ks vs)))):=⟨fun b u w=>by rw [jF (jM w h2)];exact e.ext.hh b u w,e.ext.gg,fun b u w=>by rw [jF (jM w h3)];exact e.same b u w,e.ext.nw⟩;exact q _ _ _ (x'.freeze h2 h3 jE) (.dic jE hl (h5.mono (.upd h3)))
 . exact q.elim
def jeS (ks:List Int) (k:Int):List Int:=if k∈ks then ks else ks++[k]
def jiI (ks:List Int) (ds:List D) (k:Int) (d:D):List D:=if k∈ks then jmv ks ds k d else ds++[d]
theorem jmY {ks:List Int} {vs:List V} {k:Int} (hl:ks.length=vs.length):((zi ks vs).any fun kv=>decide (kv.1=(Sum.inl k:zV)))=decide (k∈ks):=by
 induction ks generalizing vs with
 | nil=>rfl
 | cons i ks ih=>
   cases vs with
   | nil=>cases hl
   | cons v vs=>
     rw [jbD,List.any_cons,ih (by simpa using hl)];by_cases e:i=k
     . subst e;simp
     . have:¬(Sum.inl i:zV)=Sum.inl k:=fun z=>e (by injection z);simp [this,Ne.symm e]
def jcu (i:Nat) (fk fv:ef->Option D):FS:=fun ρ=>match ρ[i]?,fv ρ,fk ρ with
 | some (.od ks ds),some d,some (.int k)=>if Jm ks.length then .next (ρ.set i (.od (jeS ks k) (jiI ks ds k d))) else .fail
 | _,_,_=>.fail
theorem jo4 {tk tv:TE} {fk fv:ef->Option D} (i:Nat) (hk:EOk tk fk) (hv:EOk tv fv):SOk (jod (jfT i) tk tv) (jcu i fk fv):=fun G0 H0 G H σ ρ E e q=>by
 unfold jcu at q;split at q
 . rename_i ks ds d k z1 z2 z3;split at q
   . rename_i hz;obtain ⟨a,vs,h1,h2,h3,h4,hl,h5⟩:=e.od z1;refine hv _ _ _ _ _ _ _ _ e z2 fun v G' H' x r=>⟨_,h1,hk _ _ _ _ _ _ _ _ (e.grow x) z3 fun w G2 H2 x2 r2=>?_⟩
     (have hh:=Rep.of_int r2;subst hh)
     have xx:=x.trans x2;have e':=(e.grow x).grow x2;have h5':=h5.mono xx.gg;have r':=r.mono x2.gg;refine ⟨a,_,rfl,.inl ⟨zi ks vs,Sum.inl k,xx.hh _ _ h4,rfl,by rw [jf3 hl];exact Z9 hz,rfl⟩,?_⟩;have key:jaB (zi ks vs) (Sum.inl k) v=zi (jeS ks k) (if k∈ks then jc9 ks vs k v else vs++[v]):=by
       unfold jaB jeS;rw [jmY hl];by_cases hm:k∈ks
       . rw [if_pos (YU hm),if_pos hm,if_pos hm,jjp hl]
       . rw [if_neg (by simpa using hm),if_neg hm,if_neg hm,jjB hl]
     rw [key];refine q G2 _ σ xx.gg (e'.putD z1 h1 ?_ ?_)
     . unfold jeS;by_cases hm:k∈ks
       . rw [if_pos hm,if_pos hm,jgs hl]
       . rw [if_neg hm,if_neg hm];simp [hl]
     . unfold jiI;by_cases hm:k∈ks
       . rw [if_pos hm,if_pos hm];exact jmw r' h5'
       . rw [if_neg hm,if_neg hm];exact h5'.snoc r'
   . exact q.elim
 . exact q.elim
end
def Itd (a:Addr) (o:Obj):It:=⟨fun i H=>∃ks vs,H a=some (.frz o (.dK (zi ks vs)))/\ks.length=vs.length/\i<ks.length,
 fun i H x H'=>H'=H/\∀ks vs,H a=some (.frz o (.dK (zi ks vs)))->ks.length=vs.length->∃k,ks[i]?=some k/\x=.int k,fun i H=>∃ks vs,H a=some (.frz o (.dK (zi ks vs)))/\ks.length=vs.length/\ks.length<=i⟩
def jsk (tl:TE):TI:=fun σ H R=>tl σ H fun x H1=>∃a o ks vs,x=.ref a/\H1 a=some (.frz o (.dK (zi ks vs)))/\ks.length=vs.length/\R (Itd a o) H1
section
variable [Fr]
def jaP (fe:ef->Option D):ef->Option (List D):=fun ρ=>match fe ρ with
 | some (.dic ks _)=>some (ks.map .int)
 | _=>none
omit [Fr] in
theorem jqt {o o':Obj} {ks ks':List Int} {vs vs':List V} (hl:ks.length=vs.length) (hl':ks'.length=vs'.length) (h:HO.frz o (.dK (zi ks vs))=.frz o' (.dK (zi ks' vs'))):ks=ks':=by injection h with _ h;injection h with h;have e:=congrArg (List.map fun kv:zV×V=>kv.1) h;unfold zi at e;rw [List.map_fst_zip (by simp [hl]),List.map_fst_zip (by simp [hl'])] at e;exact (List.map_inj_right fun x y z=>by injection z).mp e
theorem jsp {te:TE} {fe:ef->Option D} (h:EOk te fe):IOk (jsk te) (jaP fe):=fun G0 H0 G H σ ρ R ds e q k=>by
 unfold jaP at q;split at q
 . rename_i ks' ds' z;cases q;refine h _ _ _ _ _ _ _ _ e z fun v G1 H1 x1 r1=>?_;cases r1 with
   | @dic a o _ vs _ h hl r=>refine ⟨a,o,ks',vs,rfl,x1.gh _ _ h,hl,k (Itd a o) G1 H1 x1 fun i G2 H2 s1 s2 s3=>?_⟩;have h2:H2 a=some (.frz o (.dK (zi ks' vs))):=s2 _ _ h;refine ⟨fun d hd=>?_,fun hd=>⟨ks',vs,h2,hl,by simpa using hd⟩⟩;rw [List.getElem?_map] at hd;obtain ⟨i',hi,rfl⟩:=map_some hd;refine ⟨⟨ks',vs,h2,hl,(Yo.mp hi).1⟩,fun x H' ⟨e1,e2⟩=>?_⟩;obtain ⟨k',hk',rfl⟩:=e2 ks' vs h2 hl;rw [hi] at hk';cases hk';subst e1;exact ⟨G2,.refl s3,.int _⟩
 . cases q
end
section
variable {X:Cx}
theorem jpz (hu:X.A.units+1<cLine):OpR X (compareOp .In) (jpA false):=fun tf s σ H x y v u Q I rx ry ⟨a,o,e,g,q⟩=>by subst e;obtain rfl:u=Value.ref a:=ry;exact js2 hu I g rx fun s' I'=>⟨.bl o.isSome,H,I',rfl,by simpa using q⟩
theorem jkf (hu:X.A.units+1<cLine):OpR X (compareOp .NotIn) (jpA true):=fun tf s σ H x y v u Q I rx ry ⟨a,o,e,g,q⟩=>by subst e;obtain rfl:u=Value.ref a:=ry;exact jnK hu I g rx fun s' I'=>⟨.bl (!o.isSome),H,I',rfl,by cases o <;> exact q⟩
theorem jij:CallR X (.type "dict") jk8:=fun tf s σ H xs us Q I r ⟨a,kvs,e,h,q⟩=>by subst e;obtain ⟨u,rfl,ru⟩:=jcm r;cases ru;exact jlB I h fun p s' hp I'=>⟨.ref p,_,I',rfl,q p hp⟩
theorem Inv.fz {tf:List (Addr×Obj)} {σ:St} {H:Hp} {s:Shared} {a:Addr} {kvs:List (zV×V)} (I:Inv X tf σ H s) (h:H a=some (.dK kvs)):∃o,Inv X tf σ (upd H a (.frz o (.dK kvs))) s:=by
 have ok:=(show ObjOk X.prog X.w H s.heap a (.dK kvs) from I.hok a _ h);obtain ⟨o,ho⟩:∃o,s.heap.get? a=some o:=let ⟨_,_,_,_,o,_,_,e,_⟩:=ok;⟨o,e⟩;have ne:∀b (u:HO),H b=some u->u≠.dK kvs->b≠a:=fun b u e hu z=>by subst z;rw [h] at e;exact hu (Option.some.inj e).symm
 refine ⟨o,?_⟩;have:=I.un (t':=s.toks) (h':=s.heap) (H':=upd H a (.frz o (.dK kvs))) ⟨fun b ob e _ _ _=>e,fun b ob e _ _ _=>⟨ob.slots,e⟩,fun b ob _ n _=>by rw [jF fun z=>by subst z;rw [h] at n;cases n];exact n,fun b ob e _=>⟨ob,e⟩,
  fun b xs e=>by rw [jF (ne b _ e (fun z=>by cases z))];exact e,fun b ob u e=>by rw [jF (ne b _ e (fun z=>by cases z))];exact e,fun b ps e=>⟨#[],by rw [jF (ne b _ e (fun z=>by cases z)),Array.append_empty];exact e⟩⟩ ?_
 . exact this
 . intro b u e;by_cases hb:b=a
   . subst hb;rw [jE] at e;cases e;exact ⟨ho,ok⟩
   . rw [jF hb] at e;refine (I.hok b u e).stay (fun c v _ q=>q) (fun c q=>?_) fun c xs q=>?_
     . rw [jF (ne c _ q (fun z=>by cases z))];exact q
     . rw [jF (ne c _ q (fun z=>by cases z))];exact q
theorem jsj {e:Expr} {t:TE} (he:PE X e t):PE X e (tFz t):=fun tf s σ H Q I h=>qI (he tf s σ H _ I h) fun v s1 ⟨x,H1,I1,r1,a,kvs,ex,ha,q⟩=>let ⟨o,I2⟩:=I1.fz ha;⟨x,_,I2,r1,q o⟩
theorem jlm {e:Expr} {t:TE} {pos:Pos} (he:PE X e t):PS X (.Return (some e) pos) (jlM t):=fun tf s σ H D I h=>
 wpAny_Return_some (qI (he tf s σ H _ I h) fun v s1 z=>by obtain ⟨x,H1,I1,r1,a,kvs,ex,ha,q⟩:=z;obtain ⟨o,I2⟩:=I1.fz ha;exact ⟨x,σ,_,I2,r1,q o⟩)
def epO (o:Obj):Nat:=match o.data with
 | .dict _ ep=>ep
 | _=>0
def szO (o:Obj):Nat:=match o.data with
 | .dict es _=>es.size
 | _=>0
theorem jk4 {tf:List (Addr×Obj)} {σ:St} {H:Hp} {s:Shared} {a:Addr} {o:Obj} {kvs:List (zV×V)} (I:Inv X tf σ H s) (h:H a=some (.frz o (.dK kvs))) :
 ∃vs,KV kvs vs/\s.heap.DictAt (qf X.prog X.w) a vs (epO o)/\vs.length=szO o/\(a == sysModules)=false/\kvs.length<=sizeLine:=by
 obtain ⟨ho,z,hd,vs,r,o',es,ep,h1,h2,h3,h4,h5,h6⟩:=(show ObjOk X.prog X.w H s.heap a (.frz o (.dK kvs)) from I.hok a _ h);rw [ho] at h1;cases h1;have e1:epO o=ep:=by unfold epO;rw [h3]
 have e2:szO o=es.size:=by unfold szO;rw [h3]
 refine ⟨vs,r,⟨o,es,ho,h2,by rw [e1];exact h3,h4,h5,h6⟩,?_,hd,z⟩;rw [e2,<- h5.length];simp
theorem jiD {P:Program} {w:World} {i:Int} {u:Value} (h:(qf P w).is (Sum.inl i) u=true):RelV (.int i) u:=by have h':ZV (Sum.inl i) u=true:=h;cases u <;> simp [ZV,Value.isInt] at h' <;> first | (subst h';exact ⟨_,rfl⟩) | skip
theorem jk5 {ks:List Int} {vs:List V} {ws:List (zV×Value)} (hl:ks.length=vs.length) (r:KV (zi ks vs) ws):ws.length=ks.length/\∀(i:Nat) k,ks[i]?=some k->∃u,ws[i]?=some (Sum.inl k,u):=by
 have tL:ws.length=ks.length:=by rw [<-KV.length r,jf3 hl]
 refine ⟨tL,fun i k hk=>?_⟩;have hi:i<vs.length:=by rw [<-hl];exact (Yo.mp hk).1
 have hz:(zi ks vs)[i]?=some (Sum.inl k,vs[i]):=by unfold zi;rw [YT];exact ⟨by rw [List.getElem?_map,hk];rfl,Ya hi⟩
 obtain ⟨q,hq,e1,e2⟩:=Paired.get r hz;exact ⟨q.2,by rw [hq];congr 1;exact Prod.ext e1.symm rfl⟩
theorem jkn {P:Program} {w:World} {K:PySem.W.Frag} {tg:Expr} (a it:Addr) (o:Obj):Turn P w K tg (Itd a o) [it] it (fun i h=>h.IsKeyIter it a i (szO o) (epO o)) where
 mem:=by simp
 obj:=fun i h st b hb=>by
  have e:b=it:=by simpa using hb
  subst e;obtain ⟨o,e,c,d⟩:=st;exact ⟨o,e,fun v z=>by rw [d] at z;cases z⟩
 keep:=fun i h h' st k=>st.at fun o e=>k it (by simp) o e
 item:=by intro X hP hw hK hc i tf s σ H E I hf st hg;subst hP hw hK;obtain ⟨ks,vs,hq,hl,hi⟩:=hg;obtain ⟨ws,r,dd,hn,hd,_⟩:=jk4 I hq;obtain ⟨tL,hat⟩:=jk5 hl r;obtain ⟨u,hu⟩:=hat i ks[i] (Ya hi);obtain ⟨f0,f1,f2,f3,f4,f5⟩:=hf it (by simp);rw [<-hn] at st;refine wpAny_pyNext_dict_item st dd hu fun key h' hkey st' sb=>?_;rw [hn] at st';have I1:Inv X tf σ H { s with heap:=h' }:=I.turned (t':=s.toks) (fun b o hb e=>(sb.2 b hb).trans e) f0 f1 f3 f4 f5;obtain ⟨o',e,c,d⟩:=id st';refine ⟨key,rfl,jjg (s:={ s with heap:=h' }) e c d (by decide) ⟨.int ks[i],H,I1,jiD hkey,⟨rfl,fun ks' vs' hq' hl'=>?_⟩,st',fun b hb=>(hf b hb).1⟩⟩;rw [hq] at hq';have:=jqt hl hl' (Option.some.inj hq');subst this;exact ⟨_,Ya hi,rfl⟩
 done:=by intro X hP hw hK hc i tf s σ H E I hf st hg;subst hP hw hK;obtain ⟨ks,vs,hq,hl,hi⟩:=hg;obtain ⟨ws,r,dd,hn,hd,_⟩:=jk4 I hq;obtain ⟨tL,hat⟩:=jk5 hl r;obtain ⟨f0,f1,f2,f3,f4,f5⟩:=hf it (by simp);rw [<-hn] at st;exact wpAny_pyNext_dict_end (I.ok.hd hc) st dd (YE (by omega)) fun h' eb=>⟨rfl,I.turned (t':=s.toks) (fun b o hb e=>eb b o hb e) f0 f1 f3 f4 f5⟩
 self:=fun _ _ _ _ _ st h=>wpAny_pyIter_keyiter st h
theorem jni {tg l:Expr} {tl:TE} (hl:PE X l tl):PI X tg l (jsk tl):=by
 intro tf s σ H R I h;refine qI (hl tf s σ H _ I h) fun v s1 zz=>?_;obtain ⟨x,H1,I1,r1,q1⟩:=zz;obtain ⟨a,o,ks,vs,e,hq,tL,q⟩:=q1;subst e;cases r1;obtain ⟨ws,r,dd,hn,hd,_⟩:=jk4 I1 hq;refine wpAny_pyIter_dict hd dd ?_;rw [hn];refine ⟨s1.heap.objs.size,[s1.heap.objs.size],_,_,H1,rfl,I1.kept (t':=s1.toks) fun b o e=>Yj _ e,jkn a _ o,⟨_,YA _ rfl,rfl,rfl⟩,fun b hb=>?_,q⟩;have e:b=s1.heap.objs.size:=by simpa using hb
 subst e;exact I1.fpOk (Ys _) (I1.hok.fresh (Ys _))
end
end L2
namespace L2
open PySem PySem.Spec PyProof.Rows
section
variable {X:Cx}
theorem jh5 (hc:X.calm=true):CallR X (.type "list") jlP:=fun tf s σ H xs us Q I r ⟨a,ks,vs,e,h,hl,q⟩=>by
 subst e;obtain ⟨u,rfl,ru⟩:=jcm r;cases ru;obtain ⟨z,hd,ws,rel,dd⟩:=jag I.hok h;obtain ⟨ep,dat⟩:=dd.dictAt;obtain ⟨tL,hat⟩:=jk5 hl rel;refine PySem.W.kdl_call (PySem.W.kdl_dict (knd:=qf X.prog X.w) (kvs:=ws) (ep:=ep) hd) (I.ok.hd hc) dat (by rw [tL,<- jf3 hl];exact z) fun h' tk tI c hk hD hacc=>?_;have hv:Vals (ks.map V.int) tI.toList:=Paired.of (by rw [Yd,<- tL,<- hacc.1];simp) fun i x y e1 e2=>by rw [List.getElem?_map] at e1;obtain ⟨k,hk',rfl⟩:=map_some e1;obtain ⟨k',u,h1,h2⟩:=hacc.2 i y (by rw [<-yI];exact e2);obtain ⟨u',hu'⟩:=hat i k hk';rw [hu'] at h1;cases h1;exact jiD h2
 refine ⟨.ref s.heap.objs.size,_,I.laid (a:=s.heap.objs.size) (o:=.lst (ks.map V.int)) (t':=tk) hk (Ys _) ⟨by rw [Yd,<- jf3 hl];exact z,tI.toList,c,hv,by rw [Array.toArray_toList];exact hD⟩,rfl,q _ (I.hok.fresh (Ys _))⟩
end
section
variable {prog:Program} {w:World} {A:Around} {E:Value->Shared->Prop} {s:Shared}
def Z0:Int:=0xFCA86420
theorem jhw {Q:Int->Shared->Prop} (h:Q Z0 { s with toks:=s.toks+1 }):wpAny (model prog w) A (pyHash .none) Q E s:=by
 have hT:s.TypeIs .none "NoneType":=rfl;unfold pyHash pyHashByItsType;refine Yc ?_;rw [cRoomFor,if_neg (by decide)];refine Yk ?_;refine Yc (yQ hT F.slot_NoneType_hash.lookup ?_);show wpAny _ _ (if (some (Value.builtin "NoneType.__hash__") == some Value.none)=true then _ else _) Q E s;rw [if_neg (by rw [beq_builtin_none];exact Yh)];refine Yc (yQ hT F.slot_NoneType_hash.lookup ?_);show wpAny _ _ (callSpecialIfBoundUnlessNone? .none "__hash__" _ >>= _) Q E s;refine Yc (wpAny_callSpecialIfBoundUnlessNone?_slot hT F.slot_NoneType_hash
  (yB F.slot_NoneType_hash hT F.entry_NoneType_hash
   (show wpAny _ _ (do ret (<- mkInt Z0)) _ _ s from wpAny_ret_mkInt ?_) (F.args_NoneType_hash_1 _)))
 show wpAny _ _ (if (decide (-(2:Int) ^ 63<=Z0) && decide (Z0<2 ^ 63))=true then _ else _) Q E _;rw [if_pos (by decide)];exact Yk h
def jfC:Option zV->Value->Bool
 | some k,v=>ZV k v
 | none,.none=>true
 | none,_=>false
theorem qx {k:Option zV} {v:Value} (h:jfC k v=true):(k=none/\v=.none)\/∃k',k=some k'/\ZV k' v=true:=by
 cases k with
 | some k=>exact .inr ⟨k,rfl,h⟩
 | none=>cases v <;> first | exact .inl ⟨rfl,rfl⟩ | cases h
theorem jiO {k:zV} {v:Value} (h:ZV k v=true):RelV (kV k) v/\jgv (kV k)=true:=by
 rcases qg h with ⟨i,t,rfl,rfl⟩ | ⟨x,t,rfl,rfl⟩
 . exact ⟨⟨t,rfl⟩,rfl⟩
 . exact ⟨⟨t,rfl⟩,rfl⟩
def ji5 (prog:Program) (w:World):PySem.KeyKind prog w (Option zV) where
 is:=jfC
 hash:=fun k=>match k with | some k=>jrF w k | none=>Z0
 inj:=fun v a b ha hb=>by
   rcases qx ha with ⟨rfl,rfl⟩ | ⟨a',rfl,ha'⟩
   . rcases qx hb with ⟨rfl,_⟩ | ⟨b',rfl,hb'⟩
     . rfl
     . rcases qg hb' with ⟨i,t,_,e⟩ | ⟨x,t,_,e⟩ <;> cases e
   . rcases qx hb with ⟨rfl,rfl⟩ | ⟨b',rfl,hb'⟩
     . rcases qg ha' with ⟨i,t,_,e⟩ | ⟨x,t,_,e⟩ <;> cases e
     . rw [(qf prog w).inj v a' b' ha' hb']
 byValue:=fun k v h=>by
   rcases qx h with ⟨rfl,rfl⟩ | ⟨k',rfl,h'⟩
   . rfl
   . exact (qf prog w).byValue k' v h'
 pyHash:=fun {A E s k v Q} hv h=>by
   rcases qx hv with ⟨rfl,rfl⟩ | ⟨k',rfl,h'⟩
   . exact jhw h
   . exact (qf prog w).pyHash h' h
 eqBool:=fun {A E s a b u v Q} hu hv h=>by
   rcases qx hu with ⟨rfl,rfl⟩ | ⟨a',rfl,ha'⟩
   . rcases qx hv with ⟨rfl,rfl⟩ | ⟨b',rfl,hb'⟩
     . exact jfU (y:=.non) (x:=.non) rfl rfl rfl rfl prog w E Q (by simpa [eqV] using h)
     . obtain ⟨r,f⟩:=jiO hb';have e:eqV .non (kV b')=false:=by cases b' <;> rfl
       exact jfU (y:=.non) rfl r rfl f prog w E Q (by rw [e];simpa using h)
   . rcases qx hv with ⟨rfl,rfl⟩ | ⟨b',rfl,hb'⟩
     . obtain ⟨r,f⟩:=jiO ha';have e:eqV (kV a') .non=false:=by cases a' <;> rfl
       exact jfU (x:=.non) r rfl f rfl prog w E Q (by rw [e];simpa using h)
     . refine (qf prog w).eqBool ha' hb' ?_;have e:decide (some a'=some b')=decide (a'=b'):=by
        by_cases z:a'=b'
        . subst z;simp
        . have:¬some a'=some b':=fun q=>z (Option.some.inj q);rw [Y1 z,Y1 this]
       rw [e] at h;exact h
 «strs»:=fun k x t v h=>by
   rcases qx h with ⟨rfl,e⟩ | ⟨k',rfl,h'⟩
   . cases e
   . exact (qf prog w).strs k' x t v h'
end
section
variable {X:Cx} {tf:List (Addr×Obj)} {σ:St} {H:Hp} {s:Shared} {a:Addr} {A:Around} {E:Value->Shared->Prop}
theorem jkX {kvs:List (zV×V)} (I:Inv X tf σ H s) (e:Rd H a (.dK kvs)):∃f,s.heap.MapOf (ji5 X.prog X.w) a f/\f none=none:=by
 obtain ⟨z,hd,vs,rel,dd⟩:=jag I.hok e;obtain ⟨o,es,ep,h1,h2,h3,h4,h5,h6⟩:=dd;refine ⟨findBy jfC es,⟨o,es,ep,h1,h2,h3,fun q hq=>?_,fun k=>rfl⟩,?_⟩
 . obtain ⟨k,k1,k2⟩:=h4 q hq;exact ⟨some k,k1,k2⟩
 . unfold findBy;have:es.find? (fun q=>jfC none q.key)=none:=by
    rw [Array.find?_eq_none];intro q hq hn;obtain ⟨k,k1,k2⟩:=h4 q hq;rcases qx hn with ⟨_,e⟩ | ⟨k',e,_⟩
    . rcases qg k1 with ⟨i,t,_,e'⟩ | ⟨x,t,_,e'⟩ <;> · rw [e] at e';cases e'
    . cases e
   rw [this];rfl
theorem jo9 {kvs:List (zV×V)} {Q:Value → Shared → Prop} (I:Inv X tf σ H s) (e:Rd H a (.dK kvs)) (h:∀s',Inv X tf σ H s' → Q .none s'):wpAny ‹"f"› A (call (.builtin "dict.get") [.ref a,.none]) Q E s:=by obtain ⟨z,hd,vs,rel,dd⟩:=jag I.hok e;obtain ⟨f,hm,hf⟩:=jkX I e;refine call_meetsIn Kp dd.typeIs KU (KQ _ _) (meets_dict_get (ji5 X.prog X.w) a (k:=none) rfl hd) ⟨f,hm,?_⟩;rw [hf];exact h _ (I.tok _)
end
def jmm (td ty:TE):TE:=fun σ H Q=>td σ H fun x H1=>∃a,x=.ref a/\IsD H1 a/\ty σ H1 fun y H2=>(∃o,jgW H2 a y o/\Q (o.getD .non) H2)\/(y=.non/\(∃kvs,Rd H2 a (.dK kvs))/\Q .non H2)
theorem jkS {X:Cx} {o e:Expr} {apos cpos:Pos} {td ty:TE} (hu:X.A.units+1<cLine) (ho:PE X o td) (he:PE X e ty) (m:M1 X o "get" apos e cpos):PE X (.Call (.Attribute o "get" apos) [e] [] cpos) (jmm td ty):=by
 intro tf s σ H Q I h;refine wpAny_Call_method m.base m.few m.line PySem.F.plainAttrs_dict Kp PySem.F.type_dict_get (qI (ho tf s σ H _ I h) fun u s1 z=>?_);obtain ⟨x,H1,I1,rx,a,ex,d,q1⟩:=z;subst ex;obtain rfl:u=Value.ref a:=rx;obtain ⟨t1,t2,_⟩:=jpc I1 d;refine ⟨t1,t2,?_⟩;rw [m.trees];refine Calls.callWith_builtin rfl (Calls.evalArgs_plain (KR (qI (he tf s1 σ H1 _ I1 q1) fun iv s2 z=>K0 ?_)));obtain ⟨y,H2,I2,ry,q2⟩:=z;rcases q2 with ⟨ov,g,q2⟩ | ⟨ey,⟨kvs,g⟩,q2⟩
 . exact jp0 hu I2 g ry fun w' s3 I3 rw'=>⟨_,H2,I3,rw',q2⟩
 . subst ey;obtain rfl:iv=Value.none:=ry;exact jo9 I2 g fun s3 I3=>⟨.non,H2,I3,rfl,q2⟩
section
variable [Fr]
def jb4:D->D->Option D
 | .dic ks ds,.int i=>some ((zH ks ds i).getD .non)
 | .dic _ _,.non=>some .non
 | _,_=>none
theorem jhQ {x y d:D} (q:jb4 x y=some d):∃ks ds,x=.dic ks ds/\((∃i,y=.int i/\(zH ks ds i).getD .non=d)\/(y=.non/\D.non=d)):=by
 cases x with
 | dic ks ds=>
   refine ⟨ks,ds,rfl,?_⟩;cases y with
   | int i=>exact .inl ⟨i,rfl,Option.some.inj q⟩
   | non=>exact .inr ⟨rfl,Option.some.inj q⟩
   | _=>exact qr q
 | _=>exact qr q
theorem jm6 {td ty:TE} {fd fk:ef->Option D} (hd:JA td fd) (hk:JA ty fk):EOk (jmm td ty) (jq jb4 fd fk):=fun G0 H0 G H σ ρ Q d e q k=>by
 obtain ⟨x,qa,q⟩:=bind_some q;obtain ⟨y,qb,q⟩:=bind_some q;obtain ⟨ks,ds,rfl,qz⟩:=jhQ q;clear q;refine hd G0 H0 G H σ ρ _ _ e qa fun u G1 H1 x1 r1=>?_;cases r1 with
 | @dic a _ vs _ h hl r=>
   refine ⟨a,rfl,.inl ⟨_,h⟩,hk G0 H0 G1 H1 σ ρ _ y (e.grow x1) qb fun v G2 H2 x2 r2=>?_⟩;have h':=h.same x2.hh;rcases qz with ⟨i,rfl,rfl⟩ | ⟨rfl,rfl⟩
   . (have hh:=RepT.of_int r2;subst hh)
     have r':=r.mono x2.gg;obtain ⟨l1,l2⟩:=jdF r' i hl;refine .inl ⟨_,.inl ⟨_,Sum.inl i,h',rfl,rfl⟩,?_⟩;cases z:zH ks ds i with
     | none=>rw [l2 z];exact k _ G2 H2 (x1.trans x2) (by rw [z];exact .non)
     | some d'=>obtain ⟨v,hv,rv⟩:=l1 d' z;rw [hv];exact k _ G2 H2 (x1.trans x2) (by rw [z];exact rv)
   . (have hh:=RepT.of_non r2;subst hh)
     exact .inr ⟨rfl,⟨_,h'⟩,k _ G2 H2 (x1.trans x2) .non⟩
end
end L2
namespace L2
open PySem PySem.Spec PyProof.Rows
section
variable [Fr]
def joY (t:TE) (f:ef->Option (List (List D))):Prop:=∀G0 H0 G H σ ρ (Q:VK) dss,EnvOk G0 H0 G H σ ρ->f ρ=some dss->
 (∀a bs G' H',Ext G H G' H'->(∀b∈a::bs,H b=none/\G' b=none)->(a::bs).Nodup->H' a=some (.lst (bs.map V.ref))->Rows G' H' bs dss->Q (.ref a) H')->t σ H Q
def jcJ (m:D->ef->Option ef) (ft:ef->Option Bool) (fe:ef->Option (List D)) (ρ:ef):List D->Option (List (List D))
 | []=>some []
 | d::ds=>(m d ρ).bind fun ρ1=>(ft ρ1).bind fun b=>if b then (fe ρ1).bind fun y=>(jcJ m ft fe ρ ds).map (y::·) else jcJ m ft fe ρ ds
def jmg (fi:ef->Option (List D)) (m:D->ef->Option ef) (ft:ef->Option Bool) (fe:ef->Option (List D)) (n:Nat) (ix:List Nat):ef->Option (List (List D)):=fun ρ=>(fi ρ).bind fun ds=>if Jm ds.length then jcJ m ft fe (JE n ix ρ) ds else none
theorem Rows.snoc {G H:Hp} {bs:List Addr} {dss:List (List D)} {b:Addr} {us:List V} {ds:List D} (h:Rows G H bs dss) (hb:H b=some (.lst us)) (r:Reps G us ds):Rows G H (bs++[b]) (dss++[ds]):=by
 induction h with
 | nil=>exact .cons hb r .nil
 | cons h q t ih=>exact .cons h q ih
theorem jsf {wi:TI} {fi:ef->Option (List D)} {g:TG} {m:D->ef->Option ef} {tt:TT} {ft:ef->Option Bool} {te:TE} {fe:ef->Option (List D)} (n:Nat) (ix:List Nat) (hi:jkj wi fi) (hg:GOk g m) (ht:TOk tt ft) (he:EOkO te fe) :
 joY (tLC wi g tt te n ix) (jmg fi m ft fe n ix):=fun G0 H0 G H σ ρ Q es e q k=>by
 obtain ⟨ds,q1,q2⟩:=bind_some q;split at q2
 . rename_i hz;refine hi _ _ _ _ _ _ _ _ e q1 fun J G1 H1 x1 it=>?_;refine ⟨fun i n' ys H'=>n'=ds.length-i/\i<=ds.length/\ys.length<=i/\∃G' gs hs bs,Ext G1 H1 G' H'/\ys=bs.map V.ref/\bs.Nodup/\(∀b∈bs,H1 b=none/\G' b=none)/\Rows G' H' bs gs/\jcJ m ft fe (JE n ix ρ) (ds.drop i)=some hs/\gs++hs=es,
    ⟨_,rfl,yE _,Ys _,G1,[],es,[],.refl x1.gh,rfl,List.nodup_nil,(fun b hb=>absurd hb YG),Rows.nil,q2,rfl⟩,?_⟩
   rintro i n' ys H' ⟨rfl,hl,hy,G',gs,hs,bs,x2,ey,nd,own,rows,hlc,hes⟩;have hz':=Z9 hz;obtain ⟨go,stop⟩:=it i G' H' x2.gg x2.hh x2.gh;by_cases hlt:i<ds.length
   . have hd:ds[i]?=some ds[i]:=Ya hlt;obtain ⟨g1,g2⟩:=go _ hd;rw [KG hlt] at hlc;simp only [jcJ] at hlc;obtain ⟨ρ1,hm,hlc⟩:=bind_some hlc;obtain ⟨b,hb,hlc⟩:=bind_some hlc;refine .inr ⟨g1,by omega,fun ys' H'=>ys'.length<=i+1/\∃G' gs hs bs,Ext G1 H1 G' H'/\ys'=bs.map V.ref/\bs.Nodup/\(∀b∈bs,H1 b=none/\G' b=none)/\Rows G' H' bs gs/\jcJ m ft fe (JE n ix ρ) (ds.drop (i+1))=some hs/\gs++hs=es,fun ys' H' ⟨a0,a⟩=>⟨_,by omega,rfl,by omega,a0,a⟩,fun x H2 y=>?_⟩;obtain ⟨G2,x3,r3⟩:=g2 x H2 y;have e3:EnvOk G0 H0 G2 H2 (Qd n σ ix) (JE n ix ρ):=(jlF n ix e).grow ‹"aI"›;refine hg _ _ _ _ _ _ _ _ _ _ e3 r3 hm fun σ2 e4=>ht _ _ _ _ _ _ _ _ e4 hb fun G4 H4 x4=>?_;have x24:=(x2.trans x3).trans x4;have x34:=x3.trans x4;have keep:∀{G5 H5:Hp},Ext G' H' G5 H5->(∀b∈bs,H1 b=none/\G5 b=none)/\Rows G5 H5 bs gs:=fun {G5 H5} x=>⟨fun b hb=>by
       obtain ⟨us,hu⟩:=rows.there b hb;exact ⟨(own b hb).1,x.gone (own b hb).2 hu⟩,rows.keep x.gg fun b hb=>by
       obtain ⟨us,hu⟩:=rows.there b hb;rw [hu];exact x.hh _ _ hu⟩
     cases b with
     | false=>rw [if_neg Yh] at hlc ⊢;exact ⟨by omega,G4,gs,hs,bs,x24,ey,nd,(keep x34).1,(keep x34).2,hlc,hes⟩
     | true=>
       rw [if_pos rfl] at hlc ⊢;obtain ⟨y',hy',hlc⟩:=bind_some hlc;obtain ⟨hs',hh,hlc⟩:=map_some hlc;subst hlc;refine he _ _ _ _ _ _ _ _ (e4.grow x4) hy' fun a us G5 H5 x5 hn hgn ha r5=>?_;have k5:=keep (x34.trans x5);have na:a∉bs:=fun z=>by obtain ⟨us,hu⟩:=rows.there a z;rw [x34.hh _ _ hu] at hn;cases hn
       refine ⟨by simp;omega,G5,gs++[y'],hs',bs++[a],x24.trans x5,by rw [ey,YW];rfl,?_,fun c hc=>?_,k5.2.snoc ha r5,hh,by simpa using hes⟩
       . rw [List.nodup_append];refine ⟨nd,by simp,fun c hc d hd z=>?_⟩;rw [Yu.mp hd] at z;exact na (z ▸ hc)
       . rcases YV.mp hc with hc | hc
         . exact k5.1 c hc
         . rw [Yu.mp hc];exact ⟨x24.hh.free hn,hgn⟩
   . have hd:ds[i]?=none:=YY.mpr (by omega);rw [KY (by omega)] at hlc;cases hlc;rw [yH] at hes;subst hes;refine .inl ⟨stop hd,by omega,fun p hp=>?_⟩;have np:∀b∈bs,b≠p:=fun b hb z=>by obtain ⟨us,hu⟩:=rows.there b hb;rw [z,hp] at hu;cases hu
     refine k p bs G' _ ((x1.trans x2).trans (.new x2.gh hp)) (fun b hb=>?_) (yu.mpr ⟨fun z=>np p z rfl,nd⟩) (by rw [jE,ey]) (rows.keep (.refl _) fun b hb=>jF (np b hb));rcases Yr.mp hb with rfl | hb
     . exact ⟨(x1.trans x2).hh.free hp,x2.gh.free hp⟩
     . exact ⟨x1.hh.free (own b hb).1,(own b hb).2⟩
 . cases q2
def jel (i:Nat) (fo:ef->Option (List (List D))):FS:=fun ρ=>match fo ρ with
 | some dss=>.next (ρ.set i (.oo dss))
 | none=>.fail
theorem jmQ {te:TE} {fo:ef->Option (List (List D))} (i:Nat) (h:joY te fo):SOk (jeB te (jaG i)) (jel i fo):=fun G0 H0 G H σ ρ E e q=>by
 unfold jel at q;split at q
 . rename_i dss z;exact h _ _ _ _ _ _ _ _ e z fun a bs G' H' x hn nd ha r=>q G' H' _ x.gg (e.setOO x hn nd ha r)
 . exact q.elim
def joP:V->V->Hp->VK->Prop:=fun o i H Q=>∃p xs k v,o=.ref p/\i=.int k/\H p=some (.lst xs)/\0<=k/\xs[k.toNat]?=some v/\Q v H
def asI:D->Option Int
 | .int i=>some i
 | _=>none
def jsl:Slot->Option (List (List D))
 | .oo d=>some d
 | _=>none
theorem jeR {o:Option D} {i:Int} (h:o.bind asI=some i):o=some (.int i):=by obtain ⟨d,h1,h2⟩:=bind_some h;cases d <;> cases h2;exact h1
theorem jqJ {o:Option Slot} {d:List (List D)} (h:o.bind jsl=some d):o=some (.oo d):=by obtain ⟨s,h1,h2⟩:=bind_some h;cases s <;> cases h2;exact h1
def jgb (i:Nat) (fk fl fv:ef->Option D) (g:Int->Int->Int) (ρ:ef):Option ef:=
 (ρ[i]?.bind jsl).bind fun dss=>((fk ρ).bind asI).bind fun k=>((fl ρ).bind asI).bind fun l=>((fv ρ).bind asI).bind fun z=>if 0<=k/\0<=l then dss[k.toNat]?.bind fun ds=>(ds[l.toNat]?.bind asI).map fun y=>ρ.set i (.oo (dss.set k.toNat (ds.set l.toNat (.int (g y z))))) else none
def jdU (i:Nat) (fk fl fv:ef->Option D) (g:Int->Int->Int):FS:=fun ρ=>match jgb i fk fl fv g ρ with
 | some ρ'=>.next ρ'
 | none=>.fail
theorem jqY {tk tl tv:TE} {fk fl fv:ef->Option D} {g:Int->Int->Int} (i:Nat) (hk:JA tk fk) (hl:EOk tl fl) (hv:EOk tv fv):SOk (joy (tOp (rIx Fr.K) (jfT i) tk) tl tv joP (ipI g) jmz) (jdU i fk fl fv g):=fun G0 H0 G H σ ρ E e q=>by
 unfold jdU at q;cases hq:jgb i fk fl fv g ρ with
 | none=>rw [hq] at q;exact q.elim
 | some ρ'=>
 rw [hq] at q;unfold jgb at hq;obtain ⟨dss,z1,hq⟩:=bind_some hq;obtain ⟨k,z2,hq⟩:=bind_some hq;obtain ⟨l,z3,hq⟩:=bind_some hq;obtain ⟨z,z4,hq⟩:=bind_some hq;by_cases hkl:0<=k/\0<=l
 case neg=>rw [if_neg hkl] at hq;cases hq
 rw [if_pos hkl] at hq;obtain ⟨ds,hds,hq⟩:=bind_some hq;obtain ⟨y,hy,hq⟩:=map_some hq;subst hq;replace z1:=jqJ z1;replace z2:=jeR z2;replace z3:=jeR z3;replace z4:=jeR z4;replace hy:=jeR hy;obtain ⟨a,bs,h1,h2,h3,h4,h5⟩:=e.oo z1;obtain ⟨b,us,b1,b2,b3⟩:=h5.get hds;have hkb:k.toNat<bs.length:=(Yo.mp b1).1;refine ⟨_,h1,hk _ _ _ _ _ _ _ _ e z2 fun kv G1 H1 x1 r1=>?_⟩
 (have hh:=RepT.of_int r1;subst hh)
 refine .inl ⟨a,bs.map V.ref,k,.ref b,rfl,rfl,.inl (.inl (x1.hh _ _ h2)),?_,hl _ _ _ _ _ _ _ _ (e.grow x1) z3 fun lv G2 H2 x2 r2=>?_⟩
 . unfold atI ixN;rw [if_pos hkl.1,Yd,if_pos (by omega)];show (bs.map V.ref)[k.toNat]?=_;rw [List.getElem?_map,b1];rfl
 (have hh:=Rep.of_int r2;subst hh)
 obtain ⟨v,hv1,hv2⟩:=b3.get hy
 (have hh:=Rep.of_int hv2;subst hh)
 have x12:=x1.trans x2;refine ⟨b,us,l,.int y,rfl,rfl,x12.hh _ _ b2,hkl.2,hv1,hv _ _ _ _ _ _ _ _ (e.grow x12) z4 fun zv G3 H3 x3 r3=>?_⟩
 (have hh:=Rep.of_int r3;subst hh)
 have x13:=x12.trans x3;refine ⟨y,z,rfl,rfl,b,us,l,l.toNat,rfl,rfl,x13.hh _ _ b2,?_,?_⟩
 . have:l.toNat<us.length:=(Yo.mp hv1).1;unfold ixN;rw [if_pos hkl.2,if_pos (by omega)]
 . exact q G3 _ σ x13.gg ((e.grow x13).putOO z1 h1 (x13.hh _ _ h2) b1 ((b3.mono x13.gg).set (.int _) _))
def jp5:Slot->Option D
 | .sh d=>some d
 | _=>none
theorem jpZ {o:Option Slot} {d:D} (h:o.bind jp5=some d):o=some (.sh d):=by obtain ⟨s,h1,h2⟩:=bind_some h;cases s <;> cases h2;exact h1
def jnn (i:Nat) (fv:ef->Option D) (g:Int->Int->Int):FS:=fun ρ=>match ((ρ[i]?.bind jp5).bind asI).bind fun y=>((fv ρ).bind asI).map fun z=>(y,z) with
 | some p=>.next (ρ.set i (.sh (.int (g p.1 p.2))))
 | none=>.fail
theorem jsq {tv:TE} {fv:ef->Option D} {g:Int->Int->Int} (i:Nat) (hv:EOk tv fv):SOk (jra i tv (ipI g)) (jnn i fv g):=fun G0 H0 G H σ ρ E e q=>by
 unfold jnn at q;cases hq:((ρ[i]?.bind jp5).bind asI).bind fun y=>((fv ρ).bind asI).map fun z=>(y,z) with
 | none=>rw [hq] at q;exact q.elim
 | some p=>
 rw [hq] at q;obtain ⟨y,z1,hq⟩:=bind_some hq;obtain ⟨z,z2,hq⟩:=map_some hq;subst hq;obtain ⟨v,h1,r⟩:=e.sh (jpZ (jeR z1))
 (have hh:=Rep.of_int r;subst hh)
 refine ⟨_,h1,hv _ _ _ _ _ _ _ _ e (jeR z2) fun zv G1 H1 x1 r1=>?_⟩
 (have hh:=Rep.of_int r1;subst hh)
 exact ⟨y,z,rfl,rfl,q G1 H1 _ x1.gg ((e.grow x1).set (.int _))⟩
theorem jqs {t:TS}:SOk t fun _=>.fail:=fun G0 H0 G H σ ρ E e q=>q.elim
end
section
variable {X:Cx}
theorem jlH:jrL X joP:=fun tf s σ H o i ov iv Q I ro ri zz=>by obtain ⟨p,xs,k,v,e1,e2,hp,h0,hx,q⟩:=zz;subst e1;subst e2;cases ro;obtain ⟨t,rfl⟩:=ri;obtain ⟨its,r,pl,hz⟩:=I.list (.inl (.inl hp));obtain ⟨w,ew,rw'⟩:=r.get hx;have hl:=r.length;have hn:=jaZ;have hlt:k.toNat<xs.length:=(Yo.mp hx).1;exact wpAny_getItem_list pl.isList h0 (by omega) (by simpa using ew) ⟨v,H,I,rw',q⟩
end
end L2
namespace L2
open PySem PySem.Spec PyProof.Rows
section
variable {prog:Program} {w:World} {A:Around} {E:Value->Shared->Prop} {s:Shared}
theorem jhP:typeLookup (.type "list_reverseiterator") "__len__"=pure none:=by rw [KO,yV];kernel_rfl
theorem jkR:typeLookup (.type "list_reverseiterator") "__length_hint__"=pure (some (.builtin "list_reverseiterator.__length_hint__")):=by rw [KO,yV];kernel_rfl
theorem jmd {a:Addr} {Q:Bool → Shared → Prop} (hT:s.TypeIs (.ref a) "list_reverseiterator") (h:Q false s):wpAny (model prog w) A (Builtin.List.listLengthHint (.ref a)) Q E s:=by
 unfold Builtin.List.listLengthHint;refine Yc (yQ hT jhP ?_);show wpAny _ _ (specialOf (Value.ref a) (Str.ofString "__length_hint__") >>= _) _ _ s;refine Yc (yQ hT jkR ?_);generalize hid:("list_reverseiterator.__length_hint__":String)=id0
 wp_delta
 rw [show splitId id0=some ("list_reverseiterator","__length_hint__") from by subst hid;decide +kernel];subst hid;refine Yc (K2 (T := "list_reverseiterator") (b:=true) hT (by rw [isSubtype_type];kernel_rfl) ?_);refine Ka (fun hab=>absurd hab (by decide)) (fun _=>?_);refine Ka (fun _=>?_) (fun hab=>absurd ‹"aF"› hab);refine Ka (fun hab=>absurd hab ‹"aF"›) (fun _=>?_);exact Yk h
theorem jlf {it l:Addr} {items:Array Value} {Q:Value->Shared->Prop} (hh:A.handled=none) (hne:l≠it) (hit:s.heap.IsRevIter it l ((items.size:Int)-1)) (hl:s.heap.IsList l items) (hn:items.size<=sizeLine)
 (hQ:∀h' tk tI c,(∀b o,b≠it → s.heap.get? b=some o → h'.get? b=some o) → h'.get? s.heap.objs.size=some { cls:=.type "list",dict:=none,data:=.seq tI c,slots:=#[] } → ItemsOf (fun i v=>items[items.size-1-i]?=some v) tI items.size → Q (.ref s.heap.objs.size) { s with heap:=h',toks:=tk }) :
 wpAny (model prog w) A (call (.type "list") [.ref it]) Q E s:=by
 refine callType_codes (Q₁:=fun obj s₁=>obj=.ref s.heap.objs.size ∧ s₁={ s with heap:=s.heap.push { cls:=.type "list",data:=.seq #[] } }) PySem.F.called_list (PySem.F.typeCall_list_1 _) PySem.F.entry_list_init (code_list_new _ ⟨rfl,rfl⟩) fun obj s₁ e₁=>?_;obtain ⟨rfl,rfl⟩:=e₁;generalize hSd:s.heap.objs.size=S at *
 have hS:(s.heap.push { cls:=.type "list",data:=.seq #[] }).get? S=some { cls:=.type "list",data:=.seq #[] }:=by rw [← hSd];exact YA _ rfl
 refine ⟨⟨_,hS,rfl⟩,PySem.F.args_list_init_2 _ _,?_⟩;generalize hG:s.heap.push { cls:=.type "list",data:=.seq #[] }=G at *
 have up:∀b o,s.heap.get? b=some o->G.get? b=some o:=fun b o e=>by rw [<-hG];exact Yj _ e
 have nS:∀b o,s.heap.get? b=some o->b≠S:=fun b o e=>by rw [<-hSd];exact Yv (Yy e)
 obtain ⟨oi,ei,_⟩:=id hit;obtain ⟨ol,el,_⟩:=id hl;have itS:=nS _ _ ei;have lS:=nS _ _ el;show wpAny _ _ (do let old <- Builtin.List.listItems (.ref S);Builtin.List.listUpdate (.ref S) (fun _=>#[]);letGo old.toList.reverse;Builtin.List.listExtendWith (.ref S) (.ref it) .none) _ _ _;refine Yc ?_;unfold Builtin.List.listItems;refine Yc (KB hS rfl (Yk ?_));show wpAny _ _ (updateSeq S (fun _=>#[]) >>= fun _=>letGo (#[]:Array Value).toList.reverse >>= fun _=>Builtin.List.listExtendWith (.ref S) (.ref it) .none) _ _ _;refine Yc (yF hS rfl ?_);have hS2:=YZ (Obj.mapSeq (fun _=>(#[]:Array Value))) hS rfl;refine Yc (wpAny_letGo ?_);have sb1:Heap.SameBut S G (G.update S ‹"aV"›):=Heap.SameBut.update ..
 generalize G.update S ‹"aV"›=G1 at hS2 sb1 ⊢;have up1:∀b o,s.heap.get? b=some o->G1.get? b=some o:=fun b o e=>sb1.extBut b o (nS b o e) (up b o e);have W:=Walks.listRev (prog:=prog) (w:=w) (A:=A.in1.in1) hh it l hne items;have hSf:S∉[it,l]:=by simp only [Yr,YG,Ky,not_or];exact ⟨Ne.symm itS,Ne.symm lS⟩
 have key:∀(R:Result → Shared → Prop),(∀h' tk tI c,(∀b o,b≠it → s.heap.get? b=some o → h'.get? b=some o) → h'.get? S=some { cls:=.type "list",dict:=none,data:=.seq tI c,slots:=#[] } → ItemsOf (fun i v=>items[items.size-1-i]?=some v) tI items.size → R (.ok (.ret .none)) { s with heap:=h',toks:=tk }) →
  ∀(h:Heap) (c₁ tk:Nat),(∀b o,s.heap.get? b=some o → h.get? b=some o) → h.get? S=some { cls:=.type "list",data:=.seq #[] c₁ } →
  codeAny (model prog w) A.in1 (.builtin "list.extend.loop" ⟨[.ref S,.ref it,.none],[]⟩) R { s with heap:=h,toks:=tk }:=fun R hR h c₁ tk hk hS₁=>by
  refine codeAny_extend_loopS W.toS hn S hSf .none items.size 0 { s with heap:=h,toks:=tk } #[] c₁ rfl (yE _) ⟨yE _,?_,hl.at fun o e=>hk _ o e⟩ hS₁ (ItemsOf.nil _) fun s' acc' c' hm hS' hacc=>?_
  . have:=hit.at (h':=h) fun o e=>hk _ o e;simpa using this
  . rw [Moved.eq_with hm];refine hR s'.heap s'.toks acc' c' (fun b o hb e=>hm.heap b o (fun hmem=>?_) (hk b o e)) hS' hacc;rcases Yr.mp hmem with e' | hmem
    . exact nS _ _ e e'
    . exact hb (Yu.mp hmem)
 unfold Builtin.List.listExtendWith;have hit1:G1.IsRevIter it l ((items.size:Int)-1):=hit.at fun o e=>up1 _ o e;refine Yc (wpAny_typeOf (T := "list_reverseiterator") (Heap.IsRevIter.typeIs (s:={ s with heap:=G1 }) hit1) ?_);have hsr:Builtin.List.listSameRef (.ref S) (.ref it)=false:=by simp [Builtin.List.listSameRef,Ne.symm itS]
 have t1:(Value.type "list_reverseiterator" == Value.type "list")=false:=by decide
 have t2:(Value.type "list_reverseiterator" == Value.type "tuple")=false:=by decide
 simp only [hsr,t1,t2,Bool.or_false,Y0,yx];refine Yc (wpAny_pyIter_revIter hit1 ?_);refine Yc (yn (jmd (Heap.IsRevIter.typeIs (s:={ s with heap:=G1 }) hit1) ?_));refine Ka (fun _=>?_) (fun _=>Yk ⟨yU yX _,key _ (fun h' tk tI c h1 h2 h3=>⟨rfl,hQ h' tk tI c h1 h2 h3⟩) _ _ _ up1 hS2⟩);refine Yc (wpAny_rule ?_);refine Yc ?_;show wpAny _ _ (updateSeq S (·.push .none) >>= fun _=>updateSeq S (·.pop)) _ _ _;refine Yc (yF hS2 rfl ?_);have hS3:=YZ (Obj.mapSeq (·.push Value.none)) hS2 rfl;have sb2:Heap.SameBut S G1 (G1.update S (Obj.mapSeq (·.push Value.none))):=Heap.SameBut.update ..
 generalize G1.update S (Obj.mapSeq (·.push Value.none))=G2 at hS3 sb2 ⊢;refine yF (hz:=by seq_fits) hS3 rfl ?_;have hS4:=YZ (Obj.mapSeq (·.pop)) hS3 rfl;have sb3:Heap.SameBut S G2 (G2.update S (Obj.mapSeq (·.pop))):=Heap.SameBut.update ..
 generalize G2.update S (Obj.mapSeq (·.pop))=G3 at hS4 sb3 ⊢;refine Yk ⟨yU yX _,key _ (fun h' tk tI c h1 h2 h3=>⟨rfl,hQ h' tk tI c h1 h2 h3⟩) _ _ _ (fun b o e=>sb3.extBut b o (nS b o e) (sb2.extBut b o (nS b o e) (up1 b o e))) hS4⟩
end
def jdl (K:PySem.W.Frag) (ta:TA):TE:=fun σ H Q=>ta σ H fun vs H1=>∃p xs,vs=[.ref p]/\J6 K H1 p xs/\∀l,H1 l=none->Q (.ref l) (upd H1 l (.lst xs.reverse))
section
variable {X:Cx}
theorem jiv {a:Expr} {ta:TA} {p1 p2 pos1 pos2:Pos} (hc:X.calm=true) (hg1:Gl X "list") (hm1:X.mg "list"=none) (hg2:Gl X "reversed") (hm2:X.mg "reversed"=none) (ha:PA X [a] ta)
 (hs:starEach [a] X.env=[(false,eval a X.env)]:=by rfl)
 (hs3:starEach [.Call (.Name "reversed" p2) [a] [] pos2] X.env=[(false,eval (.Call (.Name "reversed" p2) [a] [] pos2) X.env)]:=by rfl) :
 PE X (.Call (.Name "list" p1) [.Call (.Name "reversed" p2) [a] [] pos2] [] pos1) (jdl X.K ta):=by
 intro tf s σ H Q I h;refine Call_ (QQ I hg1 hm1 Ko (Y2 ?_ hs3 rfl));rw [hs3];show wpAny _ _ (spliced ((false,eval (.Call (.Name "reversed" p2) [a] [] pos2) X.env)::backTo pos1 [])) _ _ s;refine KR (Call_ (QQ I hg2 hm2 boot_reversed (Y2 (qI (ha pos2 tf s σ H _ I h) fun us s1 zz=>?_) hs rfl)));obtain ⟨vs,H1,I1,r1,q1⟩:=zz;obtain ⟨pa,xs,e,hp,q⟩:=q1;subst e;obtain ⟨u,rfl,ru⟩:=Vals.one r1;cases ru;obtain ⟨its,rx,pl,hz⟩:=I1.list hp;have lx:=rx.length;have lta:@LT.lt Nat instLTNat pa s1.heap.objs.size:=by obtain ⟨_,e,_⟩:=pl.isList;exact ltN e
 refine call_reversed_list pl.isList ?_;refine K0 ?_;have up:∀b o,s1.heap.get? b=some o->(s1.heap.push (revObj pa ((its.toArray.size:Int)-1))).get? b=some o:=fun b o e=>Yj _ e;have hsz:(s1.heap.push (revObj pa ((its.toArray.size:Int)-1))).objs.size=s1.heap.objs.size+1:=yi ..
 refine jlf (items:=its.toArray) (I.ok.hd hc) (l:=pa) (Yv lta) ⟨_,YA _ rfl,rfl,rfl⟩ (pl.isList.at fun o e=>up _ o e) (by simp;omega) fun h' tk tI c hk hD hacc=>?_;have hv:Vals xs.reverse tI.toList:=Paired.of (by rw [List.length_reverse,lx];have:=hacc.1;simpa using this.symm) fun i x y e1 e2=>by
  have e3:=hacc.2 i y (by rw [<-yI];exact e2);have hi:i<xs.length:=by simpa using (Yo.mp e1).1
  rw [List.getElem?_reverse hi] at e1;have e4:its[xs.length-1-i]?=some y:=by rw [lx];simpa using e3
  obtain ⟨y',h1,h2⟩:=Paired.get rx e1;rw [e4] at h1;cases h1;exact h2
 have hD':h'.get? (s1.heap.objs.size+1)=some { cls:=.type "list",dict:=none,data:=.seq tI c,slots:=#[] }:=by have:=hD;rw [hsz] at this;exact this
 have I2:=I1.laid (a:=s1.heap.objs.size+1) (o:=.lst xs.reverse) (t':=tk) (h':=h') (fun b o e=>hk b o (Yv (Yy e)) (up b o e)) (K9 _) ⟨by rw [List.length_reverse];exact hz,tI.toList,c,hv,by rw [Array.toArray_toList];exact hD'⟩;refine ⟨.ref (s1.heap.objs.size+1),_,I2,?_,q _ (I1.hok.fresh (K9 _))⟩;show Value.ref _=Value.ref _;rw [hsz]
end
section
variable [Fr]
def jmx:List D->Option (List D)
 | [.lst l]=>some l.reverse
 | _=>none
theorem jrG {As:TA} {fs:ef->Option (List D)} (h:jcb As fs):EOkO (jdl Fr.K As) (jg jmx fs):=fun G0 H0 G H σ ρ Q es e q k=>by
 obtain ⟨ds,q1,q2⟩:=bind_some q;refine h _ _ _ _ _ _ _ _ e q1 fun vs G1 H1 x1 r1=>?_;unfold jmx at q2;split at q2
 . cases q2;cases r1 with
   | cons r t=>cases t;obtain ⟨_,_,rfl,h,r⟩:=r.of_lst;exact ⟨_,_,rfl,.inl h,fun l hl=>k l _ G1 _ (x1.trans (.new x1.gh hl)) (x1.hh.free hl) (x1.gh.free hl) jE r.reverse⟩
 . cases q2
end
def jon:R2:=fun x y H Q=>∃l xs n,x=.ref l/\y=.int n/\Rd H l (.lst xs)/\0<=n/\xs.length*n.toNat<=sizeLine/\n<2 ^ 63/\∀p,H p=none->Q (.ref p) (upd H p (.lst (List.replicate n.toNat xs).flatten))
section
variable {X:Cx}
theorem jgL {xs:List V} {its:List Value} (r:Vals xs its):∀n,Vals (List.replicate n xs).flatten (List.replicate n its).flatten
 | 0=>.nil
 | n+1=>by rw [Y8,Y8,KA,KA];exact r.append (jgL r n)
theorem jgB {α} (its:Array α):∀(n:Nat) (tI:Array α),List.foldl (fun x1 x2=>x1++x2) tI (List.replicate n its)=(tI.toList++(List.replicate n its.toList).flatten).toArray
 | 0,tI=>by simp
 | n+1,tI=>by rw [Y8,List.foldl_cons,jgB its n];simp [Y8]
theorem jnF:OpR X (binaryOp .Mult) jon:=by
 intro tf s σ H x y v u Q I rx ry h;obtain ⟨l,xs,n,rfl,rfl,hH,h0,hz,h63,q⟩:=h;cases rx;obtain ⟨t,rfl⟩:=ry;obtain ⟨z,its,k,r,e⟩:=hH.ok I.hok;have hl:=r.length;have e24:sizeLine=2 ^ 24:=by rw [PySem.sizeLine_eq]
 have e9:its.toArray.size*n.toNat=xs.length*n.toNat:=by rw [YI,hl]
 refine wpAny_binaryOp_repeat_ref (T := "list") (U:="int") (by decide) ⟨_,e,rfl⟩ (fun s'=>typeIs_int s' n t) noFill_list_mul PySem.F.fills_int_mul PySem.F.slot_int_rmul repeat_list PySem.F.slot_int_index.lookup
  (call_meets PySem.F.slot_int_rmul (typeIs_int s n t) PySem.F.entry_int_rmul (PySem.F.args_int_rmul_2 _ _) (int___rmul___int_list n t l its.toArray k)
   ⟨e,rfl,⟨_,e,rfl⟩,call_meets PySem.F.slot_list_mul ⟨_,e,rfl⟩ PySem.F.entry_list_mul (PySem.F.args_list_mul_2 _ _)
     (AutoListH.list___mul___list_int_3 l its.toArray k n t (by simp [Builtin.List.listFitsIndex];omega) (by omega) (by simp [Builtin.List.listTooLong];rw [<-hl];omega))
     ⟨e,?_⟩⟩)
 have ea:List.foldl (fun x1 x2=>x1++x2) #[] (List.replicate (if its.toArray.isEmpty=true then 0 else n.toNat) its.toArray)=((List.replicate n.toNat its).flatten).toArray:=by
  rw [jgB];cases its with
  | nil=>simp
  | cons a as=>simp
 rw [ea];exact ⟨.ref _,_,I.lnew (t':=s.toks) (jgL r _) (by rw [List.length_flatten];simp;rw [Nat.mul_comm];exact hz),rfl,q _ I.fresh⟩
end
section
variable [Fr]
def jmU:D->D->Option (List D)
 | .lst l,.int n=>if 0<=n/\l.length*n.toNat<=sizeLine/\n<2 ^ 63 then some (List.replicate n.toNat l).flatten else none
 | _,_=>none
theorem jhm {G:Hp} {vs:List V} {ds:List D} (r:Reps G vs ds):∀n,Reps G (List.replicate n vs).flatten (List.replicate n ds).flatten
 | 0=>.nil
 | n+1=>by rw [Y8,Y8,KA,KA];exact r.append (jhm r n)
theorem jrk:jpO jon jmU:=fun G H x y dx dy d Q s rx ry q k=>by
 unfold jmU at q;split at q
 . split at q
   . rename_i hz;cases q;obtain ⟨_,_,rfl,h,r⟩:=rx.of_lst;cases ry with
     | int n=>exact ⟨_,_,_,rfl,rfl,h,hz.1,by rw [r.length];exact hz.2.1,hz.2.2,fun p hp=>k p _ G _ (.new s hp) hp (s.free hp) jE (jhm r _)⟩
   . cases q
 . cases q
end
section
variable {prog:Program} {w:World} {A:Around} {E:Value->Shared->Prop} {s:Shared}
end
section
variable {X:Cx}
end
section
variable [Fr]
end
end L2
namespace L2
open PySem PySem.Spec PyProof.Rows
structure WD (M:Fm) (e:Expr) (f:ef->Option (List Int×List D)):Prop where
 h:∃t,(∀i,PE (M.X i) e t)/\@EOkD M.fr t f
section
variable {M:Fm} {a b c e o:Expr} {es:List Expr} {fa fb fc fe:ef->Option D} {fo:ef->Option (List D)} {fs:ef->Option (List D)} {fd:ef->Option (List Int×List D)} {ga gb:ef->Option Bool} {pos p apos cpos:Pos} {x:Str}
theorem WD.toE (h:WD M e fd):WE M e (jlp fd):=let ⟨t,h1,h2⟩:=h.h;⟨_,fun j=>jsj (h1 j),@EOkD.e M.fr _ _ h2⟩
theorem jso (ha:WT M a fa) (hb:WT M b fb):WO M (.BinOp a .Mult b pos) (jq jmU fa fb):=let ⟨_,h1,h2⟩:=ha.h;let ⟨_,k1,k2⟩:=hb.h;⟨_,fun j=>jkU jnF (h1 j) (k1 j),@joD M.fr _ _ _ _ _ _ (@jrk M.fr) h2 k2⟩
theorem jrq {p1 p2 pos1 pos2:Pos} (hg1:∀j,Gl (M.X j) "list") (hm1:∀j,(M.X j).mg "list"=none) (hg2:∀j,Gl (M.X j) "reversed") (hm2:∀j,(M.X j).mg "reversed"=none) (ha:WAT M [a] fs) (h:qu a=false:=by rfl) :
 WO M (.Call (.Name "list" p1) [.Call (.Name "reversed" p2) [a] [] pos2] [] pos1) (jg jmx fs):=
 let ⟨_,h1,h2⟩:=ha.h
 ⟨jdl M.K _,fun j=>by have:=jiv (p1:=p1) (p2:=p2) (pos1:=pos1) (pos2:=pos2) (M.calm j) (hg1 j) (hm1 j) (hg2 j) (hm2 j) (h1 j) (by rw [qB h];rfl) (by rw [qB rfl];rfl);rw [M.hK j] at this;exact this,@jrG M.fr _ _ h2⟩
theorem jdh {n:Nat} (h:n+64<cLine):n+1<cLine:=by omega
theorem joM (hu:∀j,(M.X j).A.units+64<cLine):WCmp M .In (jbc false):=⟨_,fun j=>jpz (jdh (hu j)),@jo0 M.fr false⟩
theorem jls (hu:∀j,(M.X j).A.units+64<cLine):WCmp M .NotIn (jbc true):=⟨_,fun j=>jkf (jdh (hu j)),@jo0 M.fr true⟩
theorem jqv (hu:∀j,(M.X j).A.units+64<cLine) (ha:WT M a fa) (hb:WT M b fb) (hs:autoParam (jo3 b) QA.a12._auto_1):WE M (.Subscript a b pos) (jq jjj fa fb):=let ⟨_,h1,h2⟩:=ha.h;let ⟨_,k1,k2⟩:=hb.h;⟨_,fun j=>jnZ (jdh (hu j)) (h1 j) (k1 j) hs,@jpF M.fr _ _ _ _ h2 k2⟩
theorem jnR (hu:∀j,(M.X j).A.units+64<cLine) (ha:WT M o fa) (hb:WT M e fb) (h':qu e=false:=by rfl)
 (hbase:∀j,attributeBase o "get" (M.X j).env (eval o (M.X j).env)=eval o (M.X j).env:=by intro _;rfl) (hline:(apos.endLine == cpos.line)=true:=by rfl):WE M (.Call (.Attribute o "get" apos) [e] [] cpos) (jq jb4 fa fb):=
 let ⟨_,h1,h2⟩:=ha.h;let ⟨_,k1,k2⟩:=hb.h;⟨_,fun j=>jkS (jdh (hu j)) (h1 j) (k1 j) ⟨hbase j,by rw [qB h'];rfl,hline,by rw [qB h'];rfl⟩,@jm6 M.fr _ _ _ _ h2 k2⟩
theorem jmT:WBO M (.type "list") jdQ:=⟨_,fun j=>jh5 (M.calm j),@jnj M.fr⟩
theorem jp9:WD M (.Dict [] [] pos) jlE:=⟨_,fun _=>jma,@jqz M.fr⟩
theorem jqN (ha:WE M a fa) (hb:WE M b fb):WD M (.Dict [some a] [b] pos) (jhB fa fb):=let ⟨_,h1,h2⟩:=ha.h;let ⟨_,k1,k2⟩:=hb.h;⟨_,fun j=>jnG (jmb (h1 j) (k1 j) jm7) rfl rfl (by simp) (by show 1<=15;decide),@jpv M.fr _ _ _ _ h2 k2⟩
theorem jnM (hg:∀j,Gl (M.X j) "dict") (hm:∀j,(M.X j).mg "dict"=none) (ha:WAT M [e] fs) (h:qu e=false:=by rfl):WD M (.Call (.Name "dict" p) [e] [] pos) (jg jfR fs):=let ⟨_,h1,h2⟩:=ha.h;⟨_,fun j=>jbX jij (hg j) (hm j) boot_dict (h1 j) (by decide) (by decide) (qB h) (J8 rfl),@jnQ M.fr _ _ h2⟩
theorem jmK {tg:Expr} (h:WE M e fe):WI M tg e (jaP fe):=let ⟨_,h1,h2⟩:=h.h;⟨_,fun j=>jni (h1 j),@jsp M.fr _ _ h2⟩
variable {m:D->ef->Option ef} {tg iter:Expr} {st:Stmt} {sts body:List Stmt} {F F' B:FS}
theorem jjC {i:Nat} {pos':Pos} (h:WD M e fd) (hN:∀j,(M.X j).N.Nodup) (hi:M.N[i]?=some x) (hx:∀j,Loc (M.X j).env.scope x) (hf:∀j,(M.X j).fn x=true\/(M.X j).env.scope.names.lookup x=some .local) (hs:∀j,swapsWith e (some (.Name x pos')) pos.line (M.X j).env=pure false:=by intro _;rfl) :
 WS M (.Assign [.Name x pos'] e pos) (jg9 i fd):=let ⟨_,h1,h2⟩:=h.h;⟨_,fun j=>jhK (hN j) (by rw [M.hN j];exact hi) (hx j) (h1 j) (hs j) (hf j),@jpL M.fr _ _ i h2⟩
theorem jjy {i:Nat} {pos':Pos} {y:Str} {py:Pos} (hu:∀j,(M.X j).A.units+64<cLine) (hN:M.N[i]?=some y) (hv:∀j,Vis (M.X j).env.scope y) (hk:WE M b fb) (h:WE M e fe) (hd:(y == ("__debug__":Str))=false:=by decide) (hcd:(y == ("__classdict__":Str))=false:=by decide)
 (hs:∀j,swapsWith e (some (.Subscript (.Name y py) b pos')) pos.line (M.X j).env=pure false:=by intro _;rfl):WS M (.Assign [.Subscript (.Name y py) b pos'] e pos) (jcu i fb fe):=
 let ⟨_,a1,a2⟩:=h.h;let ⟨_,b1,b2⟩:=hk.h;⟨_,fun j=>jns (jdh (hu j)) ‹"6"› (b1 j) (a1 j) (hs j),@jo4 M.fr _ _ _ _ i b2 a2⟩
theorem jji (i:Nat) (hN:M.N[i]?=some x:=by rfl) (hv:autoParam (∀j,Vis (M.X j).env.scope x) QA.a7._auto_1) (hd:‹"u"›=false:=by decide)
 (hcd:(x == ("__classdict__":Str))=false:=by decide):WS M (.Return (some (.Name x p)) pos) (jgt i):=⟨_,fun j=>jlm ‹"6"›,@jqp M.fr i⟩
theorem jhh:WS M st (fun _=>.fail):=⟨fun _ _ _=>False,fun _ _ _ _ _ _ _ h=>h.elim,@jqs M.fr _⟩
variable {ifs:List Expr} {scope sc:Scope} {Lc Fn:List Str} {ix:List Nat}
theorem jm8 {i:Nat} {y:Str} {py spos:Pos} (hNd:∀j,(M.X j).N.Nodup) (hy:M.N[i]?=some y) (hyl:∀j,(M.X j).env.scope.names.lookup y=some .local) (hsc:∀j,(M.X j).env.scope=sc) (ok:LcOk sc M.N scope Fn ix) (hi:WIT M tg iter fo) (hg:WL ‹"am"› Lc.length tg m) (ht:WTs ‹"am"› ifs ga) (he:WO ‹"am"› e fs)
 (hsw:∀j,swapsWith ‹"O"› (some (.Name y py)) spos.line (M.X j).env=pure true:=by intro _;rfl) (hs:∀j x,foldedSetIterable iter (M.X j).env x=pure x:=by intro _ _;rfl):WS M (.Assign [.Name y py] ‹"O"› spos) (jel i (jmg fo m ga fs Lc.length ix)):=
 let ⟨_,i1,i2⟩:=hi.h;let ⟨_,g1,g2,g3⟩:=hg.h;let ⟨_,t1,t2⟩:=ht.h;let ⟨_,e1,e2⟩:=he.h
 ⟨_,fun j=>jdx (hNd j) (by rw [M.hN j];exact hy) (hyl j) (hsc j) (M.hN j) (M.calm j) ok (i1 j) (fun C s H fp=>g1 (j,C,s,H,fp)) g3 (fun C s H fp=>t1 (j,C,s,H,fp)) (fun C s H fp=>e1 (j,C,s,H,fp)) (hsw j) (hs j),@jmQ M.fr _ _ i (@jsf M.fr _ _ _ _ _ _ _ _ _ _ i2 g2 t2 e2)⟩
structure WIp (M:Fm) (op:Operator) (g:Int->Int->Int):Prop where
 h:∀j,PIp (M.X j) op (ipI g)
theorem joQ:WIp M .Add (fun i j=>i+j):=⟨fun _=>jp8⟩
theorem jr1:WIp M .Sub (fun i j=>i-j):=⟨fun _=>jpd⟩
theorem jpq {i:Nat} {op:Operator} {g:Int->Int->Int} {pos':Pos} (ho:WIp M op g) (h:WE M e fe) (hN:∀j,(M.X j).N.Nodup) (hi:M.N[i]?=some x) (hx:∀j,Loc (M.X j).env.scope x) (hf:∀j,(M.X j).fn x=true\/(M.X j).env.scope.names.lookup x=some .local) :
 WS M (.AugAssign (.Name x pos') op e pos) (jnn i fe g):=let ⟨_,h1,h2⟩:=h.h;⟨_,fun j=>jpU (hN j) (by rw [M.hN j];exact hi) (hx j) (h1 j) (ho.h j) (hf j),@jsq M.fr _ _ g i h2⟩
theorem jjD {i:Nat} {y:Str} {py p1 tpos:Pos} {op:Operator} {g:Int → Int → Int} (ho:WIp M op g) (hN:M.N[i]?=some y) (hv:∀j,Vis (M.X j).env.scope y) (hk:WT M a fa) (hl:WE M b fb) (h:WE M e fe) (hd:(y == ("__debug__":Str))=false:=by decide) (hcd:(y == ("__classdict__":Str))=false:=by decide) (hs:jfi a:=by exact fun _ _=>rfl)
 (ha:∀ov iv new,augStore b ov iv new=(do holding [new,ov,iv] (setItem ov iv new);release [new,ov,iv] [];pure .next):=by intros;rfl):WS M (.AugAssign (.Subscript (.Subscript (.Name y py) a p1) b tpos) op e pos) (jdU i fa fb fe g):=
 let ⟨_,a1,a2⟩:=hk.h;let ⟨_,b1,b2⟩:=hl.h;let ⟨_,e1,e2⟩:=h.h
 ⟨_,fun j=>jnW (joB (r:=rIx M.K) (by rw [<-M.hK j];exact jkY) ‹"6"› (a1 j) hs) (b1 j) jlH (e1 j) (ho.h j) jht ha,@jqY M.fr _ _ _ _ _ _ g i a2 b2 e2⟩
end
end L2
namespace L2
open PySem PySem.Spec PyProof.Rows
abbrev TLk:=V->TT
section
variable {X:Cx} {op op':CmpOp} {ops:List CmpOp} {b b' a:Expr} {bs:List Expr} {r:R2} {tb ta:TE} {l:TLk} {pos:Pos}
end
section
variable [Fr]
variable {r:R2} {f:D->D->Option D} {ta tb:TE} {fa fb:ef->Option D} {l:TLk} {m:D->ef->Option Bool}
end
section
variable {M:Fm} {a b b':Expr} {bs:List Expr} {op op':CmpOp} {ops:List CmpOp} {f:D->D->Option D} {fa fb:ef->Option D} {m:D->ef->Option Bool} {pos:Pos}
end
end L2
namespace L2
open PySem PySem.Spec PyProof.Rows
def jia:V->List V->Hp->VK->Prop:=fun x vs H Q=>∃(l:Addr) (bs:List Bool) (b:Bool),x=.ref l/\vs=[.bl b]/\Rd H l (.lst (bs.map V.bl))/\Q (.int ((bs.countP (· == b):Nat):Int)) H
theorem jgU:∀{bs:List Bool} {its:List Value},Vals (bs.map V.bl) its->its=bs.map Value.bool
 | [],_,h=>by cases h;rfl
 | b::bs,_,h=>by
   cases h with
   | cons r t=>cases r;rw [jgU t];rfl
section
variable {X:Cx}
theorem jmA:MtR X "list.count" jia:=by
 intro tf s σ H x vs v us Q I rx rv h;obtain ⟨l,bs,b,rfl,rfl,hH,q⟩:=h;cases rx;obtain ⟨u,rfl,ru⟩:=rv.one;cases ru;obtain ⟨z,its,n,r,e⟩:=hH.ok I.hok;have hits:=jgU r;subst hits;refine call_meets PySem.F.slot_list_count ⟨_,e,rfl⟩ PySem.F.entry_list_count (PySem.F.args_list_count_2 _ _) (PySem.SeqAt.list_countAt l (bs.map Value.bool).toArray n none #[] (.bool b) (isBoolOf b)) ⟨e,fun y hy=>?_,?_⟩
 . have hy':y∈bs.map Value.bool:=by simpa using hy
   obtain ⟨c,_,rfl⟩:=Y6.mp hy';exact PySem.SeqAt.EqAt.bool_bool c b
 . have ec:List.countP (isBoolOf b) (bs.map Value.bool).toArray.toList=bs.countP (· == b):=by show List.countP (isBoolOf b) (bs.map Value.bool)=_;rw [List.countP_map];rfl
   rw [ec];exact ⟨.int _,H,I.tok _,⟨_,rfl⟩,q⟩
end
section
variable [Fr]
def jdb:D->List D->Option D
 | .lst l,[.bl b]=>(jex l).map fun bs=>.int ((bs.countP (· == b):Nat):Int)
 | _,_=>none
theorem jmf {G:Hp} {bs:List Bool} {vs:List V} (h:Reps G vs (bs.map D.bl)):vs=bs.map V.bl:=h.bls
def eBM (f:D->List D->Option D) (fa:ef->Option D) (fs:ef->Option (List D)):ef->Option D:=fun ρ=>(fa ρ).bind fun x=>(fs ρ).bind fun xs=>f x xs
theorem jne {to:TE} {t:TA} {fa:ef → Option D} {fs:ef → Option (List D)} (ha:JA to fa) (hs:AOk t fs):EOk (tBM Fr.K "list" jia to t) (eBM jdb fa fs):=fun G0 H0 G H σ ρ Q d e q k=>by
 obtain ⟨x,qa,q⟩:=bind_some q;obtain ⟨xs,qs,q⟩:=bind_some q;refine ha G0 H0 G H σ ρ _ x e qa fun u G1 H1 x1 r1=>?_;unfold jdb at q;split at q
 . obtain ⟨bs,hb,q⟩:=map_some q;subst q;obtain ⟨_,_,rfl,h,r⟩:=r1.of_lst;rw [jbY hb] at r;have hv:=jmf r;subst hv;refine ⟨.inl ⟨rfl,_,.inl h⟩,hs G0 H0 G1 H1 σ ρ _ _ (e.grow x1) qs fun vs G2 H2 x2 r2=>?_⟩;cases r2 with
   | cons r2 t2=>
     cases t2
     (have hh:=Rep.of_bl r2;subst hh)
     exact ⟨_,bs,_,rfl,rfl,h.same x2.hh,k _ G2 H2 (x1.trans x2) (.int _)⟩
 . cases q
end
section
variable {M:Fm} {o e:Expr} {fa fe:ef->Option D} {apos cpos:Pos}
theorem jn1 (ha:WT M o fa) (hb:WE M e fe) (h':qu e=false:=by rfl)
 (hbase:∀j,attributeBase o "count" (M.X j).env (eval o (M.X j).env)=eval o (M.X j).env:=by intro _;rfl) (hline:(apos.endLine == cpos.line)=true:=by rfl):WE M (.Call (.Attribute o "count" apos) [e] [] cpos) (eBM jdb fa (jb fe jk)):=
 let ⟨_,h1,h2⟩:=ha.h;let ⟨_,k1,k2⟩:=hb.h
 ⟨tBM M.K "list" jia _ _,fun j=>by have:=jos (X:=M.X j) (apos:=apos) (cpos:=cpos) PySem.F.plainAttrs_list PySem.F.slot_list_count PySem.F.type_list_count jmA (h1 j) (Zq (k1 j) jb3 (qB h')) (hbase j) (by rw [qB h'];rfl) hline (qB h') (J8 rfl);rw [M.hK j] at this;exact this,@jne M.fr _ _ _ _ h2 (@jlu M.fr _ _ _ _ k2 (@a_nil M.fr))⟩
end
section
variable {P:Program} {w:World} {K:PySem.W.Frag} {mg:Str->Option Value} {base:Heap} {f:Addr} {fd:FuncData} {ps:List Str} {k:Nat}
theorem jqH:FnOk P w K mg base JT k f fd ps (@spS ⟨K⟩ fun _=>none):=⟨fun vs H Q E z=>(by obtain ⟨_,_,_,_,_,h,_⟩:=z;cases h),fun A outer s H args us vs Q E _ _ _ _ z=>by obtain ⟨_,_,_,_,_,h,_⟩:=z;cases h⟩
end
end L2
namespace QS
open PySem.W PyProof.Rows
structure PA (n:Nat) (p:Array Nat):Prop where
 size:p.size=n
 perm:p.toList.Perm (List.range n)
def key (K:Nat->Int) (p:Array Nat) (i:Nat):Int:=K (p.getD i 0)
section
variable {n:Nat} {K:Nat->Int} {p:Array Nat}
theorem ja0 {q:Array Nat} {i j:Nat} (h:p[i]?=q[j]?):key K p i=key K q j:=by unfold key;rw [Kw,Kw,h]
def Ris (K:Nat->Int) (p:Array Nat) (m:Nat):Prop:=∀i,i+1<m->key K p i<key K p (i+1)
variable (hK:∀i j,i<n->j<n->i≠j->K i≠K j)
include hK
end
end QS
namespace QS
open PySem PySem.W PySem.Calls PyProof.Rows
abbrev Tr:=Value×Int×Int
def t0:Tr:=(.none,0,0)
section
variable {prog:Program} {w:World} {A:Around} {E:Value->Shared->Prop} {s:Shared}
def trs (as:List Addr) (ps:List (Int×Int)):List Tr:=(as.zip ps).map fun q=>(.ref q.1,q.2)
end
end QS
namespace QS
open PySem PySem.W PySem.Calls PyProof.Rows PyProof.V PySem.Spec
section
variable {prog:Program} {w:World} {A:Around} {R:Result->Shared->Prop} {I S:Addr} {fp wr:List Addr} {n:Nat} {P:Nat->Value->Prop} {St:Nat->Heap->Prop} {val:Nat->Int} {d:Value}
theorem gt_int {a b:Int} {t u:Tok} {s:Shared} {Q:Value->Shared->Prop} {E:Value->Shared->Prop} (h:Q (.bool (decide (a>b))) s):wpAny (model prog w) A (richCompare .Gt (.int a t) (.int b u)) Q E s:=CmpOf.ints_gt (P:=fun i v=>v=.int (if i=0 then a else b) (if i=0 then t else u)) (fun i=>if i=0 then a else b) (fun i v hv=>⟨_,hv⟩) 0 1 _ _ s Q E rfl rfl h
end
section
variable {prog:Program} {w:World} {A:Around} {E:Value->Shared->Prop} {s:Shared}
end
end QS
namespace L2
open PySem PySem.Spec PyProof.Rows
section
variable {X:Cx}
end
section
variable [Fr]
end
section
variable {X:Cx}
end
section
variable [Fr]
end
end L2
namespace L2
open PySem PySem.Spec PyProof.Rows
section
variable {M:Fm} {o e f:Expr} {fa fb fx:ef->Option D}
end
end L2
namespace Q
open PySem PySem.Spec PyProof.Rows L2
def QF:FS:=(jA (Qh (qQ (jq dLt (ja 1) ‹"ai"›))
 (qv (jq jO (ja 0) (ja 1))) qi)
 (qv (eC (.int 0))))
def jT:List D->Option D:=qW 2 2 QF
def Qn:FS:=(jA (jG 1 (jH (jg jhd (jb (jH (jq jcU (jH (JC (j3 (ja 0)) (jz 0) ‹"l"› ‹"aj"› 1 [])) (jH (JC (j3 (ja 0)) (jz 0) ‹"l"› ‹"ay"› 1 [])))) jk))))
 (zG (JC (JV (jb (jq zp (jg qG (jb (ja 1) jk)) (eC (.int 1))) jk)) (jz 0) (qQ (jq dLt (jq jO (ja 1) (ja 0)) (jq jO (ja 1) (jq qL (ja 0) (eC (.int 1)))))) (ZJ (jb (jq jO (ja 1) (ja 0)) (jb (jq jO (ja 1) (jq qL (ja 0) (eC (.int 1)))) jk))) 1 [1])))
def Qp:List D->Option (List D):=Jq 1 2 Qn
def Qf:FS:=(jA (Jx 2 (zx jk))
 (jA (zQ (j3 (jm 1)) (Jz 2 (jR (jz 3) (jR (jz 4) JJ)))
 (Qh (ZK (qQ (jq dLe ‹"aj"› (ja 3))) (qQ (jq dLe (ja 4) ‹"ay"›)))
 (JK 2 (jq qS (jq jO (ja 0) (eC (.int 3))) (jq zp (ja 4) (ja 3)))) (JK 2 (eC (.int 0)))))
 (jcq 2)))
def Qi:List D->Option (List D):=Jq 2 5 Qf
def QM:FS:=(jA (jG 2 (jH (jg Qp (jb (jm 0) jk))))
 (jA (Jx 3 (zx jk))
 (jA (zQ (JV (jb ‹"ai"› jk)) (jz 4)
 (jA (jG 5 (jH (jg Qi (jb ‹"ad"› (jb (jm 2) jk)))))
 (jA (jG 6 (jq jO ‹"ad"› (eC (.int 2))))
 (jA (Jx 7 (zx jk))
 (jA (zQ ‹"an"› (jz 8)
 (jA ‹"I"›
 (jA ‹"d"›
 (jA ‹"ac"›
 (jG 6 (jq zp (ja 6) (jq jO (ja 7) (ja 8))))))))
 (jA (zQ ‹"an"› (jz 8)
 (jA ‹"H"›
 (jA ‹"U"›
 (jA ‹"aE"›
 (jG 6 (jq zp (ja 6) (ja 12)))))))
 (jbW 7 (JK 3 (jm 7)))))))))
 (jcq 3))))
def jak:List D->Option (List D):=Jq 2 13 QM
def Z3:FS:=(jA (jG 3 (jq zp (jq qK (ja 0) (eC (.int 6))) (eC (.int 2))))
 (jA ‹"aR"›
 (jA (Qh (qQ (jq dEq (ja 2) (eC (.int 1))))
 (jA (jG 3 (jq zp (jq qK (ja 0) (eC (.int 50))) (eC (.int 25))))
 (jG 4 (jq qL (jq qL (ja 3) (eC (.int 1))) (jq qK (jq J4 (ja 0) (eC (.int 50))) (eC (.int 40)))))) qi)
 (jA (Qh (qQ (jq dEq (ja 2) (eC (.int 2))))
 (jA ‹"V"›
 (jG 4 (jq qL (jq qL (ja 3) (eC (.int 1))) (jq qS (jq qK (jq qS (ja 0) (eC (.int 1664525013))) (eC (.int 2147483629))) (jq jaz (eC (.int 10)) (eC (.int 5))))))) qi)
 (jA (jG 5 (jq jO (jH (zx (jb (eC (.int 2)) (jb (eC (.int 1)) (jb (eC (.int 3)) (jb (eC (.int 5)) (jb (jq jaz (eC (.int 10)) (eC (.int 15))) (jb (jq qL (eC (.int 1)) (jq qK (jq J4 (ja 1) (eC (.int 8))) (eC (.int 50)))) (jb (eC (.int 0)) (jb (eC (.int 4)) jk)))))))))) (jq qK (ja 1) (eC (.int 8)))))
 (jA (jG 6 (jq qK (jq qS (ja 1) (eC (.int 1103515245))) (eC (.int 2147483647))))
 (jA (jG 7 (jq qS (ja 5) (jq zp (ja 4) (ja 3))))
 (jA (jG 8 (jq jO (jH (zx (jb (jq J4 (jq qS (ja 7) (jq qK (ja 6) (eC (.int 17)))) (eC (.int 16))) (jb (jq qK (ja 6) (jq qL (ja 7) (eC (.int 1)))) (jb (jg QJ (jb (ja 7) (jb (jq qK (ja 6) (eC (.int 9))) jk))) (jb (jm 7) jk)))))) (jq qK (jq J4 (ja 6) (eC (.int 17))) (eC (.int 4)))))
 (qv (ZJ (jb (jm 3) (jb (jm 4) (jb (jm 8) (jb (jm 5) jk))))))))))))))
def J0:List D->Option D:=qW 3 9 Z3
def jed:FS:=(qv (jdS (jev "int" (ja 0)) (jj4 (jev "bool" (ja 0)))))
def JW:List D->Option D:=qW 1 1 jed
def jcd:FS:=(jA (Qh (bOr (jaf (qQ (jev "tuple" (ja 0)))) (qQ (jq dNe ‹"ai"› (eC (.int 4)))))
 (qv (eC (.bl false))) qi)
 (jA (Qh (jaf (qQ (jg jeo (jb (jH (JC (jcF (jm 0)) (jz 0) ‹"l"› (jg JW (jb (jm 0) jk)) 1 [])) jk))))
 (qv (eC (.bl false))) qi)
 (jA (jG 1 (jq zp ‹"ay"› ‹"aj"›))
 (qv (jdS (jq dGt (ja 1) (eC (.int 0))) (jdS (jq dGe (jq jO (ja 0) (eC (.int 3))) (eC (.int 0))) (Qs dLe dLe (eC (.int 0)) (jq jO (ja 0) (eC (.int 2))) (jq qS (jq jO (ja 0) (eC (.int 3))) (ja 1)))))))))
def QY:List D->Option D:=qW 1 2 jcd
def ja9:FS:=(qv (jdS (jev "list" (ja 0)) (jg jeo (jb (jH (JC (j3 (ja 0)) (jz 0) ‹"l"› (jg QY (jb (jm 0) jk)) 1 [])) jk))))
def Zo:List D->Option D:=qW 1 1 ja9
def J7:FS:=(Qh (jaf (qQ (jg Zo (jb (jm 0) jk))))
 (fun _=>.fail) qi)
def zy:List D->Option D:=qW 1 1 J7
def jbt:FS:=(jA (jG 1 (jH (JC (j3 (ja 0)) (jz 0) ‹"l"› ‹"aj"› 1 [])))
 (jA (jG 2 (jH (JC (j3 (ja 0)) (jz 0) ‹"l"› ‹"ay"› 1 [])))
 (zG (jhn (jb (jH (jq jcU (ja 1) (ja 2))) jk)))))
def jdO:List D->Option (List D):=Jq 1 3 jbt
def QI:FS:=(jA (jG 1 (jH (jg jdO (jb (jm 0) jk))))
 (zG (eLZ (jb (ja 1) (jb (jH (eSl (ja 1) (pSo (eC (.int 1))) pNo)) jk)))))
def J3:List D->Option (List D):=Jq 1 2 QI
def jei:FS:=(qv (jq zp ‹"ay"› ‹"aj"›))
def jac:List D->Option D:=qW 1 1 jei
def jh0:FS:=(jA (Qh (ZK (qQ (jq dLe ‹"aj"› (jq jO (ja 1) (eC (.int 0))))) (qQ (jq dLe (jq jO (ja 1) (eC (.int 1))) ‹"ay"›)))
 (qv (jq qS (jq jO (ja 0) (eC (.int 3))) (jg jac (jb (jm 1) jk)))) qi)
 (qv (eC (.int 0))))
def jca:List D->Option D:=qW 2 2 jh0
def Zl:FS:=(jA (Qh (bOr (jaf (qQ (jev "list" (ja 2)))) (qQ (jq dNe (jg qG (jb (ja 2) jk)) (jg qG (jb (ja 1) jk)))))
 (qv (eC (.bl false))) qi)
 (jA (Qh (jaf (qQ (jg jeo (jb (jH (JC (j3 (ja 2)) (jz 0) ‹"l"› (jg JW (jb (jm 0) jk)) 1 [])) jk))))
 (qv (eC (.bl false))) qi)
 (jA (Qh (jaf (qQ (jg jeo (jb (jH (JC (Jt (jb (ja 1) (jb (ja 2) jk))) (Jz 2 ‹"R"›) ‹"l"› (Qs dLe dLe (eC (.int 0)) (ja 1) (jg jca (jb (jm 2) (jb (jm 0) jk)))) 2 [0])) jk))))
 (qv (eC (.bl false))) qi)
 (qv (jq dEq (jg Qb (jb (ja 2) jk)) (jq jO (ja 0) (eC (.int 2))))))))
def Zz:List D->Option D:=qW 3 3 Zl
def jap:FS:=(jA (Qh (bOr (jaf (qQ (jev "list" (ja 1)))) (qQ (jq dNe (jg qG (jb (ja 1) jk)) ‹"ai"›)))
 (qv (eC (.bl false))) qi)
 (jA (jG 2 (jH (jg J3 (jb (jm 0) jk))))
 (qv (jg jeo (jb (jH (JC (Jt (jb (ja 0) (jb (ja 1) jk))) (Jz 2 (jR (jz 0) (jR (jz 1) JJ))) (fun _=>some true) (jg Zz (jb (jm 0) (jb (jm 2) (jb (jm 1) jk)))) 2 [2])) jk)))))
def jb7:List D->Option D:=qW 2 3 jap
def QD:FS:=(jA (Q8 (jg zy (jb (jm 0) jk)))
 (Qh (jaf (qQ (jg jb7 (jb (jm 0) (jb (jm 1) jk)))))
 (fun _=>.fail) qi))
def zL:List D->Option D:=qW 2 2 QD
def ZA:FS:=(jA (jG 1 (jH (jg J3 (jb (jm 0) jk))))
 (zG (JC (j3 (ja 0)) (jz 0) (fun _=>some true) (jH (JC (j3 (ja 1)) (jz 0) (fun _=>some true) (jg jca (jb (jm 1) (jb (jm 0) jk))) 1 [0])) 1 [1])))
def Zh:List D->Option (List D):=Jq 1 2 ZA
def Qq:FS:=(zG (JC (j3 (jH (jg J3 (jb (jm 0) jk)))) (jz 0) ‹"l"› (jg jac (jb (jm 0) jk)) 1 []))
def Ja:List D->Option (List D):=Jq 1 1 Qq
def jf0:FS:=(qv (jg Qb (jb (jH (JC (j3 (ja 0)) (jz 0) ‹"l"› (jq jO (ja 0) (ja 1)) 1 [1])) jk)))
def Zu:List D->Option D:=qW 2 2 jf0
def jfm:FS:=(jA (zQ (ZZ (jb (jm 1) jk)) (Jz 2 (jR (jz 4) (jR (jz 5) JJ)))
 (Qh (ZK (qQ (jq dGt (jq jO (ja 5) (ja 2)) (eC (.int 0)))) (qQ (jq dLt (jq jO (ja 5) (ja 3)) (jq jO ‹"ad"› (ja 3)))))
 (qv (jm 4)) qi))
 (qv (eC .non)))
def Zp:List D->Option D:=qW 4 6 jfm
def jfp:FS:=(jA (jg9 3 (jg jfR (jb (ja 2) jk)))
 (jA (Jx 4 (jg jdQ (jb (ja 2) jk)))
 (jA (jG 5 (eC (.int 0)))
 (jA (Qy (qQ (jq dLt (ja 5) (jg qG (jb (ja 4) jk))))
 (jA (jG 6 (jq jO (ja 4) (ja 5)))
 (jA (zQ (JV (jb (jg qG (jb ‹"aj"› jk)) jk)) (jz 7)
 (jA (jG 8 (eIf (qQ ‹"aT"›) (eC .non) ‹"Z"›))
 (Qh (qQ (jaF (ja 8)))
 (jA (jcu 3 (jm 7) (ZJ (jb (jm 8) (jb (jm 6) (jb (jm 7) jk)))))
 (JK 4 (jm 7))) qi)))
 (jnn 5 (eC (.int 1)) (fun i j=>i+j)))))
 (jgt 3)))))
def jav:List D->Option D:=qW 3 9 jfp
def jdv:FS:=(jA (Jx 2 (zx jk))
 (jA (jG 3 (jq jjj (ja 0) (ja 1)))
 (jA (Qy (qQ (jaF (ja 3)))
 (jA (JK 2 (jm 3))
 (jG 3 (jq jb4 (ja 0) (jq jO (ja 3) (eC (.int 1)))))))
 (zG (jg jmx (jb (ja 2) jk))))))
def Q6:List D->Option (List D):=Jq 2 4 jdv
def jfs:FS:=(jA (Q8 (jg zL (jb (jm 0) (jb (jm 1) jk))))
 (jA (jG 2 (jH (jg Zh (jb (jm 0) jk))))
 (jA (jG 3 (jH (jg Ja (jb (jm 0) jk))))
 (jA (jG 4 (jH (JC (JV (jb (jg qG (jb (ja 3) jk)) jk)) (jz 0) ‹"l"› (jg Zu (jb (jm 1) (jb (jm 0) jk))) 1 [1])))
 (jA (jG 5 (jH (JC (Jt (jb (ja 4) (jb (ja 3) jk))) (Jz 2 ‹"R"›) ‹"l"› (jq J4 (ja 0) (ja 1)) 2 [])))
 (jA (jG 6 (jH (JC (Jt (jb (ja 4) (jb (ja 3) jk))) (Jz 2 ‹"R"›) ‹"l"› (jq J4 (jq zp (jq qL (ja 0) (ja 1)) (eC (.int 1))) (ja 1)) 2 [])))
 (jA (zQ (JV (jb (jg qG (jb (ja 3) jk)) jk)) (jz 7)
 (jA (jG 8 (jg jav (jb (jm 2) (jb (jm 1) (jb (jlp (jhB (jm 7) (eC .non))) jk)))))
 (jA (jG 9 (jH (JC (jaP (jm 8)) (jz 0) ‹"4"› (jm 0) 1 [6,7,5])))
 (Qh (qQ (jq dNe (ja 9) (jH (zx jk))))
 (qv (jH (jg Q6 (jb (jm 8) (jb (jq jO (ja 9) (eC (.int 0))) jk))))) qi))))
 (qv (eC .non)))))))))
def jbl:List D->Option D:=qW 2 10 jfs
def jdk:FS:=(jA (jel 3 (jmg (j3 (ja 0)) (jz 0) ‹"l"› (jg Qc (jb (ja 0) jk)) 1 []))
 (jA (zQ (j3 (jm 1)) (Jz 3 (jR (jz 4) (jR (jz 5) (jR (jz 6) JJ))))
 (jA (Qh (qQ (jaF (ja 5)))
 (jdU 3 (ja 4) (jm 5) (jm 2) (fun i j=>i-j)) qi)
 (jdU 3 (ja 4) (jm 6) (jm 2) (fun i j=>i+j))))
 (jbW 3 (qv (jm 3)))))
def ZO:List D->Option D:=qW 3 7 jdk
def jfF:FS:=(jA (Q8 (jg zL (jb (jm 0) (jb (jm 1) jk))))
 (qv (jg ZO (jb (jm 1) (jb (jm 2) (jb (eC (.int 1)) jk))))))
def jcZ:List D->Option D:=qW 3 3 jfF
def Zj:FS:=(jA (jG 3 (jg Qb (jb (jH (JC (Jt (jb (ja 1) (jb (ja 2) jk))) (Jz 2 ‹"R"›) (jaf (qQ (ja 1))) (jm 0) 2 [])) jk)))
 (qv (jg jaO (jb (jq zp (ja 0) (ja 3)) (jb (eC (.int 0)) jk)))))
def jba:List D->Option D:=qW 3 4 Zj
def jh1:FS:=(zG (JC (Jt (jb (ja 0) (jb (ja 1) jk))) (Jz 2 ‹"R"›) (qQ (jq dEq (ja 1) (ja 2))) (jm 0) 2 [2]))
def Zw:List D->Option (List D):=Jq 3 3 jh1
def jdB:FS:=(jA (Jx 3 (zx jk))
 (jA (zQ (ZZ (jb (jm 2) jk)) (Jz 2 (jR (jz 4) (jR (jz 5) JJ)))
 (jA (jG 6 (eBM jdb (jH (eSl (ja 2) pNo (pSo (ja 4)))) (jb (jm 5) jk)))
 (JK 3 (eIf (qQ (ja 5)) (jq jO (ja 0) (ja 6)) (jq jO (ja 1) (ja 6))))))
 (jcq 3)))
def jbG:List D->Option (List D):=Jq 3 7 jdB
def jdq:FS:=(jA (jg9 3 jlE)
 (jA (zQ (ZZ (jb (jm 2) jk)) (Jz 2 (jR (jz 4) (jR (jz 5) JJ)))
 (jA (jG 6 (jq dLt (jg Qb (jb (ja 5) jk)) ‹"ad"›))
 (zQ (ZZ (jb (jm 5) jk)) (Jz 2 (jR (jz 7) (jR (jz 8) JJ)))
 (Qh ‹"E"›
 (jcu 3 (jm 7) (ZJ (jb (jm 4) (jb (eC .non) (jb (jm 7) jk))))) qi))))
 (jgt 3)))
def jbS:List D->Option D:=qW 3 9 jdq
def Zf:FS:=(jA (jG 4 (jq jO (jq jO (ja 3) (eC (.int 0))) (eC (.int 0))))
 (jA (Jx 5 (zx (jb (jq zp ‹"ad"› (jg Qb (jb (jq jO (ja 2) (ja 4)) jk))) jk)))
 (jA (zQ (j3 (jm 3)) (Jz 3 (jR (jz 6) (jR (jz 7) (jR (jz 8) JJ))))
 (jA (JK 5 (jq zp (jq jO (jq jO (ja 1) (ja 6)) (ja 8)) (jq jO (jq jO (ja 2) (ja 6)) (ja 8))))
 (Qh (qQ (jaF (ja 7)))
 (JK 5 (jq jO (jq jO (ja 2) (ja 6)) (ja 7))) qi)))
 (qv (jg jgg (jb (ja 5) jk))))))
def Qj:List D->Option D:=qW 4 9 Zf
def jdL:FS:=(Qy (qQ (eC (.bl true)))
 (jA (jG 4 (jg jav (jb (jm 1) (jb (jm 3) (jb (jg jbS (jb (jm 0) (jb (jm 1) (jb (jm 3) jk)))) jk)))))
 (jA (jG 5 (jH (JC (jaP (jm 4)) (jz 0) (qQ (jq dLt (jg Zu (jb (jm 1) (jb (jm 0) jk))) (jq jO (ja 2) (ja 0)))) (jm 0) 1 [3,2])))
 (jA (Qh (qQ (jq dEq (ja 5) (jH (zx jk))))
 (jA (jG 6 (jg Qb (jb (jH (JC (j3 (ja 3)) (jz 0) ‹"l"› (jg Qb (jb (ja 0) jk)) 1 [])) jk)))
 (qv (ZJ (jb (jm 6) (jb (jm 3) (jb (jH (JC (JV (jb (jg qG (jb (ja 2) jk)) jk)) (jz 0) (fun _=>some true) (jq (jbc false) (ja 0) (ja 1)) 1 [4])) jk)))))) qi)
 (jA (jG 7 (jH (jg Q6 (jb (jm 4) (jb (jq jO (ja 5) (eC (.int 0))) jk)))))
 (jA (jG 8 (jq zp (jq jO (ja 2) (jq jO (ja 5) (eC (.int 0)))) (jg Zu (jb (jm 3) (jb (jq jO (ja 5) (eC (.int 0))) jk)))))
 (jG 3 (jg ZO (jb (jm 3) (jb (jm 7) (jb (jg QJ (jb (ja 8) (jb (jg Qj (jb (jm 0) (jb (jm 1) (jb (jm 3) (jb (jm 7) jk))))) jk))) jk)))))))))))
def jaa:List D->Option D:=qW 4 9 jdL
def Z7:FS:=(zG (JC (j3 (ja 0)) (jz 0) ‹"l"› (jH (jq jmU (jH (zx (jb (eC (.int 0)) jk))) ‹"ai"›)) 1 []))
def QH:List D->Option (List D):=Jq 1 1 Z7
def qN (f_evened:List D->Option D):FS:=(jA (jG 4 (jH (JC (Jt (jb (ja 0) (jb (ja 1) jk))) (Jz 2 ‹"R"›) ‹"l"› (jg jba (jb (jm 0) (jb (jm 1) (jb (jm 2) jk)))) 2 [3])))
 (jA (jG 5 (jH (JC (Jt (jb (ja 0) (jb (ja 4) jk))) (Jz 2 ‹"R"›) ‹"l"› (jq zp (ja 0) (ja 1)) 2 [])))
 (jA (jG 6 (jg f_evened (jb (jm 4) (jb (jH (JC (j3 (ja 1)) (jz 0) ‹"l"› (jH (jg Zw (jb (jm 0) (jb (jm 1) (jb (eC (.bl true)) jk))))) 1 [3])) (jb (jH (jg Zw (jb (jm 2) (jb (jm 3) (jb (eC (.bl true)) jk))))) jk)))))
 (jA (jG 7 (jg f_evened (jb (jm 5) (jb (jH (JC (j3 (ja 1)) (jz 0) ‹"l"› (jH (jg Zw (jb (jm 0) (jb (jm 1) (jb (eC (.bl false)) jk))))) 1 [3])) (jb (jH (jg Zw (jb (jm 2) (jb (jm 3) (jb (eC (.bl false)) jk))))) jk)))))
 (zG (JC (Jt (jb (ja 6) (jb (ja 7) jk))) (Jz 2 (jR (jz 0) (jR (jz 1) JJ))) (fun _=>some true) (jH (jg jbG (jb (jm 0) (jb (jm 1) (jb (jm 2) jk))))) 2 [3]))))))
def jbJ (f_evened_apart:List D->Option (List D)):FS:=(jA (jG 3 (jq J4 (jg Qb (jb (ja 0) jk)) (jg Qb (jb (ja 2) jk))))
 (jA (jG 4 (jg jaa (jb (jm 0) (jb (jm 1) (jb (jH (JC (j3 (ja 2)) (jz 0) ‹"l"› (jq qS (ja 1) (ja 0)) 1 [3])) (jb (jH (jg QH (jb (jm 1) jk))) jk))))))
 (jA (Qh (qQ (jq dLt (jq jO (ja 4) (eC (.int 0))) (jq qS (ja 3) (jg Qb (jb (ja 2) jk)))))
 (qv (jH (jg f_evened_apart (jb (jm 0) (jb (jm 1) (jb (jm 2) (jb (jq jO (ja 4) (eC (.int 2))) jk))))))) qi)
 (jA (jG 5 (jg jaa (jb (jm 0) (jb (jm 1) (jb (jH (JC (j3 (ja 2)) (jz 0) ‹"l"› (jq qS (jq qL (ja 1) (eC (.int 1))) (ja 0)) 1 [3])) (jb (jq jO (ja 4) (eC (.int 1))) jk))))))
 (jA (Qh (qQ (jq dLt (jq jO (ja 5) (eC (.int 0))) (jg Qb (jb (ja 0) jk))))
 (qv (jH (jg f_evened_apart (jb (jm 0) (jb (jm 1) (jb (jm 2) (jb (jq jO (ja 5) (eC (.int 2))) jk))))))) qi)
 (qv (jq jO (ja 5) (eC (.int 1)))))))))
def zU:Nat->List D->Option D
 | 0=>fun _=>none
 | k+1=>qW 3 6 (jbJ (Jq 4 8 (qN (zU k))))
def f_evened:List D->Option D:=zU 17
def Ze:FS:=(zG (JC (j3 (ja 0)) (jz 0) ‹"l"› (jq jO (ja 0) (eC (.int 2))) 1 []))
def ZC:List D->Option (List D):=Jq 1 1 Ze
def jhO:FS:=(jA (Q8 (jg zy (jb (jm 0) jk)))
 (jA (Qh (qQ (jq dEq (ja 0) (jH (zx jk))))
 (qv (jH (zx jk))) qi)
 (qv (jg f_evened (jb (jH (jg ZC (jb (jm 0) jk))) (jb (jH (jg Zh (jb (jm 0) jk))) (jb (jH (jg Ja (jb (jm 0) jk))) jk)))))))
def jds:List D->Option D:=qW 1 1 jhO
def QT:FS:=(zG (JC (JV (jb ‹"ai"› jk)) (jz 0) ‹"l"› ‹"a6"› 1 [1]))
def JY:List D->Option (List D):=Jq 2 2 QT
def Qw:FS:=(jA (jG 2 (eC (.int 0)))
 (jA (jG 3 (jH (jg JY (jb (jm 0) (jb (jm 1) jk)))))
 (jA (zQ (JV (jb ‹"ai"› jk)) (jz 4)
 (jA (jG 5 (jq zp (jq jO ‹"ad"› (eC (.int 1))) (jq jO ‹"ad"› (eC (.int 0)))))
 (jA (jG 6 (jq J4 (jq jO (ja 3) (ja 4)) (ja 5)))
 (jA (jG 7 (jq qK (jq jO (ja 3) (ja 4)) (ja 5)))
 (jG 2 (jq qL (jq qL (ja 2) (jq qS (jq qS (ja 7) (jq qL (ja 6) (eC (.int 1)))) (jq qL (ja 6) (eC (.int 1))))) (jq qS (jq qS (jq zp (ja 5) (ja 7)) (ja 6)) (ja 6))))))))
 (qv (jm 2)))))
def zJ:List D->Option D:=qW 2 8 Qw
def Qo:FS:=(jA (jG 3 (eC (.int 0)))
 (jA (jG 4 (jH (jg JY (jb (jm 0) (jb (jm 1) jk)))))
 (jA (zQ (JV (jb ‹"ai"› jk)) (jz 5)
 (jG 3 (jq qL (ja 3) (jg jaO (jb (eC (.int 0)) (jb (jq zp (jq jO (ja 4) (ja 5)) (jq qS (ja 2) (jq zp (jq jO (jq jO (ja 0) (ja 5)) (eC (.int 1))) (jq jO (jq jO (ja 0) (ja 5)) (eC (.int 0)))))) jk))))))
 (qv (jm 3)))))
def qX:List D->Option D:=qW 3 6 Qo
def jiM:FS:=(jA (jG 1 (jg jT (jb (jm 0) (jb (eC (.int 3)) jk))))
 (jA (Jx 2 (zx jk))
 (jA (zQ ‹"S"› (jz 3)
 (jA ‹"w"›
 (JK 2 (ZJ (jb (jm 4) (jb (jm 5) (jb (jg QJ (jb (ja 6) (jb (jq qK (jq J4 (jg jT (jb (jm 0) (jb (jq qL (eC (.int 5)) (jq qS (eC (.int 2)) (ja 3))) jk))) (eC (.int 8))) (eC (.int 25))) jk))) (jb (jm 7) jk))))))))
 (jA (jbW 2 (jG 8 (jH (jg Qp (jb (jm 2) jk)))))
 (jA (jbW 2 (jG 9 (jH (jg jak (jb (jm 2) (jb (jH (jq jcU (jH (eSl (ja 0) (pSo (eC (.int 12))) (pSo (eC (.int 63))))) (jH (zx (jb (eC (.int 0)) jk))))) jk))))))
 (jA (jG 10 (jH (zx (jb (eC (.int 0)) (jb (eC (.int 1)) (jb (jq qK (jg jT (jb (jm 0) (jb (eC (.int 0)) jk))) (eC (.int 30))) jk))))))
 (jA (zQ (JV (jb (eC (.int 40)) jk)) (jz 3)
 (jA (jG 11 (jg jbl (jb (jH (jg Qc (jb (ja 2) jk))) (jb ‹"bb"› jk))))
 (jA (Qh (qQ (jj5 (ja 11)))
 (jA (jG 12 (jg jds (jb (jH (jg Qc (jb (ja 2) jk))) jk)))
 (jA (zQ ‹"9"› (jz 13)
 (Qh ‹"ap"›
 (qv (eC (.bl false))) qi))
 (qv (eC (.bl true))))) qi)
 (jA (jG 14 (jg jcZ (jb (jH (jg Qc (jb (ja 2) jk))) (jb ‹"bb"› (jb (jm 11) jk)))))
 (jA (Qh (qQ (jq dGe (jg zJ (jb (jm 8) (jb (jm 14) jk))) (jg zJ (jb (jm 8) (jb (jm 9) jk)))))
 (qv (eC (.bl false))) qi)
 (jA (zQ (j3 (jm 10)) (jz 13)
 (Qh (qQ (jq dGt (jg qX (jb (jm 8) (jb (jm 14) (jb (jm 13) jk)))) (jg qX (jb (jm 8) (jb (jm 9) (jb (jm 13) jk))))))
 (qv (eC (.bl false))) qi))
 (jG 9 (jm 14))))))))
 (qv (eC (.bl true))))))))))
def jo1:List D->Option D:=qW 1 15 jiM
local macro_rules | `(tactic| walk_at "ev") => `(tactic| simp (disch := omega) only [qW, Jq, jcQ, jb6, qF, jA, Qh, jG, Jx, qv, zG, jcq, qi, jg3, jbW, frz, JK, jrz, jfD, jmu, Q8, jm, ja, eC, jq, jg, jk, jb, zx, ZJ, jH, qQ, ZK, bOr, jaf, jrn, jj4, jdS, eOr, eIf, jz, JJ, jR, Jz, jj5, jaF, jsz, jrf, Jf, eSl, pSo, pNo,
 j1,qy,Qx,JD,zc,j5,ji6,jmD,jlA,jhY,jlw,QC,jce,jd1,jdt,jnX,jqg,jqF,jsD,qG,j6,QJ,jaO,Qc,jow,dIs,joV,Qs,JQ,JI,ZR,jb9,jfA,jl2,jkV,jkW,jev,jcK,jej,jcD,jcy,jcB,jct,jbr,jcx,jbg,jbf,jbI,jbz,jcE,jdz,jcj,jcw,jci,jcG,jbs,jcI,jbj,jbm,jbE,jbC,jaE,jbP,jaS,jaJ,jaL,jaN,
 List.map_cons,yD,YH,Y3,Y8,yS,Kk,Kt,Yg,Yl,YB,Yw,Ye,Yi,Nat.reduceAdd,Nat.reduceSub,Nat.reduceLT,Nat.reduceLeDiff,yo,yx,reduceIte,Y0,Bool.true_eq_false,Kq,Nat.add_zero,Kr,Nat.reduceEqDiff,KZ,Kn,Bool.not_true,Bool.not_false,Int.reduceEq,Int.reduceLT,Int.reduceLE,Int.reduceNeg,Int.reduceSub,Int.reduceAdd,Int.reduceMul,Int.cast_ofNat_Int,Int.natCast_zero,Int.natCast_one])
local macro_rules | `(tactic| walk_at "evh") => `(tactic| simp (disch := omega) only [*, qW, Jq, jcQ, jb6, qF, jA, Qh, jG, Jx, qv, zG, jcq, qi, jg3, jbW, frz, JK, jrz, jfD, jmu, Q8, jm, ja, eC, jq, jg, jk, jb, zx, ZJ, jH, qQ, ZK, bOr, jaf, jrn, jj4, jdS, eOr, eIf, jz, JJ, jR, Jz, jj5, jaF, jsz, jrf, Jf, eSl, pSo, pNo,
 j1,qy,Qx,JD,zc,j5,ji6,jmD,jlA,jhY,jlw,QC,jce,jd1,jdt,jnX,jqg,jqF,jsD,qG,j6,QJ,jaO,Qc,jow,dIs,joV,Qs,JQ,JI,ZR,jb9,jfA,jl2,jkV,jkW,jev,jcK,jej,jcD,jcy,jcB,jct,jbr,jcx,jbg,jbf,jbI,jbz,jcE,jdz,jcj,jcw,jci,jcG,jbs,jcI,jbj,jbm,jbE,jbC,jaE,jbP,jaS,jaJ,jaL,jaN,
 List.map_cons,yD,YH,Y3,Y8,yS,Kk,Kt,Yg,Yl,YB,Yw,Ye,Yi,Nat.reduceAdd,Nat.reduceSub,Nat.reduceLT,Nat.reduceLeDiff,yo,yx,reduceIte,Y0,Bool.true_eq_false,Kq,Nat.add_zero,Kr,Nat.reduceEqDiff,KZ,Kn,Bool.not_true,Bool.not_false,Int.reduceEq,Int.reduceLT,Int.reduceLE,Int.reduceNeg,Int.reduceSub,Int.reduceAdd,Int.reduceMul,Int.cast_ofNat_Int,Int.natCast_zero,Int.natCast_one])
def cell (ns:List Int) (k:Int):Int:=ns.getD k.toNat 0
theorem jai {l:List D}:qG [.lst l]=some (.int (l.length:Int)):=rfl
theorem jq1 {l:List Int}:qG [.scr l]=some (.int (l.length:Int)):=rfl
theorem jfV (ns:List Int) (k:Int) (h:0<=k):jT [.scr ns,.int k]=some (.int (cell ns k)):=by
 unfold jT QF;simp (disch:=omega) only [qW,YH,Y3,Kq,Nat.reduceAdd,jcQ,jA,Qh,qQ,jq,ja,qF,List.map_cons,yD,Kr,yS,Kk,Kt,Yl,Yg,jg,jb,jk,Yi,Ye,jq1,QC,qv,qi,eC,yo];by_cases hk:k<ns.length
 . have e:jO (.scr ns) (.int k)=some (.int (cell ns k)):=by
    show (atI ns k).map D.int=_;unfold atI ixN;rw [if_pos h,if_pos hk];have hi:k.toNat<ns.length:=by omega
    simp [cell,hi,Yb]
   simp only [hk,KZ,e]
 . have e:cell ns k=0:=by unfold cell;rw [Yb,YE (by omega)];rfl
   simp only [hk,Kn,e]
def jr (s:Ship):D:=.tup [.int s.b,.int s.e,.int s.n,.int s.m]
theorem jeG {ns:List Int} {i:Int} (h0:0<=i) (h1:i<ns.length):∃m,m∈ns/\jO (.lst (ns.map D.int)) (.int i)=some (.int m):=by obtain ⟨d,hd,e⟩:=jrZ (ds:=ns.map D.int) h0 (by rw [Yd];exact h1);obtain ⟨m,hm,rfl⟩:=Y6.mp hd;exact ⟨m,hm,e⟩
theorem jpi {f x:Int} (h0:0<=f) (h1:0<=x) (h2:x<=16):0<=f*x/16/\f*x/16<=f:=by have a:0<=f*x:=Kl h0 h1;have b:f*x<=f*16:=Int.mul_le_mul_of_nonneg_left h2 h0;omega
section
variable {β:Type} {ρ:ef}
theorem ju {f:List D->Option β} {fa:ef->Option (List D)} {ds:List D} {x:β} (ha:fa ρ=some ds) (h:f ds=some x):jg f fa ρ=some x:=by unfold jg;rw [ha];exact h
theorem jy {g:D->D->Option β} {fa fb:ef->Option D} {x y:D} {z:β} (h1:fa ρ=some x) (h2:fb ρ=some y) (h3:g x y=some z):jq g fa fb ρ=some z:=by unfold jq;rw [h1,h2];exact h3
theorem j8 {fe:ef->Option D} {i:Nat} {d:D} (h:fe ρ=some d):jG i fe ρ=.next (ρ.set i (.sh d)):=by unfold jG;rw [h]
theorem qw {fo:ef->Option (List D)} {l:List D} (h:fo ρ=some l):jH fo ρ=some (.lst l):=by unfold jH;rw [h];rfl
theorem js {fa:ef->Option D} {fs:ef->Option (List D)} {d:D} {ds:List D} (h1:fa ρ=some d) (h2:fs ρ=some ds):jb fa fs ρ=some (d::ds):=by unfold jb;rw [h1,h2];rfl
theorem jZ {fa:ef->Option D} {b:Bool} (h:fa ρ=some (.bl b)):qQ fa ρ=some b:=by unfold qQ;rw [h]
theorem zA {fc:ef->Option Bool} {F:FS} (h:fc ρ=some false):Qh fc F qi ρ=.next ρ:=by unfold Qh;rw [h];rfl
theorem Z6 {fc:ef->Option Bool} {F F':FS} (h:fc ρ=some true):Qh fc F F' ρ=F ρ:=by unfold Qh;rw [h]
theorem jmc {ga gb:ef->Option Bool} {b:Bool} (h:ga ρ=some false) (h2:gb ρ=some b):bOr ga gb ρ=some b:=by unfold bOr;rw [h];exact h2
theorem jcA {ga:ef->Option Bool} {b:Bool} (h:ga ρ=some b):jaf ga ρ=some (!b):=by unfold jaf;rw [h];rfl
theorem JM {fe:ef->Option D} {d:D} (h:fe ρ=some d):qv fe ρ=.ret d:=by unfold qv;rw [h]
theorem jhE {fa fb:ef->Option D} {d:D} (h:fa ρ=some (.bl true)) (h2:fb ρ=some d):jdS fa fb ρ=some d:=by unfold jdS;rw [jZ h];exact h2
theorem jpr {i j:Int} (h:i=j):dEq (.int i) (.int j)=some (.bl true):=by rw [jnX,YU h]
theorem jnD {i j:Int} (h:i=j):dNe (.int i) (.int j)=some (.bl false):=by rw [jqg,YU h];rfl
theorem jrV {i j:Int} (h:i<=j):dGt (.int i) (.int j)=some (.bl false):=by rw [jd1,Y1 (by omega)]
theorem JN {C:Res->Prop} {F:FS} {r:Res} (h:F ρ=r) (k:C r):C (F ρ):=by rw [h];exact k
theorem qD {F F':FS} {ρ':ef} (h:F ρ=.next ρ'):jA F F' ρ=F' ρ':=by unfold jA;rw [h]
theorem jg4 {ga gb:ef->Option Bool} {b c:Bool} (h:ga ρ=some b) (h2:gb ρ=some c):ZK ga gb ρ=some (b && c):=by unfold ZK;rw [h];cases b <;> simp [h2]
theorem joK {fc:ef->Option Bool} {F F':FS} {b:Bool} (h:fc ρ=some b):Qh fc F F' ρ=if b=true then F ρ else F' ρ:=by unfold Qh;rw [h];cases b <;> rfl
theorem jjG {i j:Int} (h:¬i=j):dEq (.int i) (.int j)=some (.bl false):=by rw [jnX,Y1 h]
theorem jiN {fs:ef->Option (List D)} {l:List D} (h:fs ρ=some l) (h2:l.length<16777216):zx fs ρ=some l:=by unfold zx;rw [h];show (if Jm l.length=true then _ else _)=_;rw [if_pos (j6 h2)]
theorem joS {fs:ef->Option (List D)} {l:List D} (h:fs ρ=some l) (h2:l.length<16777216):ZJ fs ρ=some (.tup l):=by unfold ZJ;rw [h];show (if Jm l.length=true then _ else _)=_;rw [if_pos (j6 h2)]
end
theorem jok {ρ:ef} {i:Nat} {fa:ef->Option D} {ds:List D} {d:D} (h:ρ[i]?=some (.ow ds)) (hf:fa ρ=some d) (hs:ds.length<16777216):JK i fa ρ=.next (ρ.set i (.ow (ds++[d]))):=by unfold JK;rw [h,hf];show (if Jm ds.length=true then _ else _)=_;rw [if_pos (j6 hs)]
theorem Qk {a n:Nat} {m:FS} {ds:List D} {ρ:ef} {d:D} (h1:ds.length=a) (h2:qF n ds=ρ) (h:∀C:Res->Prop,C (.ret d)->C (m ρ)):qW a n m ds=some d:=by unfold qW;rw [if_pos h1,h2];exact h (fun r=>jcQ r=some d) rfl
theorem jJ {C:Res->Prop} {F F':FS} {ρ:ef} (ρ':ef) (h:F ρ=.next ρ') (k:C (F' ρ')):C (jA F F' ρ):=by unfold jA;rw [h];exact k
structure Ok0 (s:Ship):Prop where
 ok:s.Ok
 long:s.e-s.b<=214748362800001
 lo:-100000000000000<=s.b
 hi:s.b<=114748364600000
theorem Jj (x:Int) {k:Int} (h:0<k):0<=x%k/\x%k<k:=⟨yv _ (Int.ne_of_gt h),yh _ h⟩
theorem jnP (one two kind:Int):∃s:Ship,Ok0 s/\J0 [.int one,.int two,.int kind]=some (jr s):=by
 have key:∃b e:Int,b<e/\e-b<=214748362800001 /\ -100000000000000<=b/\b<=114748364600000/\∀R:FS,
  (jA (jG 3 (jq zp (jq qK (ja 0) (eC (.int 6))) (eC (.int 2)))) (jA ‹"aR"› (jA (Qh (qQ (jq dEq (ja 2) (eC (.int 1))))
  (jA (jG 3 (jq zp (jq qK (ja 0) (eC (.int 50))) (eC (.int 25))))
  (jG 4 (jq qL (jq qL (ja 3) (eC (.int 1))) (jq qK (jq J4 (ja 0) (eC (.int 50))) (eC (.int 40)))))) qi)
  (jA (Qh (qQ (jq dEq (ja 2) (eC (.int 2))))
  (jA ‹"V"›
  (jG 4 (jq qL (jq qL (ja 3) (eC (.int 1))) (jq qS (jq qK (jq qS (ja 0) (eC (.int 1664525013))) (eC (.int 2147483629))) (jq jaz (eC (.int 10)) (eC (.int 5))))))) qi) R))))
    [.sh (.int one),.sh (.int two),.sh (.int kind),.un,.un,.un,.un,.un,.un]=R [.sh (.int one),.sh (.int two),.sh (.int kind),.sh (.int b),.sh (.int e),.un,.un,.un,.un]:=by
  have b50:=Jj one (show (0:Int)<50 by decide);have b40:=Jj (one/50) (show (0:Int)<40 by decide);have b6:=Jj one (show (0:Int)<6 by decide);have b5:=Jj (one/6) (show (0:Int)<5 by decide);have bx:=Jj (one*1103515245) (show (0:Int)<2147483647 by decide);have by':=Jj (one*1664525013) (show (0:Int)<2147483629 by decide)
  by_cases h1:kind=1
  . clear b6 b5 bx by'
    refine ⟨one%50-25,one%50-25+1+one/50%40,?_,?_,?_,?_,fun R=>
      (qD (j8 (jy ‹"5"› rfl qy))).trans ((qD ‹"bv"›).trans
      ((qD ((Z6 (jZ (jy rfl rfl (jpr h1)))).trans ((qD (j8 (jy ‹"5"› rfl qy))).trans ‹"bv"›))).trans
      (qD (zA (jZ (jy rfl rfl (jjG (by omega))))))))⟩
    all_goals (generalize one%50=u at *;generalize one/50%40=v at *;omega)
  . by_cases h2:kind=2
    . clear b6 b5 b50 b40;refine ⟨(one*1103515245%2147483647-1000000000)*100000,(one*1103515245%2147483647-1000000000)*100000+1+one*1664525013%2147483629*100000,?_,?_,?_,?_,fun R=>
       (qD (j8 (jy ‹"5"› rfl qy))).trans ((qD ‹"bv"›).trans
       ((qD (zA (jZ (jy rfl rfl (jjG h1))))).trans
       (qD ((Z6 (jZ (jy rfl rfl (jpr h2)))).trans ((qD (j8 (jy (jy (jy (jy rfl rfl (JD (by decide) (by decide))) rfl (j5 (by decide))) (jy rfl rfl jmD) qy) (jy rfl rfl ji6) (JD (by decide) (by decide))))).trans (j8 (jy (jy rfl rfl j1) (jy (jy (jy rfl rfl (JD (by decide) (by decide))) rfl (j5 (by decide))) (jy rfl rfl ji6) (JD (by decide) (by decide))) j1)))))))⟩
      all_goals (generalize one*1103515245%2147483647=u at *;generalize one*1664525013%2147483629=v at *;omega)
    . clear bx by' b50 b40
      refine ⟨one%6-2,one%6-2+1+one/6%5,?_,?_,?_,?_,fun R=>
       (qD (j8 (jy ‹"5"› rfl qy))).trans ((qD ‹"bv"›).trans
       ((qD (zA (jZ (jy rfl rfl (jjG h1))))).trans (qD (zA (jZ (jy rfl rfl (jjG h2)))))))⟩
      all_goals (generalize one%6=u at *;generalize one/6%5=v at *;omega)
 obtain ⟨b,e,h1,h2,h3,h4,hk⟩:=key;obtain ⟨m,hm,em⟩:=jeG (ns:=[2,1,3,5,1000000000000000,1+two/8%50,0,4]) (i:=two%8) (Jj two (show (0:Int)<8 by decide)).1 (Jj two (show (0:Int)<8 by decide)).2;have m01:0<=m/\m<=1000000000000000:=by
  have:=Jj (two/8) (show (0:Int)<50 by decide);simp only [Yr,YG,Ky] at hm;generalize two/8%50=u at *
  clear hk h1 h2 h3 h4 em;rcases hm with rfl | rfl | rfl | rfl | rfl | rfl | rfl | rfl
  . exact ⟨by decide,by decide⟩
  . exact ⟨by decide,by decide⟩
  . exact ⟨by decide,by decide⟩
  . exact ⟨by decide,by decide⟩
  . exact ⟨by decide,by decide⟩
  . omega
  . exact ⟨by decide,by decide⟩
  . exact ⟨by decide,by decide⟩
 clear hm;obtain ⟨m0,m1⟩:=m01;have full0:0<=m*(e-b):=Kl m0 (by omega);obtain ⟨x,hx,hx0⟩:∃x,two*1103515245%2147483647=x/\0<=x:=⟨_,rfl,(Jj _ (by decide)).1⟩;obtain ⟨f,hf⟩:∃f,m*(e-b)=f:=⟨_,rfl⟩;rw [hf] at full0;obtain ⟨n,hn,en⟩:=jeG (ns:=[f*(x%17)/16,x%(f+1),if x%9<f then x%9 else f,f]) (i:=x/17%4) (Jj (x/17) (show (0:Int)<4 by decide)).1 (Jj (x/17) (show (0:Int)<4 by decide)).2;have n01:0<=n/\n<=f:=by
  have a1:=jpi full0 (x:=x%17) (Jj x (by decide)).1 (Int.le_of_lt_add_one (Jj x (show (0:Int)<17 by decide)).2);have a2:0<=x%(f+1):=yv _ (by omega);have a3:x%(f+1)<f+1:=yh _ (by omega);simp only [Yr,YG,Ky] at hn;rcases hn with rfl | rfl | rfl | rfl
  . exact a1
  . omega
  . split <;> omega
  . omega
 clear hn;refine ⟨⟨b,e,n,m⟩,⟨⟨h1,by show e-b<=_;omega,by show _<=b;omega,by show b<=_;omega,m0,m1,n01.1,by show n<=m*(e-b);rw [hf];exact n01.2⟩,h2,h3,h4⟩,?_⟩;unfold J0;refine Qk (ρ:=[.sh (.int one),.sh (.int two),.sh (.int kind),.un,.un,.un,.un,.un,.un]) rfl rfl fun C fin=>?_;unfold Z3;rw [hk];refine jJ [.sh (.int one),.sh (.int two),.sh (.int kind),.sh (.int b),.sh (.int e),.sh (.int m),.un,.un,.un] (j8 (jy (qw (jiN (js rfl (js rfl (js rfl (js rfl (js (jy rfl rfl jhY) (js (jy rfl ‹"s"› j1) (js rfl (js rfl rfl)))))))) (show 8<16777216 by decide))) ‹"5"› em)) ?_;refine jJ [.sh (.int one),.sh (.int two),.sh (.int kind),.sh (.int b),.sh (.int e),.sh (.int m),.sh (.int x),.un,.un] (hx ▸ j8 (jy (jy rfl rfl (JD (by decide) (by decide))) rfl (j5 (by decide)))) ?_;refine jJ [.sh (.int one),.sh (.int two),.sh (.int kind),.sh (.int b),.sh (.int e),.sh (.int m),.sh (.int x),.sh (.int f),.un] (hf ▸ j8 (jy rfl (jy rfl rfl qy) (Qx (by omega) (by omega)))) ?_;refine jJ [.sh (.int one),.sh (.int two),.sh (.int kind),.sh (.int b),.sh (.int e),.sh (.int m),.sh (.int x),.sh (.int f),.sh (.int n)] (j8 (jy (qw (jiN (js (jy (jy rfl ‹"5"› (JD (Int.lt_of_lt_of_le (by decide) (Jj x (show (0:Int)<17 by decide)).1) (Int.lt_trans (Jj x (show (0:Int)<17 by decide)).2 (by decide)))) rfl (zc (by decide) (by decide))) (js (jy rfl (jy rfl rfl j1) (j5 (by omega))) (js (ju (js rfl (js ‹"5"› rfl)) rfl) (js rfl rfl)))) (show 4<16777216 by decide))) ‹"s"› en)) ?_;exact JN (JM (joS (l:=[.int b,.int e,.int n,.int m]) (js rfl (js rfl (js rfl (js rfl rfl)))) (show 4<16777216 by decide))) fin
theorem jiQ {m:D->ef->Option ef} {B:FS} (P:List D->ef->Prop) (hs:∀d ds ρ,P (d::ds) ρ->∃ρ1 ρ2,m d ρ=some ρ1/\B ρ1=.next ρ2/\P ds ρ2):∀(ds:List D) (ρ:ef),P ds ρ->∃ρ',Q4 m B ds ρ=.next ρ'/\P [] ρ'
 | [],ρ,h=>⟨ρ,rfl,h⟩
 | d::ds,ρ,h=>by obtain ⟨ρ1,ρ2,h1,h2,h3⟩:=hs d ds ρ h;obtain ⟨ρ',h4,h5⟩:=jiQ P hs ds ρ2 h3;exact ⟨ρ',by simp only [Q4,h1,h2];exact h4,h5⟩
theorem jgc {C:Res->Prop} {F F':FS} {ρ:ef} {d:D} (h:F ρ=.ret d) (k:C (.ret d)):C (jA F F' ρ):=by unfold jA;rw [h];exact k
theorem jeH {C:Res->Prop} {fi:ef->Option (List D)} {m:D->ef->Option ef} {B F':FS} {ρ:ef} (ds:List D) (P:List D->ef->Prop) (hi:fi ρ=some ds) (h0:P ds ρ)
 (hs:∀d ds ρ,P (d::ds) ρ->∃ρ1 ρ2,m d ρ=some ρ1/\B ρ1=.next ρ2/\P ds ρ2) (k:∀ρ',P [] ρ'->C (F' ρ')):C (jA (zQ fi m B) F' ρ):=by
 obtain ⟨ρ',h1,h2⟩:=jiQ P hs ds ρ h0;exact jJ ρ' (by unfold zQ;rw [hi];exact h1) (k ρ' h2)
theorem J5 (lo:Int) (n:Nat):rng lo (n+1)=.int lo::rng (lo+1) n:=by unfold rng;rw [KW,List.map_cons,YJ];simp only [Int.natCast_zero,K1,List.cons.injEq,true_and];refine Kh fun i _=>?_;simp only [Function.comp,Nat.succ_eq_add_one,Int.natCast_add,Int.natCast_one,D.int.injEq];omega
theorem JH {fa:ef->Option (List D)} {ρ:ef} {j:Int} (h:fa ρ=some [.int j]) (h0:0<=j) (h1:j<4611686018427387904):JV fa ρ=some (rng 0 j.toNat):=by unfold JV;rw [h];simp only;rw [if_pos ⟨by omega,by omega⟩]
theorem jhV {m:D->ef->Option ef} {ft:ef->Option Bool} {fe:ef->Option D} {ρ:ef} (g:D->D):∀(ds:List D),(∀d∈ds,∃ρ1,m d ρ=some ρ1/\ft ρ1=some true/\fe ρ1=some (g d))->ZM m ft fe ρ ds=some (ds.map g)
 | [],_=>rfl
 | d::ds,h=>by obtain ⟨ρ1,h1,h2,h3⟩:=h d Yf;simp only [ZM,h1,h2,h3,Ye,yo,jhV g ds fun x hx=>h x (Ym _ hx),Yi,List.map_cons]
theorem je9 {m:D->ef->Option ef} {ft:ef->Option Bool} {fe:ef->Option D} {ρ:ef} (p:D->Bool) (g:D->D):∀(ds:List D),(∀d∈ds,∃ρ1,m d ρ=some ρ1/\ft ρ1=some (p d)/\(p d=true->fe ρ1=some (g d)))->ZM m ft fe ρ ds=some ((ds.filter p).map g)
 | [],_=>rfl
 | d::ds,h=>by
   obtain ⟨ρ1,h1,h2,h3⟩:=h d Yf;have ih:=je9 p g ds fun x hx=>h x (Ym _ hx);cases hp:p d with
   | true=>simp only [ZM,h1,h2,hp,h3 hp,Ye,yo,ih,Yi,yf,List.map_cons]
   | false=>simp only [ZM,h1,h2,hp,Ye,Y0,yx,ih,yf]
theorem qq {fi:ef->Option (List D)} {m:D->ef->Option ef} {ft:ef->Option Bool} {fe:ef->Option D} {n:Nat} {ix:List Nat} {ρ:ef} {ds es:List D} (h1:fi ρ=some ds) (h2:ds.length<16777216) (h3:ZM m ft fe (JE n ix ρ) ds=some es):JC fi m ft fe n ix ρ=some es:=by unfold JC;rw [h1,Ye,if_pos (j6 h2),h3]
theorem jfQ (bs:List Bool):jeo [.lst (bs.map D.bl)]=some (.bl (bs.all id)):=by show ((jex (bs.map D.bl)).map fun ns=>D.bl (ns.all id))=_;rw [Z4];rfl
theorem jbi (bs:List Int):Qb [.lst (bs.map D.int)]=some (.int bs.sum):=by show ((ZW (bs.map D.int)).map fun ns=>D.int ns.sum)=_;rw [QW];rfl
theorem jl9 {fe:ef->Option D} {ρ:ef} {l:List D} (h:fe ρ=some (.tup l)):jcF fe ρ=some l:=by unfold jcF;rw [h]
theorem ql {fe:ef->Option D} {ρ:ef} {l:List D} (h:fe ρ=some (.lst l)):j3 fe ρ=some l:=by unfold j3;rw [h]
def plain:Nat->D->Prop
 | n+1,.lst l=>∀d∈l,plain n d
 | n+1,.tup l=>∀d∈l,plain n d
 | _,.lst _=>False
 | _,.tup _=>False
 | _,.scr _=>False
 | _,.dic _ _=>False
 | _,_=>True
theorem jjo {l:List D}:dEq (.lst l) (.lst [])=some (.bl l.isEmpty):=by show (eqF 40 (.lst l) (.lst [])).map D.bl=_;cases l <;> rfl
theorem jfj {α:Type} {f:α->D} {l:List α} {k:Int} {a:α} (h0:0<=k) (h:l[k.toNat]?=some a):jO (.lst (l.map f)) (.int k)=some (f a):=jb5 h0 (by rw [List.getElem?_map,h];rfl)
def jC (p:Int×Int):D:=.tup [.int p.1,.int p.2]
theorem jju (k:Int):∀l:List Int,(ins k l).length<=l.length+1
 | []=>by simp [ins]
 | x::l=>by
   have:=jju k l;unfold ins;split
   . simp
   . split
     . simp
     . simp;omega
theorem jjb:∀l:List Int,(srt l).length<=l.length
 | []=>by simp [srt]
 | x::l=>by have h1:=jjb l;have h2:=jju x (srt l);show (ins x (srt l)).length<=l.length+1;omega
theorem jbx (fl:List Ship):(JZ fl).length<=2*fl.length:=by have:=jjb (hrs fl);unfold JZ;simp [hrs] at this ⊢;omega
theorem Za {fl:List Ship} (k:Int) (g:Ship->Int) (hg:∀s,jO (jr s) (.int k)=some (.int (g s))) (ρ:ef) (i:Nat) (hi:ja i ρ=some ‹"c"›) (hl:fl.length<1000) :
 JC (j3 (ja i)) (jz 0) ‹"l"› (jq jO (ja 0) (eC (.int k))) 1 [] ρ=some ((fl.map g).map D.int):=by
 refine qq (ql hi) (by rw [Yd];omega) ?_;rw [jhV (fun d=>match jO d (.int k) with | some x=>x | none=>.non) _ fun d hd=>?_]
 . rw [YJ,YJ];congr 1;refine Kh fun s _=>?_;show (match jO (jr s) (.int k) with | some x=>x | none=>D.non)=_;rw [hg s];rfl
 . obtain ⟨s,_,rfl⟩:=Y6.mp hd;refine ⟨[.sh (jr s)],rfl,rfl,?_⟩;show jO (jr s) (.int k)=_;rw [hg s]
theorem jgG (fl:List Ship) (hl:fl.length<20):jdO [.lst (fl.map jr)]=some ((JZ fl).map D.int):=by
 suffices main:∀C:Res->Prop,C (.retO ((JZ fl).map D.int))->C (jbt [.sh ‹"c"›,.un,.un]) by exact main (fun r=>jb6 r=some ((JZ fl).map D.int)) rfl
 intro C fin;unfold jbt;refine jJ [.sh ‹"c"›,.sh (.lst ((fl.map (·.b)).map D.int)),.un] (by unfold jG jH;rw [Za 0 (·.b) (fun s=>JQ) _ 0 rfl (by omega)];rfl) ?_
 refine jJ [.sh ‹"c"›,.sh (.lst ((fl.map (·.b)).map D.int)),.sh (.lst ((fl.map (·.e)).map D.int))] (by unfold jG jH;rw [Za 1 (·.e) (fun s=>JI) _ 0 rfl (by omega)];rfl) ?_
 have last:∀r,r=Res.retO ((JZ fl).map D.int)->C r:=fun r h=>by rw [h];exact fin
 refine last _ ?_;have hcat:jcU (.lst ((fl.map (·.b)).map D.int)) (.lst ((fl.map (·.e)).map D.int))=some ((hrs fl).map D.int):=by show (if _ then some _ else none)=_;rw [if_pos (by simp only [Yd];show fl.length+fl.length<=2 ^ 24;omega),<- YW];rfl
 unfold zG jhn;simp (disch:=omega) only [jb,jH,jq,ja,Yl,Yg,Ye,jk,Yi];rw [hcat];simp (disch:=omega) only [Yi,Ye];rw [QW,Ye,if_pos (by simp [hrs];omega)];rfl
theorem jkP {l:List D}:L2.jcR l (some 1) none=l.tail:=by
 unfold L2.jcR;rw [HT.sIx_none,show (1:Int)=((1:Nat):Int) from rfl,HT.sIx_nat];cases l with
 | nil=>rfl
 | cons d l=>simp
theorem Qt (fl:List Ship) (hl:fl.length<20):J3 [.lst (fl.map jr)]=some ((jj fl).map jC):=by
 suffices main:∀C:Res->Prop,C (.retO ((jj fl).map jC))->C (QI [.sh ‹"c"›,.un]) by exact main (fun r=>jb6 r=some ((jj fl).map jC)) rfl
 intro C fin;unfold QI;refine jJ [.sh ‹"c"›,.sh (.lst ((JZ fl).map D.int))] (by simp (disch:=omega) only [jG,jH,jg,jb,jm,Yg,jk,Yi,Ye,Yw,YB];simp only [jgG fl hl];simp (disch:=omega) only [Yi]) ?_;have last:∀r,r=Res.retO ((jj fl).map jC)->C r:=fun r h=>by rw [h];exact fin
 refine last _ ?_;have hb:=jbx fl;unfold zG eLZ;simp (disch:=omega) only [jb,ja,Yl,Yg,jH,eSl,pSo,eC,pNo,Yi,jk,Ye];rw [jkP];simp only [Yd];rw [j6 (by omega)];unfold ja1 jj;rw [<-List.map_tail,List.zip_map,YJ];rfl
theorem jfd (fl:List Ship):(JZ fl).Pairwise (· < ·):=Zm
theorem mem_bnds {fl:List Ship} {k:Int}:k∈JZ fl ↔ k∈hrs fl:=jc5
theorem jdW:∀{l:List Int},l.Pairwise (· < ·)->∀p∈l.zip l.tail,p.1<p.2/\p.1∈l/\p.2∈l
 | [],_,p,hp=>by simp at hp
 | [x],_,p,hp=>by simp at hp
 | x::y::l,h,p,hp=>by
   have h':=YD.mp h;simp only [List.tail_cons,yW,Yr] at hp;rcases hp with rfl | hp
   . exact ⟨h'.1 y Yf,Yf,Ym _ Yf⟩
   . obtain ⟨a,b,c⟩:=jdW h'.2 p hp;exact ⟨a,Ym _ b,Ym _ c⟩
theorem jde {fl:List Ship} {p:Int×Int} (h:p∈jj fl):p.1<p.2/\p.1∈JZ fl/\p.2∈JZ fl:=jdW (jfd fl) p h
theorem je5 {x:Int} {l:List Int} (h:(x::l).Pairwise (· < ·)):∀y∈x::l,x<=y:=fun y hy=>by
 rcases Yr.mp hy with rfl | hy
 . exact yY _
 . exact yg ((YD.mp h).1 y hy)
def jeN:Int->List Int->Int
 | x,[]=>x
 | _,y::l=>jeN y l
theorem jg5:∀(x:Int) (l:List Int),(x::l).Pairwise (· < ·)->∀y∈x::l,y<=jeN x l
 | x,[],_,y,hy=>by simp at hy;subst hy;exact yY _
 | x,z::l,h,y,hy=>by
   have h':=YD.mp h;have ih:=jg5 z l h'.2;show y<=jeN z l;rcases Yr.mp hy with rfl | hy
   . have:=h'.1 z Yf;have:=ih z Yf;omega
   . exact ih y hy
def inS (h:Int) (p:Int×Int):Bool:=decide (p.1<=h) && decide (h<p.2)
theorem jpp (h:Int):∀(x:Int) (l:List Int),(x::l).Pairwise (· < ·)->(((x::l).zip l).filter (inS h)).length=if x<=h/\h<jeN x l then 1 else 0
 | x,[],_=>by
   show 0=if x<=h/\h<x then 1 else 0
   rw [if_neg (by omega)]
 | x,y::l,hr=>by
   have h':=YD.mp hr;have ih:=jpp h y l h'.2;have xy:=h'.1 y Yf;have yl:=jg5 y l h'.2 y Yf;show _=if x<=h/\h<jeN y l then 1 else 0
   generalize jeN y l=z at *
   rw [yW,yf];by_cases c:x<=h/\h<y
   . have e1:inS h (x,y)=true:=by simp [inS,c.1,c.2]
     have e2:¬(y<=h/\h<z):=by omega
     rw [if_neg e2] at ih;rw [if_pos e1,if_pos ⟨c.1,by omega⟩,YH,ih]
   . have e1:¬inS h (x,y)=true:=by simp [inS];omega
     rw [if_neg e1,ih];by_cases d:y<=h/\h<z
     . rw [if_pos d,if_pos ⟨by omega,d.2⟩]
     . rw [if_neg d,if_neg (by omega)]
theorem jcV (l:List Int):(l.zip l.tail).length=l.length-1:=by simp <;> omega
def nb:List Int->List (Int×Int)
 | x::y::l=>if x<y then (x,y)::nb (y::l) else nb (y::l)
 | _=>[]
def ded:List Int->List Int
 | x::y::l=>if x<y then x::ded (y::l) else ded (y::l)
 | l=>l
theorem jgP (x:Int):∀l:List Int,(x::l).Pairwise (· <= ·)->∃r,ded (x::l)=x::r
 | [],_=>⟨[],rfl⟩
 | y::l,h=>by
   have h':=YD.mp h;obtain ⟨r,hr⟩:=jgP y l h'.2;by_cases c:x<y
   . exact ⟨ded (y::l),by simp [ded,c]⟩
   . have e:x=y:=by have:=h'.1 y Yf;omega
     subst e;exact ⟨r,by simp [ded];exact hr⟩
theorem jlK:∀l:List Int,l.Pairwise (· <= ·)->nb l=(ded l).zip (ded l).tail
 | [],_=>rfl
 | [x],_=>rfl
 | x::y::l,h=>by
   have h':=YD.mp h;have ih:=jlK (y::l) h'.2;obtain ⟨r,hr⟩:=jgP y l h'.2;by_cases c:x<y
   . simp only [nb,ded,c,yo];rw [ih,hr];rfl
   . simp only [nb,ded,c,yx];exact ih
theorem jfz:∀(l:List Int),l.Pairwise (· <= ·)->∀k,k∈ded l ↔ k∈l
 | [],_,k=>Iff.rfl
 | [x],_,k=>Iff.rfl
 | x::y::l,h,k=>by
   have h':=YD.mp h;have ih:=jfz (y::l) h'.2 k;by_cases c:x<y
   . simp only [ded,c,yo,Yr (a:=k) (b:=x),ih]
   . have e:x=y:=by have:=h'.1 y Yf;omega
     subst e;simp only [ded,c,yx,ih];simp
theorem jgN:∀(l:List Int),l.Pairwise (· <= ·)->(ded l).Pairwise (· < ·)
 | [],_=>by simp [ded]
 | [x],_=>by simp [ded]
 | x::y::l,h=>by
   have h':=YD.mp h;have ih:=jgN (y::l) h'.2;by_cases c:x<y
   . simp only [ded,c,yo];refine YD.mpr ⟨fun z hz=>?_,ih⟩;have hz':=(jfz (y::l) h'.2 z).mp hz;rcases Yr.mp hz' with rfl | hz'
     . exact c
     . have:=(YD.mp h'.2).1 z hz';omega
   . simp only [ded,c,yx];exact ih
theorem jn2 (l:List Int):nb (Zn l)=(srt l).zip (srt l).tail:=by
 rw [jlK _ (J2 l)];have e:ded (Zn l)=srt l:=ja8 (jgN _ (J2 l)) Zm fun k=>by rw [jfz _ (J2 l),(Q3 l).mem_iff,jc5]
 rw [e]
def nbI (l:List Int) (i:Nat):Bool:=decide (l.getD i 0<l.getD (i+1) 0)
theorem jhy:∀l:List Int,((List.range (l.length-1)).filter (nbI l)).map (fun i=>(l.getD i 0,l.getD (i+1) 0))=nb l
 | []=>rfl
 | [x]=>rfl
 | x::y::l=>by
   have ih:=jhy (y::l);simp only [YH,Nat.add_sub_cancel] at ih ⊢;rw [KW,yf,List.filter_map];have e1:(nbI (x::y::l)∘Nat.succ)=nbI (y::l):=by funext i;simp [nbI,Function.comp]
   have e2:((fun i=>((x::y::l).getD i 0,(x::y::l).getD (i+1) 0))∘Nat.succ)=fun i=>((y::l).getD i 0,(y::l).getD (i+1) 0):=by funext i;simp [Function.comp]
   by_cases c:x<y
   . have:nbI (x::y::l) 0=true:=by simp [nbI,c]
     rw [if_pos this,List.map_cons,YJ,e1,e2,ih];simp [nb,c]
   . have:¬nbI (x::y::l) 0=true:=by simp [nbI,c]
     rw [if_neg this,YJ,e1,e2,ih];simp [nb,c]
theorem JB {l:List Int} {i:Nat} (h:i<l.length):jO (.lst (l.map D.int)) (.int i)=some (.int (l.getD i 0)):=by refine jb5 (by omega) ?_;rw [Yq,List.getElem?_map,Ya h,Yb,Ya h];rfl
theorem jd4 (fl:List Ship) (hl:fl.length<20):Qp [.lst (fl.map jr)]=some ((jj fl).map jC):=by
 suffices main:∀C:Res->Prop,C (.retO ((jj fl).map jC))->C (Qn [.sh ‹"c"›,.un]) by exact main (fun r=>jb6 r=some ((jj fl).map jC)) rfl
 intro C fin;unfold Qn;have hcat:jcU (.lst ((fl.map (·.b)).map D.int)) (.lst ((fl.map (·.e)).map D.int))=some ((hrs fl).map D.int):=by show (if _ then some _ else none)=_;rw [if_pos (by simp only [Yd];show fl.length+fl.length<=2 ^ 24;omega),<- YW];rfl
 have hhl:(hrs fl).length<64:=by simp [hrs];omega
 have hsort:jhd [.lst ((hrs fl).map D.int)]=some ((Zn (hrs fl)).map D.int):=by show ((ZW ((hrs fl).map D.int)).bind fun ns=>if ns.length<64 then some ((Zn ns).map D.int) else none)=_;rw [QW,Ye,if_pos hhl]
 have q1:=Za (fl:=fl) 0 (·.b) (fun s=>JQ) [.sh ‹"c"›,.un] 0 rfl (by omega);have q2:=Za (fl:=fl) 1 (·.e) (fun s=>JI) [.sh ‹"c"›,.un] 0 rfl (by omega);refine jJ [.sh ‹"c"›,.sh (.lst ((Zn (hrs fl)).map D.int))] (by simp (disch:=omega) only [jG,jH,jg,jb,jq,jk,Yi,Yw,YB];simp only [q1,q2];simp (disch:=omega) only [Yi,Ye];simp only [hcat];simp (disch:=omega) only [Yi,Ye];simp only [hsort];simp (disch:=omega) only [Yi]) ?_
 have last:∀r,r=Res.retO ((jj fl).map jC)->C r:=fun r h=>by rw [h];exact fin
 refine last _ ?_;have hsl:(Zn (hrs fl)).length=(hrs fl).length:=(Q3 _).length_eq;have hsp:jj fl=nb (Zn (hrs fl)):=by rw [jn2];rfl
 rw [hsp,<- jhy];generalize Zn (hrs fl)=l at *
 have hr:JV (jb (jq zp (jg qG (jb (ja 1) jk)) (eC (.int 1))) jk) [.sh ‹"c"›,.sh (.lst (l.map D.int))]=some (rng 0 ((l.length:Int)-1).toNat):=by unfold JV;simp (disch:=omega) only [jb,jq,jg,ja,Yl,Yg,jk,Yi,Ye,jai,eC,qy];simp only [Yd];rw [if_pos ⟨by omega,by omega⟩]
 have hn:((l.length:Int)-1).toNat=l.length-1:=by omega
 rw [hn] at hr;unfold zG;rw [qq hr (by simp [rng];omega) (je9 (fun d=>match d with | .int i=>nbI l i.toNat | _=>false) (fun d=>match d with | .int i=>jC (l.getD i.toNat 0,l.getD (i.toNat+1) 0) | _=>.non) _ fun d hd=>?_)]
 . simp only [rng,List.filter_map,YJ];congr 1;have e1:((fun d=>match d with | D.int i=>nbI l i.toNat | _=>false)∘fun (i:Nat)=>D.int (0+(i:Int)))=nbI l:=by funext i;simp [Function.comp]
   rw [e1];refine Kh fun i _=>?_;simp [Function.comp]
 . unfold rng at hd;obtain ⟨i,hi,rfl⟩:=Y6.mp hd;rw [KF] at hi;have z:(0:Int)+(i:Int)=i:=by omega
   rw [z];have d0:=JB (l:=l) (i:=i) (by omega);have d1:=JB (l:=l) (i:=i+1) (by omega);have ec:((i+1:Nat):Int)=(i:Int)+1:=by omega
   rw [ec] at d1;refine ⟨[.sh (.int i),.sh (.lst (l.map D.int))],rfl,?_,fun _=>?_⟩
   . show qQ _ _=_;simp (disch:=omega) only [qQ,jq,ja,Yl,Yg,Ye,eC,j1];simp only [d0,d1];simp (disch:=omega) only [Ye,QC];rfl
   . simp (disch:=omega) only [ZJ,jb,jq,ja,Yl,Yg,Ye,eC,j1,jk,Yi];simp only [d0,d1];simp (disch:=omega) only [Ye,Yi,YH,Y3,Kq,Nat.reduceAdd,j6,yo];rfl
def zk (s:Ship) (p:Int×Int):Int:=if s.b<=p.1/\p.2<=s.e then s.m*(p.2-p.1) else 0
def jh (r:List Int):D:=.lst (r.map D.int)
theorem jeQ (s:Ship):∀(x:Int) (l:List Int),(x::l).Pairwise (· < ·)->(((x::l).zip l).map (zk s)).sum=s.m*(((((x::l).zip l).filter fun p=>decide (s.b<=p.1/\p.2<=s.e)).map fun p=>p.2-p.1).sum)
 | x,[],_=>by simp
 | x,y::l,h=>by
   have h':=YD.mp h;have ih:=jeQ s y l h'.2;rw [yW,List.map_cons,List.sum_cons,ih,yf];by_cases c:s.b<=x/\y<=s.e
   . rw [if_pos (by simpa using c),List.map_cons,List.sum_cons,Int.mul_add];simp [zk,c]
   . rw [if_neg (by simpa using c)];simp [zk,c]
theorem jhx (b e:Int):∀(x:Int) (l:List Int),(x::l).Pairwise (· < ·)->b<=x->x<=e->e∈x::l->((((x::l).zip l).filter fun p=>decide (b<=p.1/\p.2<=e)).map fun p=>p.2-p.1).sum=e-x
 | x,[],_,_,_,he=>by simp at he;subst he;simp
 | x,y::l,h,hb,hxe,he=>by
   have h':=YD.mp h;have hxy:=h'.1 y Yf;rw [yW,yf];by_cases c:y<=e
   . have he':e∈y::l:=by
       rcases Yr.mp he with z | z
       . omega
       . exact z
     have ih:=jhx b e y l h'.2 (by omega) c he';rw [if_pos (by simp;exact ⟨hb,c⟩),List.map_cons,List.sum_cons,ih];show y-x+(e-y)=e-x;omega
   . have hx:e=x:=by
       rcases Yr.mp he with z | z
       . exact z
       . have:=je5 h'.2 e z;omega
     rw [if_neg (by simp;intro _;omega)];have:(((y::l).zip l).filter fun p=>decide (b<=p.1/\p.2<=e))=[]:=List.filter_eq_nil_iff.mpr fun p hp=>by have q:=jdW h'.2 p (by simpa using hp);have:=je5 h'.2 p.1 q.2.1;simp;intro _;omega
     rw [this,hx];simp
theorem ji3 (b e:Int) (hbe:b<=e):∀(l:List Int),l.Pairwise (· < ·)->b∈l->e∈l->(((l.zip l.tail).filter fun p=>decide (b<=p.1/\p.2<=e)).map fun p=>p.2-p.1).sum=e-b
 | [],_,hb,_=>by cases hb
 | x::l,h,hb,he=>by
   by_cases c:b=x
   . subst c;exact jhx b e b l h (yY _) hbe he
   . have hb':b∈l:=by rcases Yr.mp hb with z | z;exact absurd z c;exact z
     have h':=YD.mp h;have hxb:=h'.1 b hb';have he':e∈l:=by rcases Yr.mp he with z | z;omega;exact z
     have ih:=ji3 b e hbe l h'.2 hb' he';cases l with
     | nil=>cases hb'
     | cons y l=>rw [List.tail_cons,yW,yf,if_neg (by simp;intro z;omega)];exact ih
theorem jeV {fl:List Ship} {s:Ship} (hs:s∈fl) (hk:s.Ok):((jj fl).map (zk s)).sum=s.m*(s.e-s.b):=by
 have hb:s.b∈JZ fl:=mem_bnds.mpr (Yx _ (ka hs));have he:s.e∈JZ fl:=mem_bnds.mpr (YL _ (ka hs));have hr:=jfd fl;unfold jj;have e1:=ji3 s.b s.e (by have:=hk.lt;omega) (JZ fl) hr hb he;cases hl:JZ fl with
 | nil=>rw [hl] at hb;cases hb
 | cons x l=>rw [hl] at e1 hr;rw [List.tail_cons] at e1 ⊢;rw [jeQ s x l hr,e1]
theorem jiA {s:Ship} (hs:s.Ok) {l:List (Int×Int)} (hl:l.length<1000):Qi [jr s,.lst (l.map jC)]=some ((l.map (zk s)).map D.int):=by
 suffices main:∀C:Res->Prop,C (.retO ((l.map (zk s)).map D.int))->C (Qf [.sh (jr s),.sh (.lst (l.map jC)),.un,.un,.un]) by exact main (fun r=>jb6 r=some ((l.map (zk s)).map D.int)) rfl
 intro C fin;unfold Qf;have m0:=hs.m0;have m1:=hs.m1;refine jJ [.sh (jr s),.sh (.lst (l.map jC)),.ow [],.un,.un] ‹"au"› ?_;refine jeH (l.map jC) (fun ds ρ=>∃(pre q:List (Int×Int)) (x y:Slot),pre++q=l/\ds=q.map jC/\ρ=[.sh (jr s),.sh (.lst (l.map jC)),.ow ((pre.map (zk s)).map D.int),x,y]) (ql rfl) ⟨[],l,.un,.un,rfl,rfl,rfl⟩ ?_ ?_
 . rintro d ds ρ ⟨pre,q,x,y,hpq,hds,rfl⟩;cases q with
   | nil=>cases hds
   | cons p q=>
     cases hds;have hpl:pre.length<1000:=by rw [<-hpq] at hl;simp at hl;omega
     refine ⟨[.sh (jr s),.sh (.lst (l.map jC)),.ow ((pre.map (zk s)).map D.int),.sh (.int p.1),.sh (.int p.2)],[.sh (jr s),.sh (.lst (l.map jC)),.ow (((pre++[p]).map (zk s)).map D.int),.sh (.int p.1),.sh (.int p.2)],rfl,?_,pre++[p],q,_,_,by simpa using hpq,rfl,rfl⟩;unfold jr;simp (disch:=omega) only [Qh,ZK,qQ,jq,ja,Yg,eC,Ye,JQ,Yl,jce,JI,JK,jb9,qy,Qx,Yw,YB];simp only [Yd,YW,List.map_cons,yD];rw [j6 (by omega)];unfold zk;by_cases c1:s.b<=p.1
     . by_cases c2:p.2<=s.e
       . simp only [c1,c2,KZ,and_self,yo]
       . simp only [c1,c2,KZ,Kn,and_false,yx]
         try simp (disch:=omega) only [yo]
     . simp only [c1,Kn,false_and,yx]
       try simp (disch:=omega) only [yo]
 . rintro ρ ⟨pre,q,x,y,hpq,hds,rfl⟩;have hq:q=[]:=by cases q with | nil=>rfl | cons _ _=>cases hds
   subst hq;rw [yH] at hpq;subst hpq;exact fin
theorem jjw:∀(l:List Int) (i:Nat) (a v:Int),l[i]?=some a->(l.set i v).sum=l.sum-a+v
 | [],_,_,_,h=>by simp at h
 | x::l,0,a,v,h=>by simp at h;subst h;simp;omega
 | x::l,i+1,a,v,h=>by have:=jjw l i a v (by simpa using h);simp only [Yw,List.sum_cons,this];omega
structure RowOk (S:List (Int×Int)) (s:Ship) (r:List Int):Prop where
 len:r.length=S.length
 bd:∀(j:Nat) x p,r[j]?=some x->S[j]?=some p->0<=x/\x<=zk s p
 sum:r.sum=s.n
structure PlanOk (fl:List Ship) (P:List (List Int)):Prop where
 len:P.length=fl.length
 row:∀(i:Nat) r s,P[i]?=some r->fl[i]?=some s->RowOk (jj fl) s r
theorem jgf {s:Ship} (hs:s.Ok) {p:Int×Int} (h:p.1<p.2):0<=zk s p:=by
 unfold zk;split
 . exact Kl hs.m0 (by omega)
 . omega
theorem jfO {l:List Int} {k:Int} {x:Int} (h0:0<=k) (h:l[k.toNat]?=some x):jO (.lst (l.map D.int)) (.int k)=some (.int x):=jfj h0 h
theorem jnv (a b c:Int):jdM a b c<=a/\jdM a b c<=b/\jdM a b c<=c:=by unfold jdM;split <;> split <;> omega
theorem jnh {a b c:Int} (h1:0<=a) (h2:0<=b) (h3:0<=c):0<=jdM a b c:=by unfold jdM;split <;> split <;> omega
theorem jrd {z0 z3 e f g h w:Slot} {cells Mo R:List Int} {parts:List D} {i left m cl sm x:Int} {j:Nat} (hi:0<=i) (hi':i<1000) (hc:0<cells.length) (hj:j<1000) (hRj:R.length=j)
 (ec:jO ‹"p"› (.int ((i*parts.length+j)%cells.length))=some (.int cl)) (dm:jO ‹"D"› (.int j)=some (.int m)) (hm:0<=m)
 (es:jO (.lst [.int 0,.int m,.int (m*(cl/4%9)/8),.int (cl/4%(m+1))]) (.int (cl%4))=some (.int sm)) (dmin:jcM [.int left,.int m,.int sm]=some (.int x))
 (dr:jO (.lst (R.map D.int++[.int x])) (.int j)=some (.int x)) :
 (jA ‹"I"›
  (jA ‹"d"›
  (jA ‹"ac"›
  (jG 6 (jq zp (ja 6) (jq jO (ja 7) (ja 8)))))))
  ‹"bj"› =
 .next [z0,.sh ‹"p"›,.sh (.lst parts),z3,.sh (.int i),.sh ‹"D"›,.sh (.int (left-x)),.ow (R.map D.int++[.int x]),.sh (.int j),.sh (.int cl),.sh (.int sm),h,w]:=by
 refine Zd (ρ':=[z0,.sh ‹"p"›,.sh (.lst parts),z3,.sh (.int i),.sh ‹"D"›,.sh (.int left),.ow (R.map D.int),.sh (.int j),.sh (.int cl),g,h,w]) (by simp (disch:=omega) only [jG,jq,ja,Yl,Yg,jg,jb,jk,Yi,Ye,jai,Qx,j1,Yw,YB];simp only [Yd];simp (disch:=omega) only [j5,Ye];simp only [ec]) ?_;refine Zd (ρ':=[z0,.sh ‹"p"›,.sh (.lst parts),z3,.sh (.int i),.sh ‹"D"›,.sh (.int left),.ow (R.map D.int),.sh (.int j),.sh (.int cl),.sh (.int sm),h,w]) (by simp (disch:=omega) only [jG,jq,jH,zx,jb,eC,ja,Yl,Yg,Ye,zc,j5,jk,Yi,Yw,YB];simp only [dm];simp (disch:=omega) only [Ye,JD,zc,j1,j5,Yi,YH,Y3,Kq,Nat.reduceAdd,j6,yo];simp only [es]) ?_;refine Zd (ρ':=[z0,.sh ‹"p"›,.sh (.lst parts),z3,.sh (.int i),.sh ‹"D"›,.sh (.int left),.ow (R.map D.int++[.int x]),.sh (.int j),.sh (.int cl),.sh (.int sm),h,w]) (by simp (disch:=omega) only [JK,Yl,Yg,jg,jb,ja,jq,Ye,jk,Yi,Yw,YB];simp only [dm];simp (disch:=omega) only [Ye,Yi];simp only [dmin,Yd];rw [j6 (by omega)];rfl) ?_
 simp (disch:=omega) only [jG,jq,ja,Yl,Yg,Ye,Yw,YB];simp only [dr];simp (disch:=omega) only [Ye,qy]
theorem jrg {z0 z3 f g h w:Slot} {cells Mo R:List Int} {parts:List D} {i left c m y x:Int} {j a:Nat} (hi:0<=i) (hc:0<cells.length) (hp:0<parts.length)
 (ec:jO ‹"p"› (.int (i%cells.length))=some (.int c)) (ha:((j:Int)+c)%parts.length=a) (dm:jO ‹"D"› (.int a)=some (.int m)) (dr:jO (.lst (R.map D.int)) (.int a)=some (.int y))
 (hx:(if m-y<left then m-y else left)=x) (hal:a<R.length) :
 (jA ‹"H"›
  (jA ‹"U"›
  (jA ‹"aE"›
  (jG 6 (jq zp (ja 6) (ja 12))))))
  ‹"bj"› =
 .next [z0,.sh ‹"p"›,.sh (.lst parts),z3,.sh (.int i),.sh ‹"D"›,.sh (.int (left-x)),.ow ((R.set a (y+x)).map D.int),.sh (.int j),f,g,.sh (.int a),.sh (.int x)]:=by
 refine Zd (ρ':=[z0,.sh ‹"p"›,.sh (.lst parts),z3,.sh (.int i),.sh ‹"D"›,.sh (.int left),.ow (R.map D.int),.sh (.int j),f,g,.sh (.int a),w]) (by simp (disch:=omega) only [jG,jq,ja,Yl,Yg,jg,jb,jk,Yi,Ye,jai,Yw,YB];simp only [Yd];simp (disch:=omega) only [j5,Ye];simp only [ec];simp (disch:=omega) only [Ye,j1,j5];rw [ha]) ?_;refine Zd (ρ':=[z0,.sh ‹"p"›,.sh (.lst parts),z3,.sh (.int i),.sh ‹"D"›,.sh (.int left),.ow (R.map D.int),.sh (.int j),f,g,.sh (.int a),.sh (.int x)]) (by simp (disch:=omega) only [jG,jg,jb,ja,Yl,Yg,jq,Ye,jk,Yi,Yw,YB];simp only [dm,dr];simp (disch:=omega) only [Ye,qy,Yi,QJ];rw [hx]) ?_;refine Zd (ρ':=[z0,.sh ‹"p"›,.sh (.lst parts),z3,.sh (.int i),.sh ‹"D"›,.sh (.int left),.ow ((R.set a (y+x)).map D.int),.sh (.int j),f,g,.sh (.int a),.sh (.int x)]) (by
  have hix:ixN R.length (a:Int)=some a:=by unfold ixN;rw [if_pos (by omega),if_pos (by omega),Yq]
  simp (disch:=omega) only [jfD,Yl,Yg,jq,ja,Ye,jm,Yw,YB];simp only [dr];simp (disch:=omega) only [Ye,j1];simp only [Yd,hix,List.map_set]) ?_
 simp (disch:=omega) only [jG,jq,ja,Yl,Yg,Ye,qy,Yw,YB]
theorem jkH (fl:List Ship) (hfl:∀s∈fl,s.Ok) (tL:fl.length<=8) (cells:List Int) (hc0:cells≠[]) (hc1:cells.length<1000):∃P,PlanOk fl P/\jak [.lst (fl.map jr),.lst (cells.map D.int)]=some (P.map jh):=by
 suffices main:∀C:Res->Prop,(∀P,PlanOk fl P->C (.retO (P.map jh)))->C (QM [.sh ‹"c"›,.sh ‹"p"›,.un,.un,.un,.un,.un,.un,.un,.un,.un,.un,.un]) by exact main (fun r=>∃P,PlanOk fl P/\jb6 r=some (P.map jh)) fun P hP=>⟨P,hP,rfl⟩
 intro C fin;have eparts:=jd4 fl (by omega);have hSlen:(jj fl).length<=16:=by have:=jbx fl;have:=jcV (JZ fl);unfold jj;omega
 have hSlt:∀p∈jj fl,p.1<p.2:=fun p hp=>(jde hp).1;have hrooms:∀s∈fl,((jj fl).map (zk s)).sum=s.m*(s.e-s.b):=fun s hs=>jeV hs (hfl s hs);generalize hS:jj fl=S at *
 have hcl:0<cells.length:=List.length_pos_iff.mpr hc0;unfold QM;refine jJ [.sh ‹"c"›,.sh ‹"p"›,.sh ‹"bt"›,.un,.un,.un,.un,.un,.un,.un,.un,.un,.un] (by simp (disch:=omega) only [jG,jH,jg,jb,jm,Yg,jk,Yi,Ye,Yw,YB];simp only [eparts];simp (disch:=omega) only [Yi]) ?_;refine jJ [.sh ‹"c"›,.sh ‹"p"›,.sh ‹"bt"›,.ow [],.un,.un,.un,.un,.un,.un,.un,.un,.un] ‹"au"› ?_;refine jeH (rng 0 (fl.length:Int).toNat) (fun ds ρ=>∃(P:List (List Int)) (k:Nat) (lo:Int) (a b c d e f g h:Slot) (w:Slot),ds=rng lo k/\lo=P.length/\P.length+k=fl.length/\(∀(i:Nat) r s,P[i]?=some r->fl[i]?=some s->RowOk S s r) /\
  ρ=[.sh (.lst (fl.map jr)),.sh (.lst (cells.map D.int)),.sh (.lst (S.map jC)),.ow (P.map jh),a,b,c,d,e,f,g,h,w])
  (JH (by simp (disch:=omega) only [jb,jg,ja,Yg,jk,Yi,Ye,jai];simp only [Yd]) (by omega) (by omega)) ⟨[],fl.length,0,.un,.un,.un,.un,.un,.un,.un,.un,.un,by simp,rfl,by simp,by simp,rfl⟩ ?_ ?_
 . rintro d ds ρ ⟨P,k,lo,a,b,c,d',e,f,g,h,w,hds,hlo,hPk,hP,rfl⟩;cases k with
   | zero=>cases hds
   | succ k=>
     rw [J5] at hds;cases hds;subst hlo;have hi:P.length<fl.length:=by omega
     have gs:fl[P.length]?=some fl[P.length]:=Ya hi;generalize hsh:fl[P.length]=s at gs;have hsm:s∈fl:=YF gs;have hs:=hfl s hsm;have hm0:=hs.m0;have hm1:=hs.m1;have hn0:=hs.n0;have dsh:jO ‹"c"› (.int P.length)=some (jr s):=jfj (by omega) (by rw [Yq];exact gs);have erooms:=jiA hs (l:=S) (by omega);have hsum:=hrooms s hsm;have hneed:s.n<=s.m*(s.e-s.b):=hs.n1;generalize hMo:S.map (zk s)=Mo at *
     have hMl:Mo.length=S.length:=by rw [<-hMo,Yd]
     have hMn:∀(j:Nat) x,Mo[j]?=some x->0<=x:=fun j x hx=>by rw [<-hMo,List.getElem?_map] at hx;obtain ⟨p,h1,h2⟩:=map_some hx;subst h2;exact jgf hs (hSlt p (YF h1))
     suffices turn:∀C':Res->Prop,(∀r ρ',RowOk S s r->(∃a b c d e f g h w,ρ'=[.sh ‹"c"›,.sh ‹"p"›,.sh ‹"bt"›,.ow ((P++[r]).map jh),a,b,c,d,e,f,g,h,w])->C' (.next ρ'))->C' ((jA (jG 5 (jH (jg Qi (jb ‹"ad"› (jb (jm 2) jk)))))
     (jA (jG 6 (jq jO ‹"ad"› (eC (.int 2))))
     (jA (Jx 7 (zx jk))
     (jA (zQ ‹"an"› (jz 8)
     (jA ‹"I"›
     (jA ‹"d"›
     (jA ‹"ac"›
     (jG 6 (jq zp (ja 6) (jq jO (ja 7) (ja 8))))))))
     (jA (zQ ‹"an"› (jz 8)
     (jA ‹"H"›
     (jA ‹"U"›
     (jA ‹"aE"›
     (jG 6 (jq zp (ja 6) (ja 12)))))))
     (jbW 7 (JK 3 (jm 7)))))))) [.sh (.lst (fl.map jr)),.sh (.lst (cells.map D.int)),.sh (.lst (S.map jC)),.ow (P.map jh),.sh (.int P.length),b,c,d',e,f,g,h,w]) by
       obtain ⟨ρ2,h1,r,hr,a2,b2,c2,d2,e2,f2,g2,h2,w2,rfl⟩:=turn (fun res=>∃ρ',res=.next ρ'/\∃r,RowOk S s r/\∃a b c d e f g h w,ρ'=[.sh ‹"c"›,.sh ‹"p"›,.sh ‹"bt"›,.ow ((P++[r]).map jh),a,b,c,d,e,f,g,h,w]) fun r ρ' hr hρ=>⟨ρ',rfl,r,hr,hρ⟩;refine ⟨_,_,rfl,h1,P++[r],k,P.length+1,a2,b2,c2,d2,e2,f2,g2,h2,w2,rfl,by simp,by simp;omega,fun i r' s' q1 q2=>?_,rfl⟩;by_cases hiP:i<P.length
       . rw [YC hiP] at q1;exact hP i r' s' q1 q2
       . rw [Yz (by omega)] at q1;have:i=P.length:=by
           rcases YX (i-P.length) 1 with z | z
           . omega
           . rw [YE (by simpa using z)] at q1;cases q1
         subst this;simp at q1;subst q1;rw [gs] at q2;cases q2;exact hr
     intro C' fin';clear fin C eparts
     -- most, left, row
     refine jJ [.sh ‹"c"›,.sh ‹"p"›,.sh ‹"bt"›,.ow (P.map jh),.sh (.int P.length),.sh ‹"D"›,c,d',e,f,g,h,w] (by simp (disch:=omega) only [jG,jH,jg,jb,jq,ja,Yg,Yl,Ye,jm,jk,Yi,Yw,YB];simp only [dsh];simp (disch:=omega) only [Ye];simp only [erooms];simp (disch:=omega) only [Yi]) ?_;refine jJ [.sh ‹"c"›,.sh ‹"p"›,.sh ‹"bt"›,.ow (P.map jh),.sh (.int P.length),.sh ‹"D"›,.sh (.int s.n),d',e,f,g,h,w] (by simp (disch:=omega) only [jG,jq,ja,Yg,Yl,Ye,eC,Yw,YB];simp only [dsh];unfold jr;simp (disch:=omega) only [Ye,ZR]) ?_;refine jJ [.sh ‹"c"›,.sh ‹"p"›,.sh ‹"bt"›,.ow (P.map jh),.sh (.int P.length),.sh ‹"D"›,.sh (.int s.n),.ow [],e,f,g,h,w] ‹"au"› ?_
     -- first round
     refine jeH (rng 0 (S.length:Int).toNat) (fun ds ρ=>∃(R:List Int) (k:Nat) (left:Int) (e f g:Slot),ds=rng R.length k/\R.length+k=S.length/\left=s.n-R.sum/\0<=left/\(∀(j:Nat) x m,R[j]?=some x->Mo[j]?=some m->0<=x/\x<=m) /\
      ρ=[.sh (.lst (fl.map jr)),.sh (.lst (cells.map D.int)),.sh (.lst (S.map jC)),.ow (P.map jh),.sh (.int P.length),.sh (.lst (Mo.map D.int)),.sh (.int left),.ow (R.map D.int),e,f,g,h,w])
       ‹"aC"› ⟨[],S.length,s.n,e,f,g,by simp,by simp,by simp,hn0,by simp,rfl⟩ ?_ ?_
     . rintro d ds ρ ⟨R,k,left,e,f,g,hds,hRk,hleft,hl0,hR,rfl⟩;cases k with
       | zero=>cases hds
       | succ k=>
         rw [J5] at hds;cases hds;have hj:R.length<Mo.length:=by omega
         have gm:Mo[R.length]?=some Mo[R.length]:=Ya hj;generalize Mo[R.length]=m at gm;have hm:=hMn _ _ gm;have dm:jO ‹"D"› (.int R.length)=some (.int m):=jfO (by omega) (by rw [Yq];exact gm);obtain ⟨cl,_,ec⟩:=jeG (ns:=cells) (i:=((P.length:Int)*S.length+R.length)%cells.length) (yv _ (by omega)) (yh _ (by omega));have cm:0<=cl/4%(m+1):=yv _ (by omega);have cm':cl/4%(m+1)<m+1:=yh _ (by omega);obtain ⟨sm,hsm',es⟩:=jeG (ns:=[0,m,m*(cl/4%9)/8,cl/4%(m+1)]) (i:=cl%4) (by omega) (by show cl%4<4;omega);have sm0:0<=sm:=by
          have:0<=m*(cl/4%9):=Kl hm (by omega);simp only [Yr,YG,Ky] at hsm';rcases hsm' with rfl | rfl | rfl | rfl
          . omega
          . exact hm
          . omega
          . exact cm
         simp only [List.map_cons,yD] at es;generalize hx:jdM left m sm=x;have x0:0<=x:=by rw [<-hx];exact jnh hl0 hm sm0
         obtain ⟨x1,x2,_⟩:=jnv left m sm;rw [hx] at x1 x2;refine ⟨_,[.sh ‹"c"›,.sh ‹"p"›,.sh ‹"bt"›,.ow (P.map jh),.sh (.int P.length),.sh ‹"D"›,.sh (.int (left-x)),.ow ((R++[x]).map D.int),.sh (.int R.length),.sh (.int cl),.sh (.int sm),h,w],rfl,?_,R++[x],k,left-x,_,_,_,by simp,by simp;omega,by simp;omega,by omega,fun j y m' q1 q2=>?_,rfl⟩
         . have dr:jO (.lst (R.map D.int++[.int x])) (.int R.length)=some (.int x):=jb5 (by omega) (by rw [Yq,Yz (by simp)];simp);have dmin:jcM [.int left,.int m,.int sm]=some (.int x):=by rw [<-hx];rfl
           rw [YW];have hSl:(S.map jC).length=S.length:=Yd _;have ec':=ec;rw [<-hSl] at ec';exact jrd (e:=.un) (by omega) (by omega) hcl (by omega) rfl ec' dm hm es dmin dr
         . by_cases hjR:j<R.length
           . rw [YC hjR] at q1;exact hR j y m' q1 q2
           . rw [Yz (by omega)] at q1;have:j=R.length:=by
               rcases YX (j-R.length) 1 with z | z
               . omega
               . rw [YE (by simpa using z)] at q1;cases q1
             subst this;simp at q1;subst q1;rw [gm] at q2;cases q2;exact ⟨x0,x2⟩
     obtain ⟨cc,_,ecc⟩:=jeG (ns:=cells) (i:=(P.length:Int)%cells.length) (yv _ (by omega)) (yh _ (by omega));rintro ρ ⟨R0,k0,left0,e,f,g,hds,hRk,hleft,hl0,hR,rfl⟩;have hk0:k0=0:=by
       cases k0 with
       | zero=>rfl
       | succ k=>rw [J5] at hds;cases hds
     subst hk0;clear hds
     -- second round
     refine jeH (rng 0 (S.length:Int).toNat) (fun ds ρ=>∃(R:List Int) (k t:Nat) (left:Int) (e h w:Slot),ds=rng t k/\t+k=S.length/\R.length=S.length/\left=s.n-R.sum/\0<=left/\(∀(j:Nat) x m,R[j]?=some x->Mo[j]?=some m->0<=x/\x<=m) /\
      (∀q:Nat,q<t->0<left->∀(a:Nat),((q:Int)+cc)%S.length=a->R[a]?=Mo[a]?) /\
      ρ=[.sh (.lst (fl.map jr)),.sh (.lst (cells.map D.int)),.sh (.lst (S.map jC)),.ow (P.map jh),.sh (.int P.length),.sh (.lst (Mo.map D.int)),.sh (.int left),.ow (R.map D.int),e,f,g,h,w])
       ‹"aC"› ⟨R0,S.length,0,left0,e,h,w,by simp,by simp,by omega,hleft,hl0,hR,by simp,rfl⟩ ?_ ?_
     . rintro d ds ρ ⟨R,k,t,left,e,h,w,hds,htk,hRl,hleft,hl0,hR,hvis,rfl⟩;cases k with
       | zero=>cases hds
       | succ k=>
         rw [J5] at hds;cases hds;have hpos:(0:Int)<S.length:=by omega
         have a0:=yv ((t:Int)+cc) (Int.ne_of_gt hpos);have a1:=yh ((t:Int)+cc) hpos;obtain ⟨a,ha⟩:∃a:Nat,((t:Int)+cc)%S.length=a:=⟨(((t:Int)+cc)%S.length).toNat,by omega⟩;rw [ha] at a0 a1;have haM:a<Mo.length:=by omega
         have haR:a<R.length:=by omega
         have gm:Mo[a]?=some Mo[a]:=Ya haM;have gr:R[a]?=some R[a]:=Ya haR;generalize Mo[a]=m at gm;generalize R[a]=y at gr;obtain ⟨y0,ym⟩:=hR a y m gr gm;have dm:jO ‹"D"› (.int a)=some (.int m):=jfO (by omega) (by rw [Yq];exact gm);have dr:jO (.lst (R.map D.int)) (.int a)=some (.int y):=jfO (by omega) (by rw [Yq];exact gr);generalize hx:(if m-y<left then m-y else left)=x;have hx1:0<=x/\x<=left/\x<=m-y/\(x=m-y\/x=left):=by rw [<-hx];split <;> omega
         obtain ⟨x0,xl,xm,xx⟩:=hx1;have tn:=jrg (z0:=.sh ‹"c"›) (z3:=.ow (P.map jh)) (f:=f) (g:=g) (h:=h) (w:=w) (parts:=S.map jC) (j:=t) (by omega) hcl (by rw [Yd];omega) ecc (by rw [Yd];exact ha) dm dr hx haR;refine ⟨_,_,rfl,tn,R.set a (y+x),k,t+1,left-x,_,_,_,by simp,by omega,by simp [hRl],?_,by omega,?_,?_,rfl⟩
         . rw [jjw R a y (y+x) gr];omega
         . intro j z m' q1 q2;by_cases hja:a=j
           . subst hja;rw [Y4 haR] at q1;rw [gm] at q2;cases q1;cases q2;omega
           . rw [YR hja] at q1;exact hR j z m' q1 q2
         . intro q hq hpos' b hb;by_cases hqt:q=t
           . subst hqt;have hab:b=a:=by omega
             subst hab;rw [Y4 haR,gm];congr 1;omega
           . have old:=hvis q (by omega) (by omega) b hb;by_cases hab:a=b
             . subst hab;rw [gr,gm] at old;have:=Option.some.inj old;rw [Y4 haR,gm];congr 1;omega
             . rw [YR hab];exact old
     . rintro ρ ⟨R,k,t,left,e,h,w,hds,htk,hRl,hleft,hl0',hR,hvis,rfl⟩;have hk:k=0:=by
        cases k with
        | zero=>rfl
        | succ k=>rw [J5] at hds;cases hds
       subst hk;have hz:left=0:=by
        refine Classical.byContradiction fun hz=>?_;have hpos:0<left:=by omega
        have hRM:R=Mo:=by
         refine Kd fun j=>?_;rcases YX j S.length with hj | hj
         . have hn:(0:Int)<S.length:=by omega
           have q0:=yv ((j:Int)-cc) (Int.ne_of_gt hn);have q1:=yh ((j:Int)-cc) hn;have q2:(((j:Int)-cc)%S.length+cc)%S.length=j:=by rw [Int.emod_add_emod,Int.sub_add_cancel];exact Int.emod_eq_of_lt (by omega) (by omega)
           refine hvis (((j:Int)-cc)%S.length).toNat (by omega) hpos j ?_;rw [Int.toNat_of_nonneg q0];exact q2
         . rw [YE (by omega),YE (by omega)]
        rw [hRM,hsum] at hleft;omega
       have last:∀r ρ',r=Res.next ρ'->C' (.next ρ')->C' r:=fun r ρ' h1 h2=>by rw [h1];exact h2
       refine last _ [.sh ‹"c"›,.sh ‹"p"›,.sh ‹"bt"›,.ow ((P++[R]).map jh),.sh (.int P.length),.sh ‹"D"›,.sh (.int left),.sh (jh R),e,f,g,h,w] ?_ (fin' R _ ⟨hRl,fun j x p q1 q2=>?_,by omega⟩ ⟨_,_,_,_,_,_,_,_,_,rfl⟩)
       . clear hvis hR hneed hsum hrooms;simp (disch:=omega) only [jbW,JK,frz,Yl,Yg,Yw,YB,jm];simp only [Yd];rw [j6 (by omega)];simp only [YW,List.map_cons,yD];rfl
       . exact hR j x (zk s p) q1 (by rw [<-hMo,List.getElem?_map,q2];rfl)
 . rintro ρ ⟨P,k,lo,a,b,c,d,e,f,g,h,w,hds,hlo,hPk,hP,rfl⟩;have hk:k=0:=by
    cases k with
    | zero=>rfl
    | succ k=>rw [J5] at hds;cases hds
   subst hk;exact fin P ⟨by omega,by rw [hS];exact hP⟩
theorem jco (p:Int×Int):jac [jC p]=some (.int (p.2-p.1)):=by unfold jac jei jC;simp (disch:=omega) only [qW,YH,Y3,Kq,jcQ,qv,jq,ja,qF,List.map_cons,yD,Kr,yS,Kk,Kt,Yg,eC,Ye,JI,JQ,qy,yo]
def jL (P:List (List Int)) (j:Nat):Int:=(P.map fun r=>r.getD j 0).sum
theorem ja6 {P:List (List Int)} {j:Nat} (hj:∀r∈P,j<r.length) (hl:P.length<1000):Zu [.lst (P.map jh),.int j]=some (.int (jL P j)):=by
 have lc:JC (j3 (ja 0)) (jz 0) ‹"l"› (jq jO (ja 0) (ja 1)) 1 [1] [.sh ‹"g"›,.sh (.int j)]=some ((P.map fun r=>r.getD j 0).map D.int):=by
  refine qq (ql rfl) (by rw [Yd];omega) ?_;rw [jhV (fun d=>match jO d (.int j) with | some x=>x | none=>.non) _ fun d hd=>?_]
  . rw [YJ,YJ];congr 1;refine Kh fun r hr=>?_;show (match jO (jh r) (.int j) with | some x=>x | none=>D.non)=_;unfold jh;rw [JB (hj r hr)];rfl
  . obtain ⟨r,hr,rfl⟩:=Y6.mp hd;refine ⟨[.sh (jh r),.sh (.int j)],rfl,rfl,?_⟩;show jO (jh r) (.int j)=_;unfold jh;rw [JB (hj r hr)]
 unfold Zu jf0;simp (disch:=omega) only [qW,YH,Y3,Kq,Nat.reduceAdd,jcQ,qv,jg,jb,jH,qF,List.map_cons,yD,Kr,yS,Kk,Kt,jk,Yi,yo];simp only [lc];simp (disch:=omega) only [Yi,Ye];rw [jbi];rfl
/-- the stretch in which an hour lies -/
theorem PlanOk.rows {fl:List Ship} {P:List (List Int)} (hP:PlanOk fl P):∀r∈P,r.length=(jj fl).length:=fun r hr=>by
 obtain ⟨i,hi,e⟩:=Y9 hr;have g1:P[i]?=some r:=by rw [Ya hi,e]
 have hi':i<fl.length:=by rw [<-hP.len];exact hi
 exact (hP.row i r fl[i] g1 (Ya hi')).len
theorem jl0 {l:List D} (i:Nat) (h:i<=l.length):L2.jcR l none (some (i:Int))=l.take i:=by unfold L2.jcR;rw [HT.sIx_none,HT.sIx_nat];simp <;> omega
theorem jme (ns:List Int) (lo hi:Option Int):∃cs:List Int,L2.jcR (ns.map D.int) lo hi=cs.map D.int/\cs.length<=ns.length:=by unfold L2.jcR;rw [<-List.map_drop,<- List.map_take];exact ⟨_,rfl,by rw [K5,List.length_drop];omega⟩
theorem js0 {cs:List Int} (h:cs.length<1000):jcU (.lst (cs.map D.int)) (.lst [.int 0])=some ((cs++[0]).map D.int):=by unfold jcU;rw [YW];exact if_pos (yM (yO (j6 (by rw [Yd];simp;omega))))
theorem zb {i:Nat} {fo:ef->Option (List D)} {ρ:ef} {l:List D} (h:fo ρ=some l):jG i (jH fo) ρ=.next (ρ.set i (.sh (.lst l))):=by unfold jG jH;rw [h];rfl
def jw (f:Nat->Int):Nat->Int
 | 0=>0
 | n+1=>jw f n+f n
theorem ji {f g:Nat->Int}:∀{n:Nat},(∀j,j<n->f j=g j)->jw f n=jw g n
 | 0,_=>rfl
 | n+1,h=>by unfold jw;rw [ji fun j hj=>h j (by omega),h n (by omega)]
theorem qP {f g:Nat->Int}:∀{n:Nat},(∀j,j<n->f j<=g j)->jw f n<=jw g n
 | 0,_=>yY _
 | n+1,h=>by unfold jw;have:=qP (n:=n) fun j hj=>h j (by omega);have:=h n (by omega);omega
theorem qt {f g:Nat->Int}:∀{n:Nat},jw (fun j=>f j+g j) n=jw f n+jw g n
 | 0=>rfl
 | n+1=>by unfold jw;rw [qt];omega
theorem zP {f g:Nat->Int}:∀{n:Nat},jw (fun j=>f j-g j) n=jw f n-jw g n
 | 0=>rfl
 | n+1=>by unfold jw;rw [zP];omega
theorem zR {f:Nat->Int} {c:Int}:∀{n:Nat},jw (fun j=>c*f j) n=c*jw f n
 | 0=>by simp [jw]
 | n+1=>by unfold jw;rw [zR,Int.mul_add]
theorem jS {f:Nat->Int} {n:Nat} (h:∀j,j<n->f j=0):jw f n=0:=by
 rw [ji (g:=fun _=>0) h];induction n with
 | zero=>rfl
 | succ n ih=>unfold jw;rw [ih fun j hj=>h j (by omega)];rfl
theorem QL {f:Nat->Int} {n:Nat} (h:∀j,j<n->0<=f j):0<=jw f n:=by rw [<-jS (f:=fun _=>0) (n:=n) fun _ _=>rfl];exact qP h
theorem jaq {f:Nat->Int}:∀{n:Nat},jw f (n+1)=f 0+jw (fun j=>f (j+1)) n
 | 0=>by simp [jw]
 | n+1=>by have:=jaq (f:=f) (n:=n);show jw f (n+1)+f (n+1)=f 0+(jw (fun j=>f (j+1)) n+f (n+1));omega
theorem jbO:∀(l:List Int),l.sum=jw (fun j=>l.getD j 0) l.length
 | []=>rfl
 | x::l=>by rw [List.sum_cons,YH,jaq,jbO l];rfl
theorem jfZ {α:Type} (f:α->Int) (d:α):∀(l:List α),(l.map f).sum=jw (fun j=>f (l.getD j d)) l.length
 | []=>rfl
 | x::l=>by rw [List.map_cons,List.sum_cons,YH,jaq,jfZ f d l];rfl
theorem jiB (pr:Bool->Bool):∀(xs:List Int) (ms:List Bool),xs.length=ms.length->(((xs.zip ms).filter fun q=>pr q.2).map (·.1)).sum=jw (fun j=>if pr (ms.getD j false)=true then xs.getD j 0 else 0) xs.length
 | [],ms,_=>by simp [jw]
 | x::xs,[],h=>by simp at h
 | x::xs,m::ms,h=>by
   have ih:=jiB pr xs ms (by simpa using h);rw [yW,yf,YH,jaq];have e0:(if pr ((m::ms).getD 0 false)=true then (x::xs).getD 0 0 else 0)=if pr m=true then x else 0:=rfl
   have e1:(fun j=>if pr ((m::ms).getD (j+1) false)=true then (x::xs).getD (j+1) 0 else 0)=fun j=>if pr (ms.getD j false)=true then xs.getD j 0 else 0:=rfl
   rw [e0,e1,<- ih];dsimp only;by_cases hm:pr m=true
   . rw [if_pos hm,if_pos hm,List.map_cons,List.sum_cons]
   . rw [if_neg hm,if_neg hm,km]
theorem jsv {C:Res->Prop} {fi:ef->Option (List D)} {m:D->ef->Option ef} {B F':FS} {ρ:ef} (n:Nat) (P:Nat->ef->Prop) (hi:fi ρ=some (rng 0 n)) (h0:P 0 ρ)
 (hs:∀(j:Nat) ρ,j<n->P j ρ->∃ρ1 ρ2,m (.int (j:Int)) ρ=some ρ1/\B ρ1=.next ρ2/\P (j+1) ρ2) (k:∀ρ',P n ρ'->C (F' ρ')):C (jA (zQ fi m B) F' ρ):=by
 refine jeH (rng 0 n) (fun ds ρ=>∃j k:Nat,ds=rng (j:Int) k/\j+k=n/\P j ρ) hi ⟨0,n,rfl,by omega,h0⟩ ?_ ?_
 . rintro d ds ρ ⟨j,k,hd,hjk,hP⟩;cases k with
   | zero=>cases hd
   | succ k=>rw [J5] at hd;cases hd;obtain ⟨ρ1,ρ2,h1,h2,h3⟩:=hs j ρ (by omega) hP;exact ⟨ρ1,ρ2,h1,h2,j+1,k,rfl,by omega,h3⟩
 . rintro ρ ⟨j,k',hd,hjk,hP⟩;cases k' with
   | zero=>
     have e:j=n:=by omega
     subst e;exact k ρ hP
   | succ k=>rw [J5] at hd;cases hd
theorem jjI {α:Type} {C:Res->Prop} {fi:ef->Option (List D)} {m:D->ef->Option ef} {B F':FS} {ρ:ef} (src:α->D) (l:List α) (P:List α->ef->Prop) (hi:fi ρ=some (l.map src)) (h0:P [] ρ)
 (hs:∀(pre:List α) (a:α) (q:List α) ρ,l=pre++a::q->P pre ρ->∃ρ1 ρ2,m (src a) ρ=some ρ1/\B ρ1=.next ρ2/\P (pre++[a]) ρ2) (k:∀ρ',P l ρ'->C (F' ρ')):C (jA (zQ fi m B) F' ρ):=by
 refine jeH (l.map src) (fun ds ρ=>∃pre q:List α,ds=q.map src/\l=pre++q/\P pre ρ) hi ⟨[],l,rfl,rfl,h0⟩ ?_ ?_
 . rintro d ds ρ ⟨pre,q,hd,hl,hP⟩;cases q with
   | nil=>cases hd
   | cons a q=>cases hd;obtain ⟨ρ1,ρ2,h1,h2,h3⟩:=hs pre a q ρ hl hP;exact ⟨ρ1,ρ2,h1,h2,pre++[a],q,rfl,by rw [hl];simp,h3⟩
 . rintro ρ ⟨pre,q,hd,hl,hP⟩;cases q with
   | nil=>rw [yH] at hl;subst hl;exact k ρ hP
   | cons a q=>cases hd
theorem Jg {α:Type} {m:D->ef->Option ef} {ft:ef->Option Bool} {fe:ef->Option D} {ρ:ef} (src g:α->D):∀(l:List α),(∀a∈l,∃ρ1,m (src a) ρ=some ρ1/\ft ρ1=some true/\fe ρ1=some (g a))->ZM m ft fe ρ (l.map src)=some (l.map g)
 | [],_=>rfl
 | d::ds,h=>by obtain ⟨ρ1,h1,h2,h3⟩:=h d Yf;simp only [List.map_cons,ZM,h1,h2,h3,Ye,yo,Jg src g ds fun x hx=>h x (Ym _ hx),Yi]
theorem jfr {α:Type} {m:D->ef->Option ef} {ft:ef->Option Bool} {fe:ef->Option D} {ρ:ef} (src g:α->D) (p:α->Bool):∀(l:List α),(∀a∈l,∃ρ1,m (src a) ρ=some ρ1/\ft ρ1=some (p a)/\fe ρ1=some (g a))->ZM m ft fe ρ (l.map src)=some ((l.filter p).map g)
 | [],_=>rfl
 | d::ds,h=>by
   obtain ⟨ρ1,h1,h2,h3⟩:=h d Yf;have ih:=jfr src g p ds fun x hx=>h x (Ym _ hx);cases hp:p d with
   | true=>simp only [List.map_cons,ZM,h1,h2,hp,h3,Ye,yo,ih,Yi,yf]
   | false=>simp only [List.map_cons,ZM,h1,h2,hp,Ye,Y0,yx,ih,yf]
theorem QN {α β:Type} (f:α->D) (g:β->D) (xs:List α) (ys:List β):ja1 (xs.map f) (ys.map g)=(xs.zip ys).map fun q=>.tup [f q.1,g q.2]:=by unfold ja1;rw [List.zip_map,YJ];rfl
theorem sum_ints {l:List Int}:Qb [.lst (l.map D.int)]=some (.int l.sum):=jbi l
theorem Qm {a n:Nat} {m:FS} {ds:List D} {ρ:ef} (Pr:D->Prop) (h1:ds.length=a) (h2:qF n ds=ρ) (h:∀C:Res->Prop,(∀d,Pr d->C (.ret d))->C (m ρ)):∃d,Pr d/\qW a n m ds=some d:=by unfold qW;rw [if_pos h1,h2];exact h (fun r=>∃d,Pr d/\jcQ r=some d) fun d hd=>⟨d,hd,rfl⟩
theorem jnN {a n:Nat} {m:FS} {ds l:List D} {ρ:ef} (h1:ds.length=a) (h2:qF n ds=ρ) (h:m ρ=.retO l):Jq a n m ds=some l:=by unfold Jq;rw [if_pos h1,h2,h];rfl
theorem jfN {a n:Nat} {m:FS} {ds l:List D} {ρ:ef} (h1:ds.length=a) (h2:qF n ds=ρ) (h:∀C:Res->Prop,C (.retO l)->C (m ρ)):Jq a n m ds=some l:=by unfold Jq;rw [if_pos h1,h2];exact h (fun r=>jb6 r=some l) rfl
theorem ZT {fe:ef->Option (List D)} {ρ:ef} {l:List D} (h:fe ρ=some l):zG fe ρ=.retO l:=by unfold zG;rw [h]
theorem jiL {α:Type} {m:D->ef->Option ef} {ft:ef->Option Bool} {fe:ef->Option D} {ρ:ef} (src g:α->D) (p:α->Bool) (l:List α) (h:∀a∈l,∃ρ1,m (src a) ρ=some ρ1/\ft ρ1=some (p a)/\fe ρ1=some (g a)):ZM m ft fe ρ (l.map src)=some ((l.filter p).map g):=jfr src g p l h
def spn (fl:List Ship) (j:Nat):Int×Int:=(jj fl).getD j (0,0)
def qh (fl:List Ship) (j:Nat):Int:=(spn fl j).2-(spn fl j).1
def j2 (x:Int):Int:=if x>0 then x else 0
theorem jqT (x:Int):(if 0>x then 0 else x)=j2 x:=by unfold j2;split <;> split <;> omega
def Sm (s:Ship):Prop:=0<=s.m/\s.m<=1000000000000000
theorem jmi {s:Ship} (h:s.Ok):Sm s:=⟨h.m0,h.m1⟩
theorem ja4 {fl:List Ship} {j:Nat} (h:j<(jj fl).length):(jj fl)[j]?=some (spn fl j):=by unfold spn;rw [Yb,Ya h];rfl
theorem jiT {fl:List Ship} {j:Nat} (h:j<(jj fl).length):spn fl j∈jj fl:=YF (ja4 h)
theorem joT {fl:List Ship} {j:Nat} (h:j<(jj fl).length):jO ‹"j"› (.int j)=some (jC (spn fl j)):=jfj (by omega) (by rw [Yq];exact ja4 h)
theorem JP {fl:List Ship} (h:fl.length<20):(jj fl).length<40:=by have:=jbx fl;have:=jcV (JZ fl);unfold jj;omega
theorem jaY (n:Nat):rng 0 n=(List.range n).map fun j:Nat=>D.int (j:Int):=by unfold rng;refine Kh fun i _=>?_;rw [km]
def jY (P:List (List Int)) (i s:Nat):Int:=(P.getD i []).getD s 0
def Shape (n m:Nat) (P:List (List Int)):Prop:=P.length=n/\∀r∈P,r.length=m
theorem Shape.row {n m:Nat} {P:List (List Int)} (h:Shape n m P) {i:Nat} (hi:i<n):P[i]?=some (P.getD i [])/\(P.getD i []).length=m:=by
 have hi':i<P.length:=by rw [h.1];exact hi
 have e:P[i]?=some (P.getD i []):=by rw [Yb,Ya hi'];rfl
 exact ⟨e,h.2 _ (YF e)⟩
theorem Zg {n m:Nat} {P:List (List Int)} (h:Shape n m P) {i:Nat} (hi:i<n):jO ‹"g"› (.int i)=some (jh (P.getD i [])):=by refine jb5 (by omega) ?_;rw [Yq,List.getElem?_map,(h.row hi).1];rfl
theorem Zi {n m:Nat} {P:List (List Int)} (h:Shape n m P) {i s:Nat} (hi:i<n) (hs:s<m):jO (jh (P.getD i [])) (.int s)=some (.int (jY P i s)):=by unfold jh;exact JB (by rw [(h.row hi).2];exact hs)
theorem jbo {α:Type} (src:α->D) (d:α) (l:List α):jaH (l.map src)=(List.range l.length).map fun j:Nat=>.tup [.int (j:Int),src (l.getD j d)]:=by
 unfold jaH;apply Kd;intro i;rw [List.getElem?_map,List.getElem?_zipIdx,List.getElem?_map,List.getElem?_map];by_cases hi:i<l.length
 . rw [Ya hi,yw hi];simp [Ya hi,Yb]
 . rw [YE (by omega),YE (by simp;omega)];rfl
theorem jjx {m:D->ef->Option ef} {B:FS} (g:Nat->D) (n:Nat) (P:Nat->ef->Prop) (R:D->Prop)
 (hs:∀(j:Nat) ρ,j<n->P j ρ->∃ρ1,m (g j) ρ=some ρ1/\((∃ρ2,B ρ1=.next ρ2/\P (j+1) ρ2)\/∃d,B ρ1=.ret d/\R d)):∀(k j:Nat) (ρ:ef),j+k=n->P j ρ->
 (∃ρ',Q4 m B ((List.range' j k).map g) ρ=.next ρ'/\P n ρ')\/∃d,Q4 m B ((List.range' j k).map g) ρ=.ret d/\R d
 | 0,j,ρ,hj,hP=>.inl ⟨ρ,rfl,(show j=n by omega) ▸ hP⟩
 | k+1,j,ρ,hj,hP=>by
   obtain ⟨ρ1,h1,h2⟩:=hs j ρ (by omega) hP;rw [List.range'_succ,List.map_cons];rcases h2 with ⟨ρ2,h2,h3⟩ | ⟨d,h2,h3⟩
   . rcases jjx g n P R hs k (j+1) ρ2 (by omega) h3 with h | h
     . obtain ⟨ρ',e,p⟩:=h;exact .inl ⟨ρ',by simp only [Q4,h1,h2];exact e,p⟩
     . obtain ⟨d,e,p⟩:=h;exact .inr ⟨d,by simp only [Q4,h1,h2];exact e,p⟩
   . exact .inr ⟨d,by simp only [Q4,h1,h2],h3⟩
theorem jln {fi:ef->Option (List D)} {m:D->ef->Option ef} {B:FS} {ρ:ef} (g:Nat->D) (n:Nat) (P:Nat->ef->Prop) (R:D->Prop) (hi:fi ρ=some ((List.range n).map g)) (h0:P 0 ρ)
 (hs:∀(j:Nat) ρ,j<n->P j ρ->∃ρ1,m (g j) ρ=some ρ1/\((∃ρ2,B ρ1=.next ρ2/\P (j+1) ρ2)\/∃d,B ρ1=.ret d/\R d)) :
 (∃ρ',zQ fi m B ρ=.next ρ'/\P n ρ')\/∃d,zQ fi m B ρ=.ret d/\R d:=by
 unfold zQ;rw [hi,List.range_eq_range'];exact jjx g n P R hs n 0 ρ (by omega) h0
theorem jmE {fi:ef->Option (List D)} {m:D->ef->Option ef} {B:FS} {ρ:ef} (g:Nat->D) (n:Nat) (P:Nat->ef->Prop) (hi:fi ρ=some ((List.range n).map g)) (h0:P 0 ρ)
 (hs:∀(j:Nat) ρ,j<n->P j ρ->∃ρ1 ρ2,m (g j) ρ=some ρ1/\B ρ1=.next ρ2/\P (j+1) ρ2):∃ρ',zQ fi m B ρ=.next ρ'/\P n ρ':=by
 rcases jln g n P (fun _=>False) hi h0 (fun j ρ hj hP=>let ⟨ρ1,ρ2,h1,h2,h3⟩:=hs j ρ hj hP;⟨ρ1,h1,.inl ⟨ρ2,h2,h3⟩⟩) with h | ⟨d,_,h⟩
 . exact h
 . exact h.elim
theorem jsa {c:ef->Option Bool} {B:FS} (P:Nat->ef->Prop) (R:Res->Prop)
 (hs:∀(k:Nat) ρ,P k ρ->(c ρ=some false/\R (.next ρ))\/‹"aW"›):∀(k:Nat) (ρ:ef),P k ρ->∃n r,wh c B n ρ=some r/\R r:=by
 intro k;induction k using Nat.strongRecOn with
 | _ k ih=>
   intro ρ hP;rcases hs k ρ hP with ⟨h1,h2⟩ | ⟨h1,h2⟩
   . exact ⟨1,_,by unfold wh;rw [h1],h2⟩
   . rcases h2 with ⟨ρ2,k2,e,l,p⟩ | ⟨d,e,r⟩
     . obtain ⟨n,r,e2,hr⟩:=ih k2 l ρ2 p;refine ⟨n+1,r,?_,hr⟩;unfold wh;rw [h1];dsimp only;rw [e];exact e2
     . refine ⟨1,.ret d,?_,r⟩;unfold wh;rw [h1];dsimp only;rw [e]
theorem jdc {c:ef->Option Bool} {B:FS} {ρ:ef} (P:Nat->ef->Prop) (R:Res->Prop) {k:Nat} (h0:P k ρ)
 (hs:∀(k:Nat) ρ,P k ρ->(c ρ=some false/\R (.next ρ))\/‹"aW"›):∃r,Qy c B ρ=r/\R r:=by
 obtain ⟨n,r,e,hr⟩:=jsa P R hs k ρ h0;exact ⟨r,jeI e,hr⟩
theorem jhF {C:Res->Prop} {fi:ef->Option (List D)} {m:D->ef->Option ef} {B F':FS} {ρ:ef} (g:Nat->D) (n:Nat) (P:Nat->ef->Prop) (R:D->Prop) (hi:fi ρ=some ((List.range n).map g)) (h0:P 0 ρ)
 (hs:∀(j:Nat) ρ,j<n->P j ρ->∃ρ1,m (g j) ρ=some ρ1/\((∃ρ2,B ρ1=.next ρ2/\P (j+1) ρ2)\/∃d,B ρ1=.ret d/\R d)) (k1:∀ρ',P n ρ'->C (F' ρ')) (k2:∀d,R d->C (.ret d)):C (jA (zQ fi m B) F' ρ):=by
 rcases jln g n P R hi h0 hs with ⟨ρ',e,h⟩ | ⟨d,e,h⟩
 . exact jJ ρ' e (k1 ρ' h)
 . exact jgc e (k2 d h)
theorem jd8 {C:Res->Prop} {fi:ef->Option (List D)} {m:D->ef->Option ef} {B F':FS} {ρ:ef} (g:Nat->D) (n:Nat) (P:Nat->ef->Prop) (hi:fi ρ=some ((List.range n).map g)) (h0:P 0 ρ)
 (hs:∀(j:Nat) ρ,j<n->P j ρ->∃ρ1 ρ2,m (g j) ρ=some ρ1/\B ρ1=.next ρ2/\P (j+1) ρ2) (k:∀ρ',P n ρ'->C (F' ρ')):C (jA (zQ fi m B) F' ρ):=
 let ⟨ρ',e,h⟩:=jmE g n P hi h0 hs;jJ ρ' e (k ρ' h)
theorem ji4 {C:Res->Prop} {c:ef->Option Bool} {B F':FS} {ρ:ef} (P:Nat->ef->Prop) (N:ef->Prop) {k:Nat} (h0:P k ρ)
 (hs:∀(k:Nat) ρ,P k ρ->(c ρ=some false/\N ρ)\/(c ρ=some true/\∃ρ2 k2,B ρ=.next ρ2/\k2<k/\P k2 ρ2)) (kf:∀ρ',N ρ'->C (F' ρ')):C (jA (Qy c B) F' ρ):=by
 obtain ⟨r,e,hr⟩:=jdc (c:=c) (B:=B) P (fun r=>∃ρ',r=.next ρ'/\N ρ') h0 fun k ρ hP=>by
  rcases hs k ρ hP with ⟨a,b⟩ | ⟨a,ρ2,k2,h1,h2,h3⟩
  . exact .inl ⟨a,ρ,rfl,b⟩
  . exact .inr ⟨a,.inl ⟨ρ2,k2,h1,h2,h3⟩⟩
 obtain ⟨ρ',e',hN⟩:=hr;subst e';exact jJ ρ' e (kf ρ' hN)
theorem jlb {B:FS} {ρ:ef} {k:Nat} {P:Nat->ef->Prop} (h:∀C:Res->Prop,(∀ρ2 k2,k2<k->P k2 ρ2->C (.next ρ2))->C (B ρ)):∃ρ2 k2,B ρ=.next ρ2/\k2<k/\P k2 ρ2:=h (fun r=>∃ρ2 k2,r=.next ρ2/\k2<k/\P k2 ρ2) fun ρ2 k2 hk hP=>⟨ρ2,k2,rfl,hk,hP⟩
section
variable {ρ:ef}
end
def Mv (tm tw:List (List Int)) (off on i:Nat):Prop:=0<jY tw i off/\jY tw i on<jY tm i on
theorem jis {n m:Nat} {tm tw:List (List Int)} (hr:Shape n m tm) (hp:Shape n m tw) {off on:Nat} (ho:off<m) (hn:on<m) :
 ∃d,((d=.non/\∀i,i<n->¬Mv tm tw off on i)\/∃i:Nat,i<n/\d=.int i/\Mv tm tw off on i)/\Zp [.lst (tm.map jh),.lst (tw.map jh),.int off,.int on]=some d:=by
 unfold Zp;refine Qm (ρ:=[.sh ‹"h"›,.sh ‹"o"›,.sh (.int off),.sh (.int on),.un,.un]) _ rfl rfl fun C fin=>?_;unfold jfm;refine jhF (fun j:Nat=>.tup [.int (j:Int),jh (tw.getD j [])]) n
  (fun j ρ=>(∃x y,ρ=[.sh ‹"h"›,.sh ‹"o"›,.sh (.int off),.sh (.int on),x,y])/\∀i,i<j->¬Mv tm tw off on i)
  (fun d=>∃i:Nat,i<n/\d=.int i/\Mv tm tw off on i) ?_ ⟨⟨_,_,rfl⟩,fun i hi=>absurd hi (by omega)⟩ ?_ ?_ ?_
 . show some (jaH (tw.map jh))=_;rw [jbo jh [],hp.1]
 . rintro j ρ hj ⟨⟨x,y,rfl⟩,hP⟩;refine ⟨[.sh ‹"h"›,.sh ‹"o"›,.sh (.int off),.sh (.int on),.sh (.int j),.sh (jh (tw.getD j []))],rfl,?_⟩;rw [joK (jg4 (jZ (jy (jy rfl rfl (Zi hp hj ho)) rfl jd1)) (jZ (jy (jy rfl rfl (Zi hp hj hn)) (jy (jy rfl rfl (Zg hr hj)) rfl (Zi hr hj hn)) QC)))];by_cases c:0<jY tw j off/\jY tw j on<jY tm j on
   . rw [if_pos (by simp [c.1,c.2])];exact .inr ⟨_,rfl,j,hj,rfl,c⟩
   . rw [if_neg (by simpa using c)];refine .inl ⟨_,rfl,⟨_,_,rfl⟩,fun i hi=>?_⟩;by_cases z:i=j
     . subst z;exact c
     . exact hP i (by omega)
 . rintro ρ' ⟨⟨x,y,rfl⟩,hP⟩;exact fin _ (.inl ⟨rfl,hP⟩)
 . exact fun d h=>fin _ (.inr h)
def kI (ks:List Nat):List Int:=ks.map fun k:Nat=>(k:Int)
theorem jiu (ks:List Nat):(kI ks).length=ks.length:=Yd _
theorem jfu:∀{ks:List Nat} {ds:List D} {j s:Nat} {d:D},ks.Nodup->ks[j]?=some s->ds[j]?=some d->zH (kI ks) ds (s:Int)=some d
 | [],_,_,_,_,_,h,_=>by simp at h
 | _::_,[],_,_,_,_,_,h=>by simp at h
 | k::ks,e::ds,0,s,d,_,h1,h2=>by simp at h1 h2;subst h1 h2;show (if (k:Int)=(k:Int) then some e else _)=_;rw [if_pos rfl]
 | k::ks,e::ds,j+1,s,d,nd,h1,h2=>by
   simp at h1 h2;have hn:¬(k:Int)=(s:Int):=fun z=>(yu.mp nd).1 (by
     have:k=s:=by omega
     rw [this];exact YF h1)
   show (if (k:Int)=(s:Int) then some e else zH (kI ks) ds (s:Int))=_;rw [if_neg hn];exact jfu (yu.mp nd).2 h1 h2
theorem jjd:∀{ks:List Nat} {ds:List D} {s:Nat},s∉ks->zH (kI ks) ds (s:Int)=none
 | [],_,_,_=>rfl
 | _::_,[],_,_=>rfl
 | k::ks,e::ds,s,h=>by
   have hn:¬(k:Int)=(s:Int):=fun z=>h (by
     have:k=s:=by omega
     rw [this];exact Yf)
   show (if (k:Int)=(s:Int) then some e else zH (kI ks) ds (s:Int))=_;rw [if_neg hn];exact jjd fun z=>h (Ym _ z)
theorem jh2 {ks:List Nat} {ds:List D} (nd:ks.Nodup) (hl:ks.length=ds.length) (s:Nat) (neg:Bool):jbc neg (.int s) ‹"K"›=some (.bl (neg != decide (s∈ks))):=by
 show some (D.bl (neg != (zH (kI ks) ds (s:Int)).isSome))=_;by_cases h:s∈ks
 . obtain ⟨j,hj,e⟩:=Y9 h;rw [jfu nd (j:=j) (by rw [Ya hj,e]) (Ya (by omega))];simp [h]
 . rw [jjd h];simp [h]
theorem mem_kI {ks:List Nat} {s:Nat}:(s:Int)∈kI ks ↔ s∈ks:=by unfold kI;rw [Y6];exact ⟨fun ⟨k,hk,e⟩=>(show k=s by omega) ▸ hk,fun h=>⟨s,h,rfl⟩⟩
theorem ji7 {ks:List Nat} {s:Nat} (h:s∉ks):jeS (kI ks) (s:Int)=kI (ks++[s]):=by unfold jeS;rw [if_neg fun z=>h (mem_kI.mp z)];unfold kI;rw [YW];rfl
theorem jhf {ks:List Nat} {ds:List D} {s:Nat} {d:D} (h:s∉ks):jiI (kI ks) ds (s:Int) d=ds++[d]:=by unfold jiI;rw [if_neg fun z=>h (mem_kI.mp z)]
theorem Jd:∀(m:Nat) (ks:List Nat),ks.Nodup->(∀s∈ks,s<m)->ks.length<=m
 | 0,ks,_,h=>by
   cases ks with
   | nil=>exact Ys _
   | cons k ks=>exact absurd (h k Yf) (by omega)
 | m+1,ks,nd,h=>by
   by_cases hm:m∈ks
   . have h1:=Jd m (ks.erase m) (nd.erase m) fun s hs=>by have h2:=(List.Nodup.mem_erase_iff nd).mp hs;have h3:=h s h2.2;have:=h2.1;omega
     rw [List.length_erase_of_mem hm] at h1;omega
   . have:=Jd m ks nd fun s hs=>by have h3:=h s hs;have:s≠m:=fun z=>hm (z ▸ hs);omega
     omega
structure Rch (tm tw:List (List Int)) (n m:Nat) (B:Nat->D->Prop) (ks:List Nat) (ds:List D):Prop where
 len:ks.length=ds.length
 nd:ks.Nodup
 lt:∀s∈ks,s<m
 val:∀(j s:Nat) (d:D),ks[j]?=some s->ds[j]?=some d->B s d\/∃i o j':Nat,j'<j/\ks[j']?=some o/\i<n/\d=.tup [.int i,.int o,.int s]/\Mv tm tw o s i
theorem Rch.snoc {tm tw:List (List Int)} {n m:Nat} {B:Nat->D->Prop} {ks:List Nat} {ds:List D} (h:Rch tm tw n m B ks ds) {s:Nat} {d:D} (hs:s∉ks) (hm:s<m) (hd:B s d\/∃i o:Nat,o∈ks/\i<n/\d=.tup [.int i,.int o,.int s]/\Mv tm tw o s i) :
 Rch tm tw n m B (ks++[s]) (ds++[d]):=by
 refine ⟨by simp [h.len],?_,fun t ht=>?_,fun j t e h1 h2=>?_⟩
 . rw [List.nodup_append];refine ⟨h.nd,by simp,fun a ha b hb z=>?_⟩;rw [Yu.mp hb] at z;exact hs (z ▸ ha)
 . rcases YV.mp ht with q | q
   . exact h.lt t q
   . rw [Yu.mp q];exact hm
 . rcases Nat.lt_trichotomy j ks.length with q | q | q
   . rw [YC q] at h1;rw [YC (by rw [<-h.len];exact q)] at h2;rcases h.val j t e h1 h2 with r | ⟨i,o,j',r1,r2,r3⟩
     . exact .inl r
     . exact .inr ⟨i,o,j',r1,by rw [YC (by omega)];exact r2,r3⟩
   . subst q;rw [Yz (Ys _)] at h1;rw [Yz (by rw [h.len];exact Ys _)] at h2;simp at h1;simp [h.len] at h2;subst h1 h2;rcases hd with r | ⟨i,o,r1,r2⟩
     . exact .inl r
     . obtain ⟨j',hj',ej⟩:=Y9 r1;exact .inr ⟨i,o,j',hj',by rw [YC hj',Ya hj',ej],r2⟩
   . rw [YE (by simp;omega)] at h1;cases h1
def Clo (tm tw:List (List Int)) (n m:Nat) (ks:List Nat) (o:Nat):Prop:=∀on,on<m->on∈ks\/∀i,i<n->¬Mv tm tw o on i
def nI (ks:List Nat):List D:=ks.map fun k:Nat=>D.int (k:Int)
theorem jpm (ks:List Nat):(kI ks).map D.int=nI ks:=by unfold kI nI;rw [YJ];rfl
theorem jrH {ks:List Nat} {j s:Nat} (h:ks[j]?=some s):jO (.lst (nI ks)) (.int j)=some (.int s):=by refine jb5 (by omega) ?_;rw [Yq];unfold nI;rw [List.getElem?_map,h];rfl
theorem jhI {n m:Nat} {tm tw:List (List Int)} (hr:Shape n m tm) (hp:Shape n m tw) {B:Nat->D->Prop} {ks:List Nat} {ds:List D} (R:Rch tm tw n m B ks ds) (hm:m<1000) {off on:Nat} (ho:off∈ks) (hn:on<m) (a:Slot) (t:Slot) (x8:Slot) :
 ∃ρ2,(jA (jG 8 (eIf (qQ ‹"aT"›) (eC .non) ‹"Z"›))
   (Qh (qQ (jaF (ja 8)))
   (jA (jcu 3 (jm 7) (ZJ (jb (jm 8) (jb (jm 6) (jb (jm 7) jk)))))
   (JK 4 (jm 7))) qi)) [.sh (.lst (tm.map jh)),.sh (.lst (tw.map jh)),a,.od (kI ks) ds,.ow (nI ks),t,.sh (.int off),.sh (.int on),x8]=.next ρ2 /\
   ∃ks' ds' y,ρ2=[.sh ‹"h"›,.sh ‹"o"›,a,.od (kI ks') ds',.ow (nI ks'),t,.sh (.int off),.sh (.int on),y]/\Rch tm tw n m B ks' ds'/\(∃e,ks'=ks++e)/\(on∈ks'\/∀i,i<n->¬Mv tm tw off on i):=by
 have tL:ks.length<1000:=yz (Jd m ks R.nd R.lt) hm;have hc:qQ ‹"aT"› ‹"a3"›=some (false != decide (on∈ks)):=jZ (jy rfl rfl (jh2 R.nd R.len on false));by_cases hin:on∈ks
 . have e1:eIf (qQ ‹"aT"›) (eC .non) ‹"Z"› ‹"a3"›=some .non:=by unfold eIf;rw [hc];simp [hin,eC]
   refine ⟨_,(qD (j8 e1)).trans (zA (jZ rfl)),ks,ds,_,rfl,R,⟨[],by simp⟩,.inl hin⟩
 . obtain ⟨d,hd,ed⟩:=jis hr hp (R.lt off ho) hn;have e1:eIf (qQ ‹"aT"›) (eC .non) ‹"Z"› ‹"a3"›=some d:=by unfold eIf;rw [hc];simp only [hin,Kn];exact ju rfl ed
   rcases hd with ⟨rfl,hno⟩ | ⟨i,hi,rfl,hmv⟩
   . exact ⟨_,(qD (j8 e1)).trans (zA (jZ rfl)),ks,ds,_,rfl,R,⟨[],by simp⟩,.inr hno⟩
   . refine ⟨_,(qD (j8 e1)).trans ((Z6 (jZ rfl)).trans ((qD (ρ':=[.sh ‹"h"›,.sh ‹"o"›,a,.od (kI (ks++[on])) (ds++[.tup [.int i,.int off,.int on]]),.ow (nI ks),t,.sh (.int off),.sh (.int on),.sh (.int i)]) ?_).trans ?_)),
       ks++[on],ds++[.tup [.int i,.int off,.int on]],.sh (.int i),rfl,R.snoc hin hn (.inr ⟨i,off,ho,hi,rfl,hmv⟩),⟨[on],rfl⟩,.inl (by simp)⟩
     . show (if Jm (kI ks).length=true then Res.next _ else Res.fail)=_;rw [if_pos (j6 (by rw [jiu];omega)),ji7 hin,jhf hin];rfl
     . show (if Jm (nI ks).length=true then Res.next _ else Res.fail)=_;rw [if_pos (j6 (by unfold nI;rw [Yd];omega))];have:nI ks++[D.int (on:Int)]=nI (ks++[on]):=by unfold nI;rw [YW];rfl
       rw [this];rfl
theorem jea {n m:Nat} {tm tw:List (List Int)} (hr:Shape n m tm) (hp:Shape n m tw) (hm:m<1000) {B:Nat->D->Prop} {ks0:List Nat} {ds0:List D} (R0:Rch tm tw n m B ks0 ds0) (hn:ks0≠[]->0<n) :
 ∃d,(∃ks ds,d=.dic (kI ks) ds/\Rch tm tw n m B ks ds/\(∃e,ks=ks0++e)/\∀o∈ks,Clo tm tw n m ks o)/\jav [.lst (tm.map jh),.lst (tw.map jh),.dic (kI ks0) ds0]=some d:=by
 have hl0:ks0.length<1000:=yz (Jd m ks0 R0.nd R0.lt) hm;unfold jav;refine Qm (ρ:=[.sh ‹"h"›,.sh ‹"o"›,.sh ‹"aH"›,.un,.un,.un,.un,.un,.un]) _ rfl rfl fun C fin=>?_;unfold jfp;refine jJ [.sh ‹"h"›,.sh ‹"o"›,.sh ‹"aH"›,.od (kI ks0) ds0,.un,.un,.un,.un,.un] rfl ?_;refine jJ [.sh ‹"h"›,.sh ‹"o"›,.sh ‹"aH"›,.od (kI ks0) ds0,.ow (nI ks0),.un,.un,.un,.un] ?_ ?_
 . have e:jg jdQ (jb (ja 2) jk) [.sh ‹"h"›,.sh ‹"o"›,.sh ‹"aH"›,.od (kI ks0) ds0,.un,.un,.un,.un,.un]=some (nI ks0):=ju rfl (by show (if Jm (kI ks0).length=true then some ((kI ks0).map D.int) else none)=_;rw [if_pos (j6 (by rw [jiu];omega)),jpm])
   unfold Jx;rw [e];rfl
 refine jJ [.sh ‹"h"›,.sh ‹"o"›,.sh ‹"aH"›,.od (kI ks0) ds0,.ow (nI ks0),.sh (.int ((0:Nat):Int)),.un,.un,.un] rfl ?_;refine ji4 (fun k ρ=>∃(ks:List Nat) (ds:List D) (t:Nat) (x6 x7 x8:Slot),ρ=‹"bs"›/\k=m-t/\t<=ks.length/\Rch tm tw n m B ks ds/\(∃e,ks=ks0++e)/\(ks≠[]->0<n) /\
  ∀(j o:Nat),j<t->ks[j]?=some o->Clo tm tw n m ks o) (fun ρ=>∃(ks:List Nat) (ds:List D) (x4 x5 x6 x7 x8:Slot),ρ=[.sh (.lst (tm.map jh)),.sh (.lst (tw.map jh)),.sh (.dic (kI ks0) ds0),.od (kI ks) ds,x4,x5,x6,x7,x8]/\Rch tm tw n m B ks ds/\(∃e,ks=ks0++e)/\∀o∈ks,Clo tm tw n m ks o)
  (k:=m) ⟨ks0,ds0,0,_,_,_,rfl,rfl,yE _,R0,⟨[],by simp⟩,hn,fun j o h=>absurd h (by omega)⟩ ?_ ?_
 . rintro k ρ ⟨ks,ds,t,x6,x7,x8,rfl,rfl,ht,R,⟨e,he⟩,hn',hcl⟩;have tL:ks.length<=m:=Jd m ks R.nd R.lt;have hc:qQ (jq dLt (ja 5) (jg qG (jb (ja 4) jk))) ‹"bs"›=some (decide ((t:Int)<((nI ks).length:Int))):=jZ (jy rfl (ju rfl rfl) QC);have hnl:(nI ks).length=ks.length:=Yd _;by_cases htl:t<ks.length
   . refine .inr ⟨by rw [hc,hnl];simp [htl],?_⟩;have n0:0<n:=hn' fun z=>by subst z;simp at htl
     have hoff:ks[t]?=some ks[t]:=Ya htl;have hmem:ks[t]∈ks:=KH htl;refine jlb fun C2 fin2=>?_;refine jJ [.sh ‹"h"›,.sh ‹"o"›,.sh ‹"aH"›,.od (kI ks) ds,.ow (nI ks),.sh (.int (t:Int)),.sh (.int (ks[t]:Nat)),x7,x8] (j8 (jy rfl rfl (jrH hoff))) ?_;refine jd8 (fun j:Nat=>D.int (j:Int)) m (fun j ρ=>∃(ks2:List Nat) (ds2:List D) (y7 y8:Slot),ρ=[.sh ‹"h"›,.sh ‹"o"›,.sh ‹"aH"›,.od (kI ks2) ds2,.ow (nI ks2),.sh (.int (t:Int)),.sh (.int (ks[t]:Nat)),y7,y8]/\Rch tm tw n m B ks2 ds2/\(∃e,ks2=ks++e) /\
       ∀on,on<j->on∈ks2\/∀i,i<n->¬Mv tm tw ks[t] on i) ?_ ⟨ks,ds,_,_,rfl,R,⟨[],by simp⟩,fun on h=>absurd h (by omega)⟩ ?_ ?_
     . rw [JH (j:=(m:Int)) (js (ju (js (jy rfl rfl (Zg hr n0)) rfl) ?_) rfl) (by omega) (by omega),Yq,jaY];show some (D.int ((List.map D.int (tm.getD 0 [])).length:Int))=_;rw [Yd,(hr.row n0).2]
     . rintro j ρ hj ⟨ks2,ds2,y7,y8,rfl,R2,⟨e2,he2⟩,hon⟩;obtain ⟨ρ2,h1,ks3,ds3,y,rfl,R3,⟨e3,he3⟩,h4⟩:=jhI hr hp R2 hm (off:=ks[t]) (on:=j) (by rw [he2];exact Yx _ hmem) hj (.sh ‹"aH"›) (.sh (.int (t:Int))) y8;refine ⟨_,_,rfl,h1,ks3,ds3,_,_,rfl,R3,⟨e2++e3,by rw [he3,he2,Ke]⟩,fun on h=>?_⟩;by_cases z:on=j
       . subst z;exact h4
       . rcases hon on (by omega) with q | q
         . exact .inl (by rw [he3];exact Yx _ q)
         . exact .inr q
     . rintro ρ ⟨ks2,ds2,y7,y8,rfl,R2,⟨e2,he2⟩,hon⟩;refine fin2 _ (m-(t+1)) (by omega) ⟨ks2,ds2,t+1,_,_,_,rfl,rfl,by rw [he2,YQ];omega,R2,⟨e++e2,by rw [he2,he,Ke]⟩,fun _=>n0,fun j o hj ho=>?_⟩;have up:∀x,x∈ks->x∈ks2:=fun x hx=>by rw [he2];exact Yx _ hx
       have ho':ks[j]?=some o:=by rw [he2,YC (by omega)] at ho;exact ho
       by_cases z:j=t
       . subst z;rw [hoff] at ho';cases ho';exact hon
       . intro on h;rcases hcl j o (by omega) ho' on h with q | q
         . exact .inl (up _ q)
         . exact .inr q
   . refine .inl ⟨by rw [hc,hnl];simp [htl],ks,ds,_,_,_,_,_,rfl,R,⟨e,he⟩,fun o ho=>?_⟩;obtain ⟨j,hj,ej⟩:=Y9 ho;exact hcl j o (by omega) (by rw [Ya hj,ej])
 . rintro ρ ⟨ks,ds,x4,x5,x6,x7,x8,rfl,R,he,hcl⟩;exact fin _ ⟨ks,ds,rfl,R,he,hcl⟩
def zW (P:List (List Int)) (i:Nat):Int:=(P.getD i []).sum
theorem Jy {n m:Nat} {P:List (List Int)} (h:Shape n m P) {i:Nat} (hi:i<n):zW P i=jw (fun s=>jY P i s) m:=by unfold zW;rw [jbO,(h.row hi).2];rfl
theorem Jp {n m:Nat} {P:List (List Int)} (h:Shape n m P) (s:Nat):jL P s=jw (fun i=>jY P i s) n:=by unfold jL;rw [jfZ (fun r:List Int=>r.getD s 0) [],h.1];rfl
def zD (P:List (List Int)) (n:Nat):Int:=jw (zW P) n
theorem JS {f:Nat->Nat->Int} {m:Nat}:∀n,jw (fun i=>jw (fun s=>f i s) m) n=jw (fun s=>jw (fun i=>f i s) n) m
 | 0=>by show (0:Int)=_;rw [jS];intro j _;rfl
 | n+1=>by show jw _ n+jw (fun s=>f n s) m=_;rw [JS n,<- qt];rfl
def Bp (tu:List Int) (tm tw:List (List Int)) (n:Nat) (s:Nat) (d:D):Prop:=∃i:Nat,i<n/\d=.tup [.int i,.non,.int s]/\zW tw i<tu.getD i 0/\jY tw i s<jY tm i s
theorem jl1 {n m:Nat} {tu:List Int} {tm tw:List (List Int)} (hr:Shape n m tm) {ks:List Nat} {ds:List D} (R:Rch tm tw n m (Bp tu tm tw n) ks ds) (hm:m<1000) {i s:Nat} (hi:i<n) (hs:s<m) {b:Bool} (hb:b=decide (zW tw i<tu.getD i 0)) (a c x5:Slot) :
 ∃ρ2,(Qh ‹"E"›
   (jcu 3 (jm 7) (ZJ (jb (jm 4) (jb (eC .non) (jb (jm 7) jk))))) qi) [a,.sh (.lst (tm.map jh)),c,.od (kI ks) ds,.sh (.int i),x5,.sh (.bl b),.sh (.int s),.sh (.int (jY tw i s))]=.next ρ2 /\
   ∃ks' ds',ρ2=[a,.sh ‹"h"›,c,.od (kI ks') ds',.sh (.int i),x5,.sh (.bl b),.sh (.int s),.sh (.int (jY tw i s))]/\Rch tm tw n m (Bp tu tm tw n) ks' ds'/\(∃e,ks'=ks++e)/\(zW tw i<tu.getD i 0->jY tw i s<jY tm i s->s∈ks'):=by
 have tL:ks.length<1000:=yz (Jd m ks R.nd R.lt) hm;rw [joK (jg4 (b:=b) (jZ rfl) (jg4 (jZ (jy rfl (jy (jy rfl rfl (Zg hr hi)) rfl (Zi hr hi hs)) QC)) (jZ (jy rfl rfl (jh2 R.nd R.len s true)))))];by_cases cc:zW tw i<tu.getD i 0/\jY tw i s<jY tm i s/\s∉ks
 . rw [if_pos (by rw [hb,YU cc.1,YU cc.2.1,Y1 cc.2.2];rfl)];refine ⟨_,?_,ks++[s],ds++[.tup [.int i,.non,.int s]],rfl,R.snoc cc.2.2 hs (.inl ⟨i,hi,rfl,cc.1,cc.2.1⟩),⟨[s],rfl⟩,fun _ _=>by simp⟩;show (if Jm (kI ks).length=true then Res.next _ else Res.fail)=_;rw [if_pos (j6 (by rw [jiu];omega)),ji7 cc.2.2,jhf cc.2.2];rfl
 . rw [if_neg (by rw [hb];simpa using cc)];refine ⟨_,rfl,ks,ds,rfl,R,⟨[],by simp⟩,fun h1 h2=>?_⟩;by_cases z:s∈ks
   . exact z
   . exact absurd ⟨h1,h2,z⟩ cc
theorem jgK {n m:Nat} {tu:List Int} {tm tw:List (List Int)} (hd:tu.length=n) (hr:Shape n m tm) (hp:Shape n m tw) (hm:m<1000) :
 ∃d,(∃ks ds,d=.dic (kI ks) ds/\Rch tm tw n m (Bp tu tm tw n) ks ds/\∀i s,i<n->s<m->zW tw i<tu.getD i 0->jY tw i s<jY tm i s->s∈ks)/\jbS [.lst (tu.map D.int),.lst (tm.map jh),.lst (tw.map jh)]=some d:=by
 unfold jbS;refine Qm (ρ:=[.sh ‹"k"›,.sh ‹"h"›,.sh ‹"o"›,.un,.un,.un,.un,.un,.un]) _ rfl rfl fun C fin=>?_;unfold jdq;refine jJ [.sh ‹"k"›,.sh ‹"h"›,.sh ‹"o"›,.od (kI []) [],.un,.un,.un,.un,.un] rfl ?_;refine jd8 (fun j:Nat=>.tup [.int (j:Int),jh (tw.getD j [])]) n (fun j ρ=>∃(ks:List Nat) (ds:List D) (x4 x5 x6 x7 x8:Slot),ρ=[.sh ‹"k"›,.sh ‹"h"›,.sh ‹"o"›,.od (kI ks) ds,x4,x5,x6,x7,x8]/\Rch tm tw n m (Bp tu tm tw n) ks ds /\
  ∀i s,i<j->s<m->zW tw i<tu.getD i 0->jY tw i s<jY tm i s->s∈ks) ?_ ⟨[],[],_,_,_,_,_,rfl,⟨rfl,List.nodup_nil,fun s hs=>absurd hs YG,fun j s d h=>by simp at h⟩,fun i s h=>absurd h (by omega)⟩ ?_ ?_
 . show some (jaH (tw.map jh))=_;rw [jbo jh [],hp.1]
 . rintro j ρ hj ⟨ks,ds,x4,x5,x6,x7,x8,rfl,R,hall⟩;have e6:jq dLt (jg Qb (jb (ja 5) jk)) ‹"ad"› [.sh ‹"k"›,.sh ‹"h"›,.sh ‹"o"›,.od (kI ks) ds,.sh (.int j),.sh (jh (tw.getD j [])),x6,x7,x8]=some (.bl (decide (zW tw j<tu.getD j 0))):=jy (ju rfl sum_ints) (jy rfl rfl (JB (by omega))) QC
   obtain ⟨ρ2,h1,ks2,ds2,y7,y8,rfl,R2,⟨e2,he2⟩,hon⟩:=jmE (fi:=ZZ (jb (jm 5) jk)) (m:=Jz 2 (jR (jz 7) (jR (jz 8) JJ))) (B:=Qh ‹"E"›
    (jcu 3 (jm 7) (ZJ (jb (jm 4) (jb (eC .non) (jb (jm 7) jk))))) qi) (ρ:=[.sh (.lst (tu.map D.int)),.sh (.lst (tm.map jh)),.sh (.lst (tw.map jh)),.od (kI ks) ds,.sh (.int j),.sh (jh (tw.getD j [])),.sh (.bl (decide (zW tw j<tu.getD j 0))),x7,x8])
    (fun s:Nat=>.tup [.int (s:Int),.int (jY tw j s)]) m (fun s ρ=>∃(ks2:List Nat) (ds2:List D) (y7 y8:Slot),ρ=[.sh ‹"k"›,.sh ‹"h"›,.sh ‹"o"›,.od (kI ks2) ds2,.sh (.int j),.sh (jh (tw.getD j [])),.sh (.bl (decide (zW tw j<tu.getD j 0))),y7,y8]/\Rch tm tw n m (Bp tu tm tw n) ks2 ds2/\(∃e,ks2=ks++e) /\
      ∀s',s'<s->zW tw j<tu.getD j 0->jY tw j s'<jY tm j s'->s'∈ks2)
    (by show some (jaH ((tw.getD j []).map D.int))=_;rw [jbo D.int 0,(hp.row hj).2];rfl) ⟨ks,ds,_,_,rfl,R,⟨[],by simp⟩,fun s' h=>absurd h (by omega)⟩ (by
      rintro s ρ hs ⟨ks2,ds2,y7,y8,rfl,R2,⟨e2,he2⟩,hon⟩;obtain ⟨ρ2,h1,ks3,ds3,rfl,R3,⟨e3,he3⟩,h4⟩:=jl1 hr R2 hm hj hs rfl (.sh ‹"k"›) (.sh ‹"o"›) (.sh (jh (tw.getD j [])));refine ⟨_,_,rfl,h1,ks3,ds3,_,_,rfl,R3,⟨e2++e3,by rw [he3,he2,Ke]⟩,fun s' h a b=>?_⟩;by_cases z:s'=s
      . subst z;exact h4 a b
      . rw [he3];exact Yx _ (hon s' (by omega) a b))
   refine ⟨_,_,rfl,(qD (j8 e6)).trans h1,ks2,ds2,_,_,_,_,_,rfl,R2,fun i s h1 h2 h3 h4=>?_⟩;by_cases z:i=j
   . subst z;exact hon s h2 h3 h4
   . rw [he2];exact Yx _ (hall i s (by omega) h2 h3 h4)
 . rintro ρ ⟨ks,ds,x4,x5,x6,x7,x8,rfl,R,hall⟩;exact fin _ ⟨ks,ds,rfl,R,hall⟩
def js9:Option Nat->D
 | some o=>.int (o:Int)
 | none=>.non
def qm (q:Nat×Option Nat×Nat):D:=.tup [.int q.1,js9 q.2.1,.int q.2.2]
inductive Path (ks:List Nat) (ds:List D):Nat->List (Nat×Option Nat×Nat)->Prop
 | p {j s i:Nat}:ks[j]?=some s->ds[j]?=some (.tup [.int i,.non,.int s])->Path ks ds j [(i,none,s)]
 | c {j:Nat}:ds[j]?=some .non->Path ks ds j []
 | s {j j' s i o:Nat} {p:List (Nat×Option Nat×Nat)}:Path ks ds j' p->j'<j->ks[j']?=some o->ks[j]?=some s->ds[j]?=some (.tup [.int i,.int o,.int s])->Path ks ds j (p++[(i,some o,s)])
theorem jjt {a n:Nat} {m:FS} {ds:List D} {ρ:ef} (Pr:List D->Prop) (h1:ds.length=a) (h2:qF n ds=ρ) (h:∀C:Res->Prop,(∀d,Pr d->C (.retO d))->C (m ρ)):∃d,Pr d/\Jq a n m ds=some d:=by unfold Jq;rw [if_pos h1,h2];exact h (fun r=>∃d,Pr d/\jb6 r=some d) fun d hd=>⟨d,hd,rfl⟩
theorem jcn {n m:Nat} {tm tw:List (List Int)} {B:Nat->D->Prop} {ks:List Nat} {ds:List D} (R:Rch tm tw n m B ks ds) (hm:m<1000) (hB:∀s d,B s d->d=.non\/∃i:Nat,d=.tup [.int i,.non,.int s]) {j0 s0:Nat} (h0:ks[j0]?=some s0) :
 ∃l,(∃p,Path ks ds j0 p/\l=p.map qm)/\Q6 [.dic (kI ks) ds,.int s0]=some l:=by
 have tL:ks.length<1000:=yz (Jd m ks R.nd R.lt) hm;have at_:∀{j s:Nat},ks[j]?=some s->∃d,ds[j]?=some d/\zH (kI ks) ds (s:Int)=some d:=fun {j s} h=>by
  have hj:j<ds.length:=by rw [<-R.len];exact (Yo.mp h).1
  exact ⟨_,Ya hj,jfu R.nd h (Ya hj)⟩
 obtain ⟨d0,hd0,hl0⟩:=at_ h0;unfold Q6;refine jjt (ρ:=[.sh ‹"K"›,.sh (.int s0),.un,.un]) _ rfl rfl fun C fin=>?_;unfold jdv;refine jJ [.sh ‹"K"›,.sh (.int s0),.ow [],.un] rfl ?_;refine jJ [.sh ‹"K"›,.sh (.int s0),.ow [],.sh d0] (j8 (jy rfl rfl hl0)) ?_;refine ji4 (fun k ρ=>∃(suf:List ‹"y"›) (d:D),ρ=‹"bn"› /\
  ((∃j s,k=j+1/\ks[j]?=some s/\ds[j]?=some d/\suf.length+j<1000/\∀p,Path ks ds j p->Path ks ds j0 (p++suf))\/(k=0/\d=.non/\Path ks ds j0 suf)))
  (fun ρ=>∃(suf:List ‹"y"›) (d:D),ρ=‹"bn"›/\Path ks ds j0 suf) (k:=j0+1)
  ⟨[],d0,rfl,.inl ⟨j0,s0,rfl,h0,hd0,by simp;have:=(Yo.mp h0).1;omega,fun p hp=>by simpa using hp⟩⟩ ?_ ?_
 . rintro k ρ ⟨suf,d,rfl,h⟩;have app:∀(q:Nat×Option Nat×Nat) (x:D),suf.length<1000->∀y,jq jb4 (ja 0) (jq jO (ja 3) (eC (.int 1))) [.sh ‹"K"›,.sh (.int s0),.ow ((q::suf).reverse.map qm),.sh (qm q)]=some y->
       jA (JK 2 (jm 3)) (jG 3 (jq jb4 (ja 0) (jq jO (ja 3) (eC (.int 1))))) [.sh ‹"K"›,.sh (.int s0),.ow (suf.reverse.map qm),.sh (qm q)]=.next [.sh ‹"K"›,.sh (.int s0),.ow ((q::suf).reverse.map qm),.sh y]:=fun q x hl y hy=>by
    refine (qD (ρ':=[.sh ‹"K"›,.sh (.int s0),.ow ((q::suf).reverse.map qm),.sh (qm q)]) ?_).trans (j8 hy);show (if Jm (suf.reverse.map qm).length=true then Res.next _ else Res.fail)=_;rw [if_pos (j6 (by simp;omega)),List.reverse_cons,YW];rfl
   rcases h with ⟨j,s,rfl,hj,hd,hl,hp⟩ | ⟨rfl,rfl,hp⟩
   . have hcases:d=.non\/(∃i:Nat,d=.tup [.int i,.non,.int s])\/∃i o j':Nat,j'<j/\ks[j']?=some o/\d=.tup [.int i,.int o,.int s]:=by
       rcases R.val j s d hj hd with b | ⟨i,o,j',r1,r2,_,r3,_⟩
       . rcases hB s d b with z | z
         . exact .inl z
         . exact .inr (.inl z)
       . exact .inr (.inr ⟨i,o,j',r1,r2,r3⟩)
     rcases hcases with rfl | ⟨i,rfl⟩ | ⟨i,o,j',r1,r2,rfl⟩
     . exact .inl ⟨jZ rfl,suf,_,rfl,by simpa using hp [] (.c hd)⟩
     . refine .inr ⟨jZ rfl,_,0,app (i,none,s) .non (by omega) .non (jy rfl (jy rfl rfl JI) rfl),by omega,_,_,rfl,.inr ⟨rfl,rfl,hp _ (.p hj hd)⟩⟩
     . obtain ⟨d',hd',hl'⟩:=at_ r2;refine .inr ⟨jZ rfl,_,j' + 1,app (i,some o,s) .non (by omega) d' (jy rfl (jy rfl rfl JI) ?_),by omega,_,_,rfl,.inl ⟨j',o,rfl,r2,hd',by simp;omega,fun p h=>?_⟩⟩
       . show some ((zH (kI ks) ds (o:Int)).getD .non)=_;rw [hl'];rfl
       . have:=hp _ (.s h r1 r2 hj hd);simpa using this
   . exact .inl ⟨jZ rfl,suf,_,rfl,hp⟩
 . rintro ρ ⟨suf,d,rfl,hp⟩;have e:jg jmx (jb (ja 2) jk) ‹"bn"›=some (suf.map qm):=ju rfl (by show some (suf.reverse.map qm).reverse=_;rw [<-List.map_reverse,List.reverse_reverse])
   rw [ZT e];exact fin _ ⟨suf,hp,rfl⟩
def mD (P:List (List Int)):List (List D):=P.map fun r=>r.map D.int
def jhW (P:List (List Int)) (i s:Nat) (v:Int):List (List Int):=P.set i ((P.getD i []).set s v)
theorem Shape.put {n m:Nat} {P:List (List Int)} (h:Shape n m P) {i:Nat} (hi:i<n) (s:Nat) (v:Int):Shape n m (jhW P i s v):=by
 refine ⟨by unfold jhW;rw [List.length_set];exact h.1,fun r hr=>?_⟩;rcases List.mem_or_eq_of_mem_set hr with q | q
 . exact h.2 r q
 . rw [q,List.length_set];exact (h.row hi).2
theorem jfg {n m:Nat} {P:List (List Int)} (h:Shape n m P) {i s:Nat} (hi:i<n) (hs:s<m) (v:Int) (i' s':Nat):jY (jhW P i s v) i' s'=if i'=i/\s'=s then v else jY P i' s':=by
 have hi':i<P.length:=by rw [h.1];exact hi
 have hs':s<(P.getD i []).length:=by rw [(h.row hi).2];exact hs
 unfold jY jhW;by_cases z:i'=i
 . subst z;rw [Yb (l:=P.set _ _),Y4 hi',K4];by_cases y:s'=s
   . subst y;rw [Yb,Y4 hs',K4,if_pos ⟨rfl,rfl⟩]
   . rw [Yb,YR (Ne.symm y),<- Yb,if_neg fun q=>y q.2]
 . rw [Yb (l:=P.set _ _),YR (Ne.symm z),<- Yb,if_neg fun q=>z q.1]
def ind (p:Prop) [Decidable p]:Int:=if p then 1 else 0
theorem Ji {p:Prop} [Decidable p] (h:p):ind p=1:=if_pos h
theorem qV {p:Prop} [Decidable p] (h:¬p):ind p=0:=if_neg h
def inc (p:List ‹"y"›) (i s:Nat):Int:=(p.map fun q=>ind (q.1=i/\q.2.2=s)).sum
def dec (p:List ‹"y"›) (i s:Nat):Int:=(p.map fun q=>ind (q.1=i/\q.2.1=some s)).sum
theorem ZP (p:List ‹"y"›) (q:Nat×Option Nat×Nat) (i s:Nat):inc (p++[q]) i s=inc p i s+ind (q.1=i/\q.2.2=s):=by unfold inc;rw [YW,List.sum_append];simp
theorem ZU (p:List ‹"y"›) (q:Nat×Option Nat×Nat) (i s:Nat):dec (p++[q]) i s=dec p i s+ind (q.1=i/\q.2.1=some s):=by unfold dec;rw [YW,List.sum_append];simp
theorem jfS {n m:Nat} {Q:List (List Int)} (h:Shape n m Q) {i s:Nat} (hi:i<n) (hs:s<m) {v:Int} {g:Int->Int->Int} {fk fl fv:ef->Option D} {a b c x y z:Slot} (hk:fk [a,b,c,.oo (mD Q),x,y,z]=some (.int i)) (hl:fl [a,b,c,.oo (mD Q),x,y,z]=some (.int s)) (hv:fv [a,b,c,.oo (mD Q),x,y,z]=some (.int v)) :
 jdU 3 fk fl fv g [a,b,c,.oo (mD Q),x,y,z]=.next [a,b,c,.oo (mD (jhW Q i s (g (jY Q i s) v))),x,y,z]:=by
 have e1:(mD Q)[i]?=some ((Q.getD i []).map D.int):=by unfold mD;rw [List.getElem?_map,(h.row hi).1];rfl
 have hs':s<(Q.getD i []).length:=by rw [(h.row hi).2];exact hs
 have e2:((Q.getD i []).map D.int)[s]?=some (.int (jY Q i s)):=by rw [List.getElem?_map];unfold jY;rw [Yb (l:=Q.getD i []),Ya hs'];rfl
 have e0:jgb 3 fk fl fv g [a,b,c,.oo (mD Q),x,y,z]=some [a,b,c,.oo ((mD Q).set i ‹"ax"›),x,y,z]:=by unfold jgb;rw [hk,hl,hv];show (if 0<=(i:Int)/\0<=(s:Int) then (mD Q)[(i:Int).toNat]?.bind fun ds=>(ds[(s:Int).toNat]?.bind asI).map fun y1=>[a,b,c,.oo ((mD Q).set (i:Int).toNat (ds.set (s:Int).toNat (.int (g y1 v)))),x,y,z] else none)=_;rw [if_pos ⟨by omega,by omega⟩,Yq,Yq,e1];show ((((Q.getD i []).map D.int)[s]?).bind asI).map _=_;rw [e2];rfl
 unfold jdU;rw [e0];show Res.next [a,b,c,.oo ((mD Q).set i ‹"ax"›),x,y,z]=_;have e3:(mD Q).set i ‹"ax"›=mD (jhW Q i s (g (jY Q i s) v)):=by unfold mD jhW;rw [List.map_set,List.map_set]
 rw [e3]
theorem jgC {ρ:ef} {m:D->ef->Option ef} {fe:ef->Option (List D)}:∀(P:List (List Int)),(∀r,r∈P->∃ρ1,m (jh r) ρ=some ρ1/\fe ρ1=some (r.map D.int))->jcJ m ‹"l"› fe ρ (P.map jh)=some (mD P)
 | [],_=>rfl
 | r::P,h=>by obtain ⟨ρ1,h1,h2⟩:=h r Yf;rw [List.map_cons];simp only [jcJ,h1,Ye,yo,h2,jgC P fun x hx=>h x (Ym _ hx),Yi];rfl
theorem jcv {n m:Nat} {tw:List (List Int)} (hp:Shape n m tw) (hn:n<1000) {p:List ‹"y"›} (hw:∀q∈p,q.1<n/\q.2.2<m/\∀o,q.2.1=some o->o<m) (v:Int) :
 ∃d,(∃Q,d=.lst (Q.map jh)/\Shape n m Q/\∀i s,jY Q i s=jY tw i s+v*(inc p i s-dec p i s))/\ZO [.lst (tw.map jh),.lst (p.map qm),.int v]=some d:=by
 unfold ZO;refine Qm (ρ:=[.sh ‹"o"›,.sh ‹"ae"›,.sh (.int v),.un,.un,.un,.un]) _ rfl rfl fun C fin=>?_;unfold jdk;refine jJ [.sh ‹"o"›,.sh ‹"ae"›,.sh (.int v),.oo (mD tw),.un,.un,.un] ?_ ?_
 . have e:jmg (j3 (ja 0)) (jz 0) ‹"l"› (jg Qc (jb (ja 0) jk)) 1 [] [.sh ‹"o"›,.sh ‹"ae"›,.sh (.int v),.un,.un,.un,.un]=some (mD tw):=by unfold jmg;rw [ql rfl,Ye,if_pos (j6 (by rw [Yd,hp.1];omega))];exact jgC tw fun r hr=>⟨_,rfl,rfl⟩
   unfold jel;rw [e];rfl
 refine jjI qm p (fun pre ρ=>∃(Q:List (List Int)) (x y z:Slot),ρ=[.sh ‹"o"›,.sh ‹"ae"›,.sh (.int v),.oo (mD Q),x,y,z]/\Shape n m Q/\∀i s,jY Q i s=jY tw i s+v*(inc pre i s-dec pre i s)) (ql rfl) ⟨tw,_,_,_,rfl,hp,fun i s=>by show _=_+v*(0-0);omega⟩ ?_ ?_
 . rintro pre q rest ρ hl ⟨Q,x,y,z,rfl,hQ,hat⟩;obtain ⟨q1,q2,q3⟩:=hw q (by rw [hl];simp);obtain ⟨i,off,s⟩:=q;dsimp only at q1 q2 q3;cases off with
   | none=>
     refine ⟨[.sh ‹"o"›,.sh ‹"ae"›,.sh (.int v),.oo (mD Q),.sh (.int i),.sh .non,.sh (.int s)],_,rfl,(qD (zA (jZ rfl))).trans (jfS hQ q1 q2 rfl rfl rfl),_,_,_,_,rfl,hQ.put q1 _ _,fun i' s'=>?_⟩;rw [jfg hQ q1 q2,ZP,ZU,hat i' s',hat i s];by_cases c:i'=i/\s'=s
     . obtain ⟨rfl,rfl⟩:=c;rw [if_pos ⟨rfl,rfl⟩];simp only [ind,and_self,yo,reduceCtorEq,and_false,yx];rw [show inc pre i' s' + 1-(dec pre i' s' + 0)=inc pre i' s' - dec pre i' s' + 1 by omega,Int.mul_add];omega
     . rw [if_neg c];have c1:¬(i=i'/\s=s'):=fun z=>c ⟨z.1.symm,z.2.symm⟩;simp only [ind,c1,reduceCtorEq,and_false,yx];rw [show inc pre i' s' + 0-(dec pre i' s' + 0)=inc pre i' s' - dec pre i' s' by omega]
   | some o=>
     have ho:=q3 o rfl;refine ⟨[.sh ‹"o"›,.sh ‹"ae"›,.sh (.int v),.oo (mD Q),.sh (.int i),.sh (.int o),.sh (.int s)],_,rfl,(qD ((Z6 (jZ rfl)).trans (jfS hQ q1 ho rfl rfl rfl))).trans (jfS (hQ.put q1 _ _) q1 q2 rfl rfl rfl),_,_,_,_,rfl,(hQ.put q1 _ _).put q1 _ _,fun i' s'=>?_⟩;rw [jfg (hQ.put q1 _ _) q1 q2,jfg hQ q1 ho,jfg hQ q1 ho,ZP,ZU,hat i' s',hat i o,hat i s];generalize hA:inc pre i' s'=A;generalize hB:dec pre i' s'=B;by_cases c:i'=i/\s'=s
     . obtain ⟨rfl,rfl⟩:=c;rw [if_pos ⟨rfl,rfl⟩];by_cases c2:s'=o
       . subst c2;rw [if_pos ⟨rfl,rfl⟩,hA,hB];simp only [ind,and_self,yo];rw [show A+1-(B+1)=A-B by omega];omega
       . have c3:¬(i'=i'/\s'=o):=fun z=>c2 z.2;have c4:¬(i'=i'/\some o=some s'):=fun z=>c2 (Option.some.inj z.2).symm;rw [if_neg c3,hA,hB];rw [Ji ⟨rfl,rfl⟩,qV c4];rw [show A+1-(B+0)=A-B+1 by omega,Int.mul_add];omega
     . rw [if_neg c];have c1:¬(i=i'/\s=s'):=fun z=>c ⟨z.1.symm,z.2.symm⟩;by_cases c2:i'=i/\s'=o
       . obtain ⟨rfl,rfl⟩:=c2;rw [if_pos ⟨rfl,rfl⟩,hA,hB];rw [qV c1,Ji ⟨rfl,rfl⟩];rw [show A+0-(B+1)=A-B-1 by omega,Int.mul_sub v (A-B) 1];omega
       . have c4:¬(i=i'/\some o=some s'):=fun z=>c2 ⟨z.1.symm,(Option.some.inj z.2).symm⟩;rw [if_neg c2];simp only [ind,c1,c4,yx];rw [show A+0-(B+0)=A-B by omega]
 . rintro ρ ⟨Q,x,y,z,rfl,hQ,hat⟩;have e:jbW 3 (qv (jm 3)) [.sh ‹"o"›,.sh ‹"ae"›,.sh (.int v),.oo (mD Q),x,y,z]=.ret (.lst (Q.map jh)):=by show Res.ret (.lst ((mD Q).map D.lst))=_;unfold mD;rw [YJ];rfl
   rw [e];exact fin _ ⟨Q,rfl,hQ,hat⟩
theorem jnO {L:List Int} (h:L≠[]):∃v,v∈L/\(∀a∈L,v<=a)/\jgg [.lst (L.map D.int)]=some (.int v):=by
 cases e:jgF L with
 | none=>exact absurd (jgS e) h
 | some v=>obtain ⟨h1,h2⟩:=jf7 e;refine ⟨v,h1,h2,?_⟩;show ((ZW (L.map D.int)).bind fun ns=>(jgF ns).map D.int)=_;rw [QW,Ye,e];rfl
theorem jdm {L:List Int} {x:Int} {fe:ef->Option D} {a b c d e g h k:Slot} (hl:L.length<4000) (hf:fe [a,b,c,d,e,.ow (L.map D.int),g,h,k]=some (.int x)):JK 5 fe [a,b,c,d,e,.ow (L.map D.int),g,h,k]=.next [a,b,c,d,e,.ow ((L++[x]).map D.int),g,h,k]:=by unfold JK;rw [hf];show (if Jm (L.map D.int).length=true then Res.next _ else Res.fail)=_;rw [if_pos (j6 (by rw [Yd];omega)),YW];rfl
theorem jie {n m:Nat} {tu:List Int} {tm tw:List (List Int)} (hd:tu.length=n) (hr:Shape n m tm) (hp:Shape n m tw) {i0:Nat} {o0:Option Nat} {s0:Nat} {rest:List ‹"y"›}
 (hw:∀q∈(i0,o0,s0)::rest,q.1<n/\q.2.2<m/\∀o,q.2.1=some o->o<m) (tL:rest.length<1000) :
 ∃d,(∃v,d=.int v/\v<=tu.getD i0 0-zW tw i0/\(∀q∈(i0,o0,s0)::rest,v<=jY tm q.1 q.2.2-jY tw q.1 q.2.2/\∀o,q.2.1=some o->v<=jY tw q.1 o) /\
   (0<tu.getD i0 0-zW tw i0->(∀q∈(i0,o0,s0)::rest,0<jY tm q.1 q.2.2-jY tw q.1 q.2.2/\∀o,q.2.1=some o->0<jY tw q.1 o)->0<v)) /\
   Qj [.lst (tu.map D.int),.lst (tm.map jh),.lst (tw.map jh),.lst (((i0,o0,s0)::rest).map qm)]=some d:=by
 have hi0:i0<n:=(hw _ Yf).1;unfold Qj;refine Qm (ρ:=[.sh ‹"k"›,.sh ‹"h"›,.sh ‹"o"›,.sh (.lst (((i0,o0,s0)::rest).map qm)),.un,.un,.un,.un,.un]) _ rfl rfl fun C fin=>?_;unfold Zf;generalize hp0:(i0,o0,s0)::rest=p at *
 have e0:jO ‹"ae"› (.int 0)=some (qm (i0,o0,s0)):=by rw [<-hp0];exact jfA
 refine jJ ‹"bx"› (j8 (jy (jy rfl rfl e0) rfl JQ)) ?_;have e1:jq zp ‹"ad"› (jg Qb (jb (jq jO (ja 2) (ja 4)) jk)) ‹"bx"›=some (.int (tu.getD i0 0-zW tw i0)):=jy (jy rfl rfl (JB (by omega))) (ju (js (jy rfl rfl (Zg hp hi0)) rfl) sum_ints) rfl
 refine jJ [.sh ‹"k"›,.sh ‹"h"›,.sh ‹"o"›,.sh ‹"ae"›,.sh (.int i0),.ow ([tu.getD i0 0-zW tw i0].map D.int),.un,.un,.un] ?_ ?_
 . unfold Jx zx;rw [js e1 rfl];rfl
 refine jjI qm p (fun pre ρ=>∃(L:List Int) (x y z:Slot),ρ=[.sh ‹"k"›,.sh ‹"h"›,.sh ‹"o"›,.sh ‹"ae"›,.sh (.int i0),.ow (L.map D.int),x,y,z]/\L.length<=1+2*pre.length/\tu.getD i0 0-zW tw i0∈L /\
  (∀q∈pre,jY tm q.1 q.2.2-jY tw q.1 q.2.2∈L/\∀o,q.2.1=some o->jY tw q.1 o∈L) /\
  (0<tu.getD i0 0-zW tw i0->(∀q∈p,0<jY tm q.1 q.2.2-jY tw q.1 q.2.2/\∀o,q.2.1=some o->0<jY tw q.1 o)->∀x∈L,0<x)) (ql rfl)
  ⟨[tu.getD i0 0-zW tw i0],_,_,_,rfl,by simp,by simp,fun q hq=>absurd hq YG,fun h _ x hx=>by rw [Yu.mp hx];exact h⟩ ?_ ?_
 . rintro pre q rest2 ρ hl ⟨L,x,y,z,rfl,hLl,hL0,hL1,hL2⟩;have hqm:q∈p:=by rw [hl];simp
   obtain ⟨q1,q2,q3⟩:=hw q hqm;obtain ⟨i,off,s⟩:=q;dsimp only at q1 q2 q3;have hpl:pre.length<1001:=by
    have:p.length=pre.length+(rest2.length+1):=by rw [hl];simp
    have:p.length=rest.length+1:=by rw [<-hp0];simp
    omega
   cases off with
   | none=>
     refine ⟨[.sh ‹"k"›,.sh ‹"h"›,.sh ‹"o"›,.sh ‹"ae"›,.sh (.int i0),.ow (L.map D.int),.sh (.int i),.sh .non,.sh (.int s)],_,rfl,
       (qD (jdm (x:=jY tm i s-jY tw i s) (by omega) (jy (jy (jy rfl rfl (Zg hr q1)) rfl (Zi hr q1 q2)) (jy (jy rfl rfl (Zg hp q1)) rfl (Zi hp q1 q2)) rfl))).trans (zA (jZ rfl)),_,_,_,_,rfl,?_,Yx _ hL0,fun q hq=>?_,fun h1 h2 x hx=>?_⟩
     . simp;omega
     . rcases YV.mp hq with hq | hq
       . exact ⟨Yx _ (hL1 q hq).1,fun o ho=>Yx _ ((hL1 q hq).2 o ho)⟩
       . rw [Yu.mp hq];exact ⟨by simp,fun o ho=>by cases ho⟩
     . rcases YV.mp hx with hx | hx
       . exact hL2 h1 h2 x hx
       . rw [Yu.mp hx];exact (h2 _ hqm).1
   | some o=>
     have ho:=q3 o rfl;refine ⟨[.sh ‹"k"›,.sh ‹"h"›,.sh ‹"o"›,.sh ‹"ae"›,.sh (.int i0),.ow (L.map D.int),.sh (.int i),.sh (.int o),.sh (.int s)],_,rfl,
       (qD (jdm (x:=jY tm i s-jY tw i s) (by omega) (jy (jy (jy rfl rfl (Zg hr q1)) rfl (Zi hr q1 q2)) (jy (jy rfl rfl (Zg hp q1)) rfl (Zi hp q1 q2)) rfl))).trans ((Z6 (jZ rfl)).trans (jdm (x:=jY tw i o) (by simp;omega) (jy (jy rfl rfl (Zg hp q1)) rfl (Zi hp q1 ho)))),_,_,_,_,rfl,?_,Yx _ (Yx _ hL0),fun q hq=>?_,fun h1 h2 x hx=>?_⟩
     . simp;omega
     . rcases YV.mp hq with hq | hq
       . exact ⟨Yx _ (Yx _ (hL1 q hq).1),fun o ho=>Yx _ (Yx _ ((hL1 q hq).2 o ho))⟩
       . rw [Yu.mp hq];exact ⟨by simp,fun o' ho'=>by cases ho';simp⟩
     . rcases YV.mp hx with hx | hx
       . rcases YV.mp hx with hx | hx
         . exact hL2 h1 h2 x hx
         . rw [Yu.mp hx];exact (h2 _ hqm).1
       . rw [Yu.mp hx];exact (h2 _ hqm).2 o rfl
 . rintro ρ ⟨L,x,y,z,rfl,hLl,hL0,hL1,hL2⟩;obtain ⟨v,hv1,hv2,ev⟩:=jnO (L:=L) fun z=>by rw [z] at hL0;exact absurd hL0 YG
   rw [JM (ju (js rfl rfl) ev)];exact fin _ ⟨v,rfl,hv2 _ hL0,fun q hq=>⟨hv2 _ (hL1 q hq).1,fun o ho=>hv2 _ ((hL1 q hq).2 o ho)⟩,fun h1 h2=>hL2 h1 h2 v hv1⟩
theorem JR {n a:Nat} (c:Int):jw (fun j=>if a=j then c else 0) n=if a<n then c else 0:=by
 induction n with
 | zero=>simp [jw]
 | succ n ih=>
   show jw _ n+(if a=n then c else 0)=_;rw [ih];by_cases h:a<n
   . rw [if_pos h,if_neg (by omega),if_pos (by omega)];omega
   . by_cases h2:a=n
     . rw [if_neg h,if_pos h2,if_pos (by omega)];omega
     . rw [if_neg h,if_neg h2,if_neg (by omega)];omega
theorem jbQ {n a:Nat} (h:a<n) (P:Prop) [Decidable P]:jw (fun i=>ind (a=i/\P)) n=ind P:=by
 rw [ji (g:=fun i=>if a=i then ind P else 0),JR,if_pos h];intro i _;by_cases z:a=i
 . rw [if_pos z];by_cases q:P
   . rw [Ji q,Ji ⟨z,q⟩]
   . rw [qV q,qV fun w=>q w.2]
 . rw [if_neg z,qV fun w=>z w.1]
theorem jd3 {m b:Nat} (h:b<m) (P:Prop) [Decidable P]:jw (fun s=>ind (P/\b=s)) m=ind P:=by
 rw [ji (g:=fun s=>if b=s then ind P else 0),JR,if_pos h];intro s _;by_cases z:b=s
 . rw [if_pos z];by_cases q:P
   . rw [Ji q,Ji ⟨q,z⟩]
   . rw [qV q,qV fun w=>q w.1]
 . rw [if_neg z,qV fun w=>z w.2]
theorem jg1 {p:List ‹"y"›} {i s:Nat} (h:∀q∈p,¬(q.1=i/\q.2.2=s)):inc p i s=0:=by
 induction p with
 | nil=>rfl
 | cons q p ih=>
   have e:inc (q::p) i s=ind (q.1=i/\q.2.2=s)+inc p i s:=by unfold inc;rw [List.map_cons,List.sum_cons]
   rw [e,qV (h q Yf),ih fun x hx=>h x (Ym _ hx)];rfl
theorem ZN {p:List ‹"y"›} {i s:Nat} (h:∀q∈p,¬(q.1=i/\q.2.1=some s)):dec p i s=0:=by
 induction p with
 | nil=>rfl
 | cons q p ih=>
   have e:dec (q::p) i s=ind (q.1=i/\q.2.1=some s)+dec p i s:=by unfold dec;rw [List.map_cons,List.sum_cons]
   rw [e,qV (h q Yf),ih fun x hx=>h x (Ym _ hx)];rfl
theorem jqK (P:Prop) [Decidable P]:0<=ind P/\ind P<=1:=by unfold ind;split <;> omega
theorem Q7 {ks:List Nat} (nd:ks.Nodup) {a b s:Nat} (h1:ks[a]?=some s) (h2:ks[b]?=some s):a=b:=by
 obtain ⟨ha,ea⟩:=Yo.mp h1;obtain ⟨hb,eb⟩:=Yo.mp h2;have key:=KD.mp nd;rcases Nat.lt_trichotomy a b with q | q | q
 . exact absurd (ea.trans eb.symm) (key a b ha hb q)
 . exact q
 . exact absurd (eb.trans ea.symm) (key b a hb ha q)
structure PathOk (tm tw:List (List Int)) (n m:Nat) (ks:List Nat) (j s:Nat) (p:List (Nat×Option Nat×Nat)) (row:Nat->Int) (col:Nat->Int):Prop where
 ok:∀q∈p,q.1<n/\q.2.2<m/\(∀o,q.2.1=some o->o<m)/\jY tw q.1 q.2.2<jY tm q.1 q.2.2/\∀o,q.2.1=some o->0<jY tw q.1 o
 on:∀q∈p,∃a,a<=j/\ks[a]?=some q.2.2
 off:∀q∈p,∀o,q.2.1=some o->∃a,a<j/\ks[a]?=some o
 len:p.length<=j+1
 inc1:∀i t,0<=inc p i t/\inc p i t<=1
 dec1:∀i t,0<=dec p i t/\dec p i t<=1
 cols:∀t,t<m->jw (fun i=>inc p i t-dec p i t) n=ind (s=t)-col t
 rows:∀i,i<n->jw (fun t=>inc p i t-dec p i t) m=row i
theorem PathOk.step {tm tw:List (List Int)} {n m:Nat} {ks:List Nat} (nd:ks.Nodup) {j j' s i o:Nat} {p:List ‹"y"›} {row col:Nat->Int} (h:PathOk tm tw n m ks j' o p row col) (hj:j'<j) (ho:ks[j']?=some o) (hs:ks[j]?=some s) (hom:o<m) (hsm:s<m) (hi:i<n) (hmv:Mv tm tw o s i) :
 PathOk tm tw n m ks j s (p++[(i,some o,s)]) row col:=by
 refine ⟨fun q hq=>?_,fun q hq=>?_,fun q hq x hx=>?_,?_,fun i' t=>?_,fun i' t=>?_,fun t ht=>?_,fun i' hi'=>?_⟩
 . rcases YV.mp hq with hq | hq
   . exact h.ok q hq
   . rw [Yu.mp hq];exact ⟨hi,hsm,fun x hx=>by cases hx;exact hom,hmv.2,fun x hx=>by cases hx;exact hmv.1⟩
 . rcases YV.mp hq with hq | hq
   . obtain ⟨a,h1,h2⟩:=h.on q hq;exact ⟨a,by omega,h2⟩
   . rw [Yu.mp hq];exact ⟨j,Ys _,hs⟩
 . rcases YV.mp hq with hq | hq
   . obtain ⟨a,h1,h2⟩:=h.off q hq x hx;exact ⟨a,by omega,h2⟩
   . rw [Yu.mp hq] at hx;cases hx;exact ⟨j',hj,ho⟩
 . have:=h.len;simp;omega
 . rw [ZP];have h1:=h.inc1 i' t;by_cases c:i=i'/\s=t
   . have z:inc p i' t=0:=jg1 fun q hq w=>by obtain ⟨a,a1,a2⟩:=h.on q hq;rw [w.2,<- c.2] at a2;have:=Q7 nd a2 hs;omega
     rw [z,Ji (show (i,some o,s).1=i'/\(i,some o,s).2.2=t from c)];omega
   . rw [qV (show ¬((i,some o,s).1=i'/\(i,some o,s).2.2=t) from c)];omega
 . rw [ZU];have h1:=h.dec1 i' t;by_cases c:i=i'/\some o=some t
   . have z:dec p i' t=0:=ZN fun q hq w=>by obtain ⟨a,a1,a2⟩:=h.off q hq t w.2;rw [<-Option.some.inj c.2] at a2;have:=Q7 nd a2 ho;omega
     rw [z,Ji (show (i,some o,s).1=i'/\(i,some o,s).2.1=some t from c)];omega
   . rw [qV (show ¬((i,some o,s).1=i'/\(i,some o,s).2.1=some t) from c)];omega
 . rw [ji (g:=fun i'=>(inc p i' t-dec p i' t)+(ind (i=i'/\s=t)-ind (i=i'/\o=t))),qt,zP (f:=fun i'=>ind (i=i'/\s=t)) (g:=fun i'=>ind (i=i'/\o=t)),jbQ hi,jbQ hi,h.cols t ht]
   . omega
   . intro i' _;rw [ZP,ZU];have e1:ind ((i,some o,s).1=i'/\(i,some o,s).2.2=t)=ind (i=i'/\s=t):=rfl;have e2:ind ((i,some o,s).1=i'/\(i,some o,s).2.1=some t)=ind (i=i'/\o=t):=by
       by_cases c:i=i'/\o=t
       . rw [Ji c,Ji (show (i,some o,s).1=i'/\(i,some o,s).2.1=some t from ⟨c.1,congrArg some c.2⟩)]
       . rw [qV c,qV fun w=>c ⟨w.1,Option.some.inj w.2⟩]
     rw [e1,e2];omega
 . rw [ji (g:=fun t=>(inc p i' t-dec p i' t)+(ind (i=i'/\s=t)-ind (i=i'/\o=t))),qt,zP (f:=fun t=>ind (i=i'/\s=t)) (g:=fun t=>ind (i=i'/\o=t)),jd3 hsm,jd3 hom,h.rows i' hi']
   . omega
   . intro t _;rw [ZP,ZU];have e1:ind ((i,some o,s).1=i'/\(i,some o,s).2.2=t)=ind (i=i'/\s=t):=rfl;have e2:ind ((i,some o,s).1=i'/\(i,some o,s).2.1=some t)=ind (i=i'/\o=t):=by
       by_cases c:i=i'/\o=t
       . rw [Ji c,Ji (show (i,some o,s).1=i'/\(i,some o,s).2.1=some t from ⟨c.1,congrArg some c.2⟩)]
       . rw [qV c,qV fun w=>c ⟨w.1,Option.some.inj w.2⟩]
     rw [e1,e2];omega
theorem jnd {n m:Nat} {tu:List Int} {tm tw:List (List Int)} {ks:List Nat} {ds:List D} (R:Rch tm tw n m (Bp tu tm tw n) ks ds) {j:Nat} {p:List ‹"y"›} (h:Path ks ds j p) :
 ∀s,ks[j]?=some s->∃i0 s0 rest,p=(i0,none,s0)::rest/\i0<n/\zW tw i0<tu.getD i0 0/\PathOk tm tw n m ks j s p (fun i=>ind (i0=i)) (fun _=>0):=by
 induction h with
 | @p j s i h1 h2=>
   intro s' hs';rw [h1] at hs';cases hs';have hsm:=R.lt s (YF h1);rcases R.val j s _ h1 h2 with ⟨i',hi,e,b1,b2⟩ | ⟨i',o,j',_,_,_,e,_⟩
   . have:i=i':=by injection e with e;injection e with e;injection e with e;omega
     subst this;refine ⟨i,s,[],rfl,hi,b1,fun q hq=>?_,fun q hq=>?_,fun q hq o ho=>?_,by simp,fun i' t=>?_,fun i' t=>?_,fun t ht=>?_,fun i' hi'=>?_⟩
     . rw [Yu.mp hq];exact ⟨hi,hsm,fun o ho=>(by cases ho),b2,fun o ho=>(by cases ho)⟩
     . rw [Yu.mp hq];exact ⟨j,Ys _,h1⟩
     . rw [Yu.mp hq] at ho;cases ho
     . have e:inc [(i,none,s)] i' t=ind (i=i'/\s=t):=by unfold inc;simp
       rw [e];exact jqK _
     . have e:dec [(i,none,s)] i' t=0:=ZN fun q hq w=>by rw [Yu.mp hq] at w;cases w.2
       rw [e];omega
     . rw [ji (g:=fun i'=>ind (i=i'/\s=t)),jbQ hi]
       . omega
       . intro i' _;have e:inc [(i,none,s)] i' t=ind (i=i'/\s=t):=by unfold inc;simp
         have e':dec [(i,none,s)] i' t=0:=ZN fun q hq w=>by rw [Yu.mp hq] at w;cases w.2
         rw [e,e'];omega
     . rw [ji (g:=fun t=>ind (i=i'/\s=t)),jd3 hsm];intro t _;have e:inc [(i,none,s)] i' t=ind (i=i'/\s=t):=by unfold inc;simp
       have e':dec [(i,none,s)] i' t=0:=ZN fun q hq w=>by rw [Yu.mp hq] at w;cases w.2
       rw [e,e'];omega
   . injection e with e;injection e with _ e;injection e with e;cases e
 | @c j h1=>intro s hs;rcases R.val j s _ hs h1 with ⟨i',hi,e,_⟩ | ⟨i',o,j',_,_,_,e,_⟩ <;> cases e
 | @s j j' s i o p h0 hj ho h1 h2 ih=>
   intro s' hs';rw [h1] at hs';cases hs';obtain ⟨i0,s0,rest,rfl,hi0,hb,ok⟩:=ih o ho;rcases R.val j s _ h1 h2 with ⟨i',hi,e,_⟩ | ⟨i',o',j'',_,_,hi',e,hmv⟩
   . injection e with e;injection e with _ e;injection e with e;cases e
   . have e1:i=i'/\o=o':=by injection e with e;injection e with a e;injection e with b e;injection a with a;injection b with b;exact ⟨by omega,by omega⟩
     obtain ⟨rfl,rfl⟩:=e1;exact ⟨i0,s0,rest++[(i,some o,s)],rfl,hi0,hb,ok.step R.nd hj ho h1 (R.lt o (YF ho)) (R.lt s (YF h1)) hi' hmv⟩
structure Feas (n m:Nat) (tu:List Int) (tm:List (List Int)) (tF:List Int) (P:List (List Int)):Prop where
 sh:Shape n m P
 cell:∀i s,i<n->s<m->0<=jY P i s/\jY P i s<=jY tm i s
 row:∀i,i<n->zW P i<=tu.getD i 0
 col:∀s,s<m->jL P s<=tF.getD s 0
theorem jof {v a b:Int} (ha:0<=a/\a<=1) (hb:0<=b/\b<=1):(v*(a-b)=0)\/(v*(a-b)=v/\a=1)\/(v*(a-b) = -v/\b=1):=by
 have h1:a=0\/a=1:=by omega
 have h2:b=0\/b=1:=by omega
 rcases h1 with rfl | rfl <;> rcases h2 with rfl | rfl
 . left;simp
 . right;right;simp
 . right;left;simp
 . left;simp
theorem jiX {p:List ‹"y"›} {i s:Nat} (h:inc p i s=1):∃q,q∈p/\q.1=i/\q.2.2=s:=Classical.byContradiction fun c=>by rw [jg1 fun q hq w=>c ⟨q,hq,w⟩] at h;omega
theorem ji2 {p:List ‹"y"›} {i s:Nat} (h:dec p i s=1):∃q,q∈p/\q.1=i/\q.2.1=some s:=Classical.byContradiction fun c=>by rw [ZN fun q hq w=>c ⟨q,hq,w⟩] at h;omega
theorem Feas.turn {n m:Nat} {tu:List Int} {tm:List (List Int)} {tF:List Int} {P Q:List (List Int)} (h:Feas n m tu tm tF P) (hQ:Shape n m Q) {ks:List Nat} {j s:Nat} {p:List ‹"y"›} {i0:Nat} (ok:PathOk tm P n m ks j s p (fun i=>ind (i0=i)) (fun _=>0)) {v:Int} (hi0:i0<n) (hs:s<m)
 (hat:∀i t,jY Q i t=jY P i t+v*(inc p i t-dec p i t)) (v0:0<v) (v1:v<=tu.getD i0 0-zW P i0) (v2:∀q∈p,v<=jY tm q.1 q.2.2-jY P q.1 q.2.2/\∀o,q.2.1=some o->v<=jY P q.1 o) (v3:v<=tF.getD s 0-jL P s) :
 Feas n m tu tm tF Q/\(∀t,t<m->jL P t<=jL Q t)/\zD Q n=zD P n+v:=by
 have hrow:∀i,i<n->zW Q i=zW P i+v*ind (i0=i):=fun i hi=>by rw [Jy hQ hi,Jy h.sh hi,<- ok.rows i hi,<- zR,<- qt];exact ji fun t _=>hat i t
 have hcol:∀t,t<m->jL Q t=jL P t+v*ind (s=t):=fun t ht=>by have e:=ok.cols t ht;rw [kn] at e;rw [Jp hQ,Jp h.sh,<- e,<- zR,<- qt];exact ji fun i _=>hat i t
 refine ⟨⟨hQ,fun i t hi ht=>?_,fun i hi=>?_,fun t ht=>?_⟩,fun t ht=>?_,?_⟩
 . have h1:=h.cell i t hi ht;rw [hat i t];rcases jof (v:=v) (ok.inc1 i t) (ok.dec1 i t) with e | ⟨e,e1⟩ | ⟨e,e1⟩
   . rw [e];omega
   . rw [e];obtain ⟨q,hq,rfl,rfl⟩:=jiX e1;have:=(v2 q hq).1;omega
   . rw [e];obtain ⟨q,hq,rfl,ho⟩:=ji2 e1;have:=(v2 q hq).2 t ho;omega
 . rw [hrow i hi];by_cases z:i0=i
   . rw [Ji z,<- z];omega
   . rw [qV z];have:=h.row i hi;omega
 . rw [hcol t ht];by_cases z:s=t
   . rw [Ji z,<- z];omega
   . rw [qV z];have:=h.col t ht;omega
 . rw [hcol t ht];by_cases z:s=t
   . rw [Ji z];omega
   . rw [qV z];omega
 . unfold zD;rw [ji (g:=fun i=>zW P i+v*ind (i0=i)) fun i hi=>hrow i hi,qt,zR];have e:jw (fun i=>ind (i0=i)) n=1:=by
    rw [ji (g:=fun i=>ind (i0=i/\True)),jbQ hi0,Ji trivial];intro i _;by_cases z:i0=i
    . rw [Ji z,Ji ⟨z,trivial⟩]
    . rw [qV z,qV fun w=>z w.1]
   rw [e];omega
structure Fill (n m:Nat) (tu:List Int) (tm:List (List Int)) (tF:List Int) (P0 P:List (List Int)) (tE:List Bool):Prop where
 feas:Feas n m tu tm tF P
 mono:∀s,s<m->jL P0 s<=jL P s
 len:tE.length=m
 short:∀i s,i<n->s<m->zW P i<tu.getD i 0->jY P i s<jY tm i s->tE.getD s false=true
 clo:∀s,s<m->tE.getD s false=true->∀t,t<m->∀i,i<n->Mv tm P s t i->tE.getD t false=true
 full:∀s,s<m->tE.getD s false=true->jL P s=tF.getD s 0
theorem jlQ {n m:Nat} {P:List (List Int)} (h:Shape n m P):(P.map List.sum).sum=zD P n:=by rw [jfZ List.sum [],h.1];rfl
theorem jdN {n m:Nat} {P:List (List Int)} (h:Shape n m P) {j:Nat} (hj:j<m):∀r∈P,j<r.length:=fun r hr=>by rw [h.2 r hr];exact hj
theorem jnx {n m:Nat} {P:List (List Int)} (h:Shape n m P) (hn:n<1000) {a b c e f g x y:Slot}:JC (j3 (ja 3)) (jz 0) ‹"l"› (jg Qb (jb (ja 0) jk)) 1 [] [a,b,c,.sh ‹"g"›,e,f,g,x,y]=some ((P.map List.sum).map D.int):=by refine qq (ql rfl) (by rw [Yd,h.1];omega) ?_;rw [Jg jh (fun r:List Int=>D.int r.sum) P fun r hr=>⟨_,rfl,rfl,ju rfl sum_ints⟩,YJ];rfl
theorem jn0 {n m:Nat} {P:List (List Int)} {tF:List Int} (h:Shape n m P) (hn:n<1000) (hm:m<1000) (ht:tF.length=m) {ks:List Nat} {ds:List D} (hk:∀s∈ks,s<m) (hl:ks.length<1000) {a b f g x y:Slot} :
 JC (jaP (jm 4)) (jz 0) (qQ (jq dLt (jg Zu (jb (jm 1) (jb (jm 0) jk))) (jq jO (ja 2) (ja 0)))) (jm 0) 1 [3,2] [a,b,.sh ‹"W"›,.sh ‹"g"›,.sh ‹"K"›,f,g,x,y] =
  some (nI (ks.filter fun s=>decide (jL P s<tF.getD s 0))):=by
 have e:jaP (jm 4) [a,b,.sh ‹"W"›,.sh ‹"g"›,.sh ‹"K"›,f,g,x,y]=some (nI ks):=by show some ((kI ks).map D.int)=_;rw [jpm]
 refine qq e (by unfold nI;rw [Yd];omega) ?_;unfold nI;refine jiL (fun k:Nat=>D.int (k:Int)) (fun k:Nat=>D.int (k:Int)) (fun s=>decide (jL P s<tF.getD s 0)) ks fun s hs=>?_;have hsm:=hk s hs;exact ⟨_,rfl,jZ (jy (ju rfl (ja6 (jdN h hsm) (by rw [h.1];exact hn))) (jy rfl rfl (JB (by omega))) QC),rfl⟩
theorem jk2 {m:Nat} {tF:List Int} (ht:tF.length=m) (hm:m<1000) {ks:List Nat} {ds:List D} (nd:ks.Nodup) (hl:ks.length=ds.length) {a b c f g x y:Slot} :
 JC ‹"an"› (jz 0) ‹"l"› (jq (jbc false) (ja 0) (ja 1)) 1 [4] [a,b,.sh ‹"W"›,c,.sh ‹"K"›,f,g,x,y]=some (((List.range m).map fun s=>decide (s∈ks)).map D.bl):=by
 refine qq (ds:=(List.range m).map fun j:Nat=>D.int (j:Int)) ?_ (by simp;omega) ?_
 . rw [JH (j:=(m:Int)) (js (ju rfl ?_) rfl) (by omega) (by omega),Yq,jaY];show some (D.int ((tF.map D.int).length:Int))=_;rw [Yd,ht]
 . rw [Jg (fun j:Nat=>D.int (j:Int)) (fun s=>D.bl (decide (s∈ks))) (List.range m) fun s _=>⟨_,rfl,rfl,jy rfl rfl ?_⟩,YJ]
   . rfl
   . rw [jh2 nd hl];simp
theorem jfw {s:Nat} {r:List Nat}:jO (.lst (nI (s::r))) (.int 0)=some (.int s):=jfA
theorem jcH {n m:Nat} {tu:List Int} {tm:List (List Int)} {tF:List Int} {P0:List (List Int)} (hd:tu.length=n) (hr:Shape n m tm) (ht:tF.length=m) (F0:Feas n m tu tm tF P0) (hn:n<1000) (hm:m<1000) :
 ∃d,‹"aQ"›/\jaa [.lst (tu.map D.int),.lst (tm.map jh),.lst (tF.map D.int),.lst (P0.map jh)]=some d:=by
 unfold jaa;refine Qm (ρ:=[.sh ‹"k"›,.sh ‹"h"›,.sh ‹"W"›,.sh (.lst (P0.map jh)),.un,.un,.un,.un,.un]) _ rfl rfl fun C fin=>?_;unfold jdL
 suffices key:∃r,Qy (qQ (eC (.bl true))) _ _=r/\∃d,r=.ret d/\∃P tE,d=.tup [.int (zD P n),.lst (P.map jh),.lst (tE.map D.bl)]/\Fill n m tu tm tF P0 P tE by obtain ⟨r,e,d,rfl,h⟩:=key;rw [e];exact fin d h
 refine jdc (fun k ρ=>∃(P:List (List Int)) (x4 x5 x6 x7 x8:Slot),ρ=‹"a9"›/\Feas n m tu tm tF P/\(∀s,s<m->jL P0 s<=jL P s)/\k=(jw ‹"v"› n-zD P n).toNat) _ ⟨P0,_,_,_,_,_,rfl,F0,fun s _=>yY _,rfl⟩ ?_;rintro k ρ ⟨P,x4,x5,x6,x7,x8,rfl,F,mono,rfl⟩;refine .inr ⟨rfl,?_⟩;obtain ⟨d1,⟨ks1,ds1,rfl,R1,all1⟩,e1⟩:=jgK hd hr F.sh hm;have hn0:ks1≠[]->0<n:=fun h=>by
  cases ks1 with
  | nil=>exact absurd rfl h
  | cons s ks1=>
    have hl1:=R1.len;cases ds1 with
    | nil=>simp at hl1
    | cons d ds1=>
      rcases R1.val 0 s d rfl rfl with ⟨i,hi,_⟩ | ⟨i,o,j',hj,_⟩
      . omega
      . omega
 obtain ⟨d2,⟨ks,ds,rfl,R,⟨ex,hex⟩,hclo⟩,e2⟩:=jea hr F.sh hm R1 hn0;have hkl:ks.length<1000:=yz (Jd m ks R.nd R.lt) hm
 suffices main:∀C:Res->Prop,(∀ρ2 k2,k2<(jw ‹"v"› n-zD P n).toNat->(∃(P:List (List Int)) (x4 x5 x6 x7 x8:Slot),ρ2=‹"a9"›/\Feas n m tu tm tF P/\(∀s,s<m->jL P0 s<=jL P s)/\k2=(jw ‹"v"› n-zD P n).toNat)->C (.next ρ2))->
  (∀d,‹"aQ"›->C (.ret d))->C _ from
  main (fun r=>(∃ρ2 k2,r=.next ρ2/\k2<(jw ‹"v"› n-zD P n).toNat/\(∃(P:List (List Int)) (x4 x5 x6 x7 x8:Slot),ρ2=‹"a9"›/\Feas n m tu tm tF P/\(∀s,s<m->jL P0 s<=jL P s)/\k2=(jw ‹"v"› n-zD P n).toNat))\/∃d,r=.ret d/\∃d',Res.ret d=.ret d'/\∃P tE,d'=.tup [.int (zD P n),.lst (P.map jh),.lst (tE.map D.bl)]/\Fill n m tu tm tF P0 P tE)
   (fun ρ2 k2 hk hP=>.inl ⟨ρ2,k2,rfl,hk,hP⟩) fun d h=>.inr ⟨d,rfl,d,rfl,h⟩
 intro C fnx frt;refine jJ [.sh ‹"k"›,.sh ‹"h"›,.sh ‹"W"›,.sh ‹"g"›,.sh ‹"K"›,x5,x6,x7,x8] (j8 (ju (js rfl (js rfl (js (ju rfl e1) rfl))) e2)) ?_;generalize hfr:(ks.filter fun s=>decide (jL P s<tF.getD s 0))=fr;refine jJ ‹"br"› (zb (by rw [<-hfr];exact jn0 F.sh hn hm ht R.lt hkl)) ?_;have ec:qQ (jq dEq (ja 5) (jH (zx jk))) ‹"br"›=some (nI fr).isEmpty:=jZ (jy rfl rfl jjo);cases fr with
 | nil=>
   have hfull:∀s∈ks,¬jL P s<tF.getD s 0:=fun s hs hlt=>by have:s∈ks.filter fun s=>decide (jL P s<tF.getD s 0):=Ku.mpr ⟨hs,YU hlt⟩;rw [hfr] at this;exact absurd this YG
   refine jgc (d:=.tup [.int (zD P n),.lst (P.map jh),.lst (((List.range m).map fun s=>decide (s∈ks)).map D.bl)]) ((Z6 ec).trans ((qD (ρ':=[.sh ‹"k"›,.sh ‹"h"›,.sh ‹"W"›,.sh ‹"g"›,.sh ‹"K"›,.sh (.lst (nI [])),.sh (.int (zD P n)),x7,x8]) (j8 (ju (js (qw (jnx F.sh hn)) rfl) (sum_ints.trans (by rw [jlQ F.sh]))))).trans (JM ?_))) ?_
   . unfold ZJ;rw [js rfl (js rfl (js (qw (jk2 ht hm R.nd R.len)) rfl))];rfl
   . have mk:∀s,s<m->((List.range m).map fun s=>decide (s∈ks)).getD s false=decide (s∈ks):=fun s hs=>by rw [Yb,List.getElem?_map,yw hs];rfl
     refine frt _ ⟨P,(List.range m).map fun s=>decide (s∈ks),rfl,F,mono,by simp,fun i s hi hs h1 h2=>?_,fun s hs hk t htm i hi hmv=>?_,fun s hs hk=>?_⟩
     . rw [mk s hs,YU];rw [hex];exact Yx _ (all1 i s hi hs h1 h2)
     . rw [mk s hs] at hk;rw [mk t htm,YU];rcases hclo s (yO hk) t htm with q | q
       . exact q
       . exact absurd hmv (q i hi)
     . rw [mk s hs] at hk;have h1:=hfull s (yO hk);have h2:=F.col s hs;omega
 | cons s fr=>
   have hsm:s∈ks/\jL P s<tF.getD s 0:=by
    have:s∈ks.filter fun s=>decide (jL P s<tF.getD s 0):=by rw [hfr];exact Yf
    obtain ⟨a,b⟩:=Ku.mp this;exact ⟨a,yO b⟩
   obtain ⟨hsk,hslt⟩:=hsm;have hs:=R.lt s hsk;obtain ⟨j,hj,ej⟩:=Y9 hsk;have hjs:ks[j]?=some s:=by rw [Ya hj,ej]
   obtain ⟨l,⟨p,hp,rfl⟩,e3⟩:=jcn R hm (fun s d ⟨i,_,e,_⟩=>.inr ⟨i,e⟩) hjs;obtain ⟨i0,s0,rest,rfl,hi0,hb,ok⟩:=jnd R hp s hjs;have tL:=ok.len;obtain ⟨d4,⟨v,rfl,v1,v2,v3⟩,e4⟩:=jie hd hr F.sh ‹"ag"› (by simp at tL;omega);have v0:0<v:=v3 (by omega) fun q hq=>⟨by have:=(ok.ok q hq).2.2.2.1;omega,(ok.ok q hq).2.2.2.2⟩;refine jJ [.sh ‹"k"›,.sh ‹"h"›,.sh ‹"W"›,.sh ‹"g"›,.sh ‹"K"›,.sh (.lst (nI (s::fr))),x6,x7,x8] (zA ec) ?_;refine jJ [.sh ‹"k"›,.sh ‹"h"›,.sh ‹"W"›,.sh ‹"g"›,.sh ‹"K"›,.sh (.lst (nI (s::fr))),x6,.sh (.lst (((i0,none,s0)::rest).map qm)),x8] (zb (ju (js rfl (js (jy rfl rfl jfw) rfl)) e3)) ?_;refine jJ [.sh ‹"k"›,.sh ‹"h"›,.sh ‹"W"›,.sh ‹"g"›,.sh ‹"K"›,.sh (.lst (nI (s::fr))),x6,.sh (.lst (((i0,none,s0)::rest).map qm)),.sh (.int (tF.getD s 0-jL P s))]
    (j8 (jy (jy rfl (jy rfl rfl jfw) (JB (by omega))) (ju (js rfl (js (jy rfl rfl jfw) rfl)) (ja6 (jdN F.sh hs) (by rw [F.sh.1];exact hn))) rfl)) ?_
   have hw:∃w,0<w/\w<=v/\w<=tF.getD s 0-jL P s/\QJ [.int (tF.getD s 0-jL P s),.int v]=some (.int w):=by
    by_cases c:v<tF.getD s 0-jL P s
    . exact ⟨v,v0,yY _,by omega,by show some (D.int (if v<tF.getD s 0-jL P s then v else _))=_;rw [if_pos c]⟩
    . exact ⟨tF.getD s 0-jL P s,by omega,by omega,yY _,by show some (D.int (if v<tF.getD s 0-jL P s then v else _))=_;rw [if_neg c]⟩
   obtain ⟨w,w0,w1,w2,ew⟩:=hw;obtain ⟨d5,⟨Q,rfl,hQ,hat⟩,e5⟩:=jcv F.sh hn ‹"ag"› w;obtain ⟨FQ,mq,tq⟩:=F.turn hQ ok hi0 hs hat w0 (by omega) (fun q hq=>⟨by have:=(v2 q hq).1;omega,fun o ho=>by have:=(v2 q hq).2 o ho;omega⟩) w2;refine JN (j8 (ju (js rfl (js rfl (js (ju (js rfl (js (ju rfl e4) rfl)) ew) rfl))) e5)) ?_;have hle:zD Q n<=jw ‹"v"› n:=qP fun i hi=>FQ.row i hi;exact fnx _ _ (by omega) ⟨Q,_,_,_,_,_,rfl,FQ,fun t ht=>KN (mono t ht) (mq t ht),rfl⟩
def jcg (mk:Nat->Bool) (P:List (List Int)) (m i:Nat):Int:=jw ‹"at"› m
theorem jeM (mk:Nat->Bool) {n m:Nat} {P:List (List Int)} (h:Shape n m P):zD P n=jw (fun s=>if mk s=true then jL P s else 0) m+jw (fun i=>jcg mk P m i) n:=by
 have e:jw (fun s=>if mk s=true then jL P s else 0) m=jw (fun i=>jw ‹"as"› m) n:=by
  rw [JS];refine ji fun s _=>?_;by_cases c:mk s=true
  . rw [if_pos c,Jp h];exact ji fun i _=>by rw [if_pos c]
  . rw [if_neg c,jS];intro i _;rw [if_neg c]
 rw [e,<- qt];unfold zD;refine ji fun i hi=>?_;rw [Jy h hi];unfold jcg;rw [<-qt];refine ji fun s _=>?_;by_cases c:mk s=true
 . rw [if_pos c,if_pos c];omega
 . rw [if_neg c,if_neg c];omega
def jj3 (mk:Nat->Bool) (tu:List Int) (tm:List (List Int)) (tF:List Int) (n m:Nat):Int:=jw (fun s=>if mk s=true then tF.getD s 0 else 0) m+jw (fun i=>tu.getD i 0-j2 (tu.getD i 0-jcg mk tm m i)) n
theorem jdw (mk:Nat->Bool) {n m:Nat} {tu:List Int} {tm:List (List Int)} {tF:List Int} {P:List (List Int)} (F:Feas n m tu tm tF P) {i:Nat} (hi:i<n):jcg mk P m i<=zW P i:=by
 rw [Jy F.sh hi];refine qP fun s hs=>?_;have:=(F.cell i s hi hs).1;by_cases c:mk s=true
 . rw [if_pos c];omega
 . rw [if_neg c];omega
theorem jbh (mk:Nat->Bool) {n m:Nat} {tu:List Int} {tm:List (List Int)} {tF:List Int} {P:List (List Int)} (F:Feas n m tu tm tF P) {i:Nat} (hi:i<n):jcg mk P m i<=jcg mk tm m i:=by
 refine qP fun s hs=>?_;have:=(F.cell i s hi hs).2;by_cases c:mk s=true
 . rw [if_pos c,if_pos c];omega
 . rw [if_neg c,if_neg c];omega
theorem jpn (mk:Nat->Bool) {n m:Nat} {tu:List Int} {tm:List (List Int)} {tF:List Int} {P:List (List Int)} (F:Feas n m tu tm tF P):zD P n<=jj3 mk tu tm tF n m:=by
 rw [jeM mk F.sh];unfold jj3;have h1:jw (fun s=>if mk s=true then jL P s else 0) m<=jw (fun s=>if mk s=true then tF.getD s 0 else 0) m:=qP fun s hs=>by
  have:=F.col s hs;by_cases c:mk s=true
  . rw [if_pos c,if_pos c];exact this
  . rw [if_neg c,if_neg c];omega
 have h2:jw (fun i=>jcg mk P m i) n<=jw (fun i=>tu.getD i 0-j2 (tu.getD i 0-jcg mk tm m i)) n:=qP fun i hi=>by have a:=jdw mk F hi;have b:=jbh mk F hi;have c:=F.row i hi;unfold j2;split <;> omega
 omega
theorem jkZ {n m:Nat} {tu:List Int} {tm:List (List Int)} {tF:List Int} {P0 P:List (List Int)} {tE:List Bool} (F:Fill n m tu tm tF P0 P tE):zD P n=jj3 ‹"Y"› tu tm tF n m:=by
 rw [jeM ‹"Y"› F.feas.sh];unfold jj3;have h1:jw (fun s=>if tE.getD s false=true then jL P s else 0) m=jw (fun s=>if tE.getD s false=true then tF.getD s 0 else 0) m:=ji fun s hs=>by
  by_cases c:tE.getD s false=true
  . rw [if_pos c,if_pos c];exact F.full s hs c
  . rw [if_neg c,if_neg c]
 have h2:jw (fun i=>jcg ‹"Y"› P m i) n=jw (fun i=>tu.getD i 0-j2 (tu.getD i 0-jcg ‹"Y"› tm m i)) n:=ji fun i hi=>by
  have a:=jdw ‹"Y"› F.feas hi;have b:=jbh ‹"Y"› F.feas hi;have c:=F.feas.row i hi;by_cases q:zW P i<tu.getD i 0\/∃s,s<m/\tE.getD s false=true/\0<jY P i s
  . -- all stretches without a mark are full
    have e:jcg ‹"Y"› P m i=jcg ‹"Y"› tm m i:=ji fun t ht=>by
      by_cases c:tE.getD t false=true
      . rw [if_pos c,if_pos c]
      . rw [if_neg c,if_neg c];have l:=(F.feas.cell i t hi ht).2;by_cases z:jY P i t<jY tm i t
        . exfalso;rcases q with q | ⟨s,hs,hms,hp⟩
          . exact c (F.short i t hi ht q z)
          . exact c (F.clo s hs hms t ht i hi ⟨hp,z⟩)
        . omega
    rw [e];unfold j2;split <;> omega
  . -- all of the need is in them
    have e:jcg ‹"Y"› P m i=zW P i:=by
      rw [Jy F.feas.sh hi];refine ji fun s hs=>?_;by_cases c:tE.getD s false=true
      . rw [if_pos c];have l:=(F.feas.cell i s hi hs).1;by_cases z:0<jY P i s
        . exact absurd (Or.inr ⟨s,hs,c,z⟩) q
        . omega
      . rw [if_neg c]
    have q1:¬zW P i<tu.getD i 0:=fun z=>q (.inl z);rw [e];unfold j2;split <;> omega
 rw [h1,h2]
theorem jeU {s:Ship} (hs:Sm s) (p:Int×Int):jca [jr s,jC p]=some (.int (zk s p)):=by
 have h1:=hs.1;have h2:=hs.2;have el:=jco p;unfold jca jh0 zk;unfold jC at el ⊢;unfold jr;simp (disch:=omega) only [qW,YH,Y3,Kq,Nat.reduceAdd,jcQ,jA,Qh,ZK,qQ,jq,ja,qF,List.map_cons,yD,Kr,yS,Kk,Kt,Yg,eC,Ye,JQ,Yl,jce,JI,qv,jb9,jg,jb,jm,jk,Yi,qi,yo];by_cases c1:s.b<=p.1
 . by_cases c2:p.2<=s.e
   . simp only [c1,c2,KZ,and_self,yo,el];simp (disch:=omega) only [Ye,Qx]
   . simp only [c1,c2,KZ,Kn,and_false,yx]
 . simp only [c1,Kn,false_and,yx]
def ja7 (fl:List Ship) (s:Ship):D:=jh ((jj fl).map (zk s))
theorem jaR {fl:List Ship} (hs:∀s∈fl,Sm s) (hl:fl.length<20):Zh [.lst (fl.map jr)]=some (fl.map (ja7 fl)):=by
 have est:=Qt fl hl;have hsl:=JP hl
 suffices main:∀C:Res->Prop,C (.retO (fl.map (ja7 fl)))->C (ZA [.sh ‹"c"›,.un]) by exact main (fun r=>jb6 r=some (fl.map (ja7 fl))) rfl
 intro C fin;unfold ZA;refine jJ [.sh ‹"c"›,.sh ‹"j"›] (by simp (disch:=omega) only [jG,jH,jg,jb,jm,Yg,jk,Yi,Ye,Yw,YB];simp only [est];simp (disch:=omega) only [Yi]) ?_;have last:∀r,r=Res.retO (fl.map (ja7 fl))->C r:=fun r h=>by rw [h];exact fin
 refine last _ ?_;unfold zG;rw [qq (ql rfl) (by rw [Yd];omega) (Jg jr (ja7 fl) fl fun s h=>?_)];refine ⟨[.sh (jr s),.sh ‹"j"›],rfl,rfl,?_⟩;unfold jH;rw [qq (ql rfl) (by rw [Yd];omega) (Jg jC (fun p=>.int (zk s p)) (jj fl) fun p hp=>?_)]
 . unfold ja7 jh;rw [YJ];rfl
 . refine ⟨[.sh (jC p),.sh (jr s)],rfl,rfl,?_⟩;have e:=jeU (hs s h) p;simp (disch:=omega) only [jg,jb,jm,Yl,Yg,jk,Yi,Ye];exact e
theorem jik {fl:List Ship} (hl:fl.length<20):ZC [.lst (fl.map jr)]=some ((fl.map (·.n)).map D.int):=by have e:ZC [.lst (fl.map jr)]=jb6 (Ze [.sh ‹"c"›]):=rfl;rw [e];unfold Ze zG;rw [Za 2 (·.n) (fun s=>ZR) _ 0 rfl (by omega)];rfl
theorem jbn {fl:List Ship} (hl:fl.length<20):Ja [.lst (fl.map jr)]=some (((jj fl).map fun p=>p.2-p.1).map D.int):=by
 have est:=Qt fl hl;have hsl:=JP hl;have e:Ja [.lst (fl.map jr)]=jb6 (Qq [.sh ‹"c"›]):=rfl;rw [e];unfold Qq zG;rw [qq (ql (l:=(jj fl).map jC) (by simp (disch:=omega) only [jH,jg,jb,jm,Yg,jk,Yi,Ye];simp only [est];simp (disch:=omega) only [Yi])) (by rw [Yd];omega) (Jg jC (fun p=>.int (p.2-p.1)) (jj fl) fun p hp=>?_)]
 . rw [YJ];rfl
 . refine ⟨[.sh (jC p)],rfl,rfl,?_⟩;have el:=jco p;simp (disch:=omega) only [jg,jb,jm,Yg,jk,Yi,Ye];exact el
theorem zw {fl:List Ship} (hfl:∀s∈fl,s.Ok) {j:Nat} (h:j<(jj fl).length):0<qh fl j/\qh fl j<2000000000000000:=by
 obtain ⟨h1,h2,h3⟩:=jde (jiT h);have bd:∀k∈JZ fl,-500000000000000<=k/\k<=1000000000000000:=fun k hk=>by
  rcases YV.mp (mem_bnds.mp hk) with z | z
  . obtain ⟨s,hs,rfl⟩:=Y6.mp z;have:=(hfl s hs).lo;have:=(hfl s hs).hi;omega
  . obtain ⟨s,hs,rfl⟩:=Y6.mp z;have:=(hfl s hs).lo;have:=(hfl s hs).hi;have:=(hfl s hs).lt;have:=(hfl s hs).long;omega
 have:=bd _ h2;have:=bd _ h3;unfold qh;omega
def qo (fl:List Ship):List (List Int):=fl.map fun s=>(jj fl).map (zk s)
def jaU (fl:List Ship):List Int:=fl.map (·.n)
def Z2 (n m:Nat):List (List Int):=(List.range n).map fun _=>List.replicate m 0
theorem jee (fl:List Ship):Shape fl.length (jj fl).length (qo fl):=⟨Yd _,fun r hr=>by unfold qo at hr;obtain ⟨s,_,rfl⟩:=Y6.mp hr;rw [Yd]⟩
def shp (fl:List Ship) (i:Nat):Ship:=fl.getD i ⟨0,0,0,0⟩
theorem jbb {fl:List Ship} {i:Nat} (h:i<fl.length):fl[i]?=some (shp fl i):=by unfold shp;rw [Yb,Ya h];rfl
theorem jau {fl:List Ship} {i:Nat} (h:i<fl.length):shp fl i∈fl:=YF (jbb h)
theorem jc1 {fl:List Ship} {i j:Nat} (hi:i<fl.length) (hj:j<(jj fl).length):jY (qo fl) i j=zk (shp fl i) (spn fl j):=by
 unfold jY qo;have e:(fl.map fun s=>(jj fl).map (zk s)).getD i []=(jj fl).map (zk (shp fl i)):=by rw [Yb,List.getElem?_map,jbb hi];rfl
 rw [e,Yb,List.getElem?_map,ja4 hj];rfl
theorem jc0 {fl:List Ship} {i:Nat} (hi:i<fl.length):(jaU fl).getD i 0=(shp fl i).n:=by unfold jaU;rw [Yb,List.getElem?_map,jbb hi];rfl
theorem jjm (fl:List Ship):fl.map (ja7 fl)=(qo fl).map jh:=by unfold qo;rw [YJ];rfl
theorem jdj (n m:Nat):Shape n m (Z2 n m):=⟨by unfold Z2;simp,fun r hr=>by unfold Z2 at hr;obtain ⟨s,_,rfl⟩:=Y6.mp hr;simp⟩
theorem jfy (n m i s:Nat):jY (Z2 n m) i s=0:=by
 unfold jY Z2;by_cases h:i<n
 . rw [Yb (l:=List.map _ _),List.getElem?_map,yw h,Yi,K4,Yb,List.getElem?_replicate];split <;> rfl
 . rw [Yb (l:=List.map _ _),YE (by simp;omega)];rfl
theorem jkK {n m:Nat} {tu:List Int} {tm:List (List Int)} {tF:List Int} (h1:∀i s,i<n->s<m->0<=jY tm i s) (h2:∀i,i<n->0<=tu.getD i 0) (h3:∀s,s<m->0<=tF.getD s 0):Feas n m tu tm tF (Z2 n m):=by
 refine ⟨jdj n m,fun i s hi hs=>?_,fun i hi=>?_,fun s hs=>?_⟩
 . rw [jfy];exact ⟨yY _,h1 i s hi hs⟩
 . rw [Jy (jdj n m) hi,jS fun s _=>jfy n m i s];exact h2 i hi
 . rw [Jp (jdj n m),jS fun i _=>jfy n m i s];exact h3 s hs
theorem jgA (x:D):∀m,(List.replicate m [x]).flatten=List.replicate m x
 | 0=>rfl
 | m+1=>by rw [Y8,KA,jgA x m,Y8];rfl
theorem jeu {n m:Nat} {tm:List (List Int)} (hr:Shape n m tm) (hn:n<1000) (hm:m<1000):QH [.lst (tm.map jh)]=some ((Z2 n m).map jh):=by
 unfold QH;refine jfN (ρ:=[.sh ‹"h"›]) rfl rfl fun C fin=>?_;unfold Z7;refine JN (ZT (l:=(Z2 n m).map jh) ?_) fin;refine qq (ql rfl) (by rw [Yd,hr.1];omega) ?_;have e:(Z2 n m).map jh=tm.map fun _=>jh (List.replicate m 0):=by
  unfold Z2;rw [YJ];apply Kd;intro i;rw [List.getElem?_map,List.getElem?_map];by_cases h:i<n
  . rw [yw h,Ya (by rw [hr.1];exact h)];rfl
  . rw [YE (by simp;omega),YE (by rw [hr.1];omega)];rfl
 rw [e];refine Jg jh (fun _=>jh (List.replicate m 0)) tm fun r hr'=>⟨[.sh (jh r)],rfl,rfl,qw (jy rfl (ju rfl (show qG [jh r]=some (.int (m:Int)) from ?_)) ?_)⟩
 . show some (D.int ((r.map D.int).length:Int))=_;rw [Yd,hr.2 r hr']
 . show (if 0<=(m:Int)/\([D.int 0]:List D).length*(m:Int).toNat<=sizeLine/\(m:Int)<2 ^ 63 then some (List.replicate (m:Int).toNat [D.int 0]).flatten else none)=_;rw [if_pos ⟨by omega,by rw [PySem.sizeLine_eq];simp;omega,by omega⟩,Yq];congr 1;rw [List.map_replicate];exact jgA _ _
def qR (mk:Nat->Bool) (m:Nat):List Nat:=(List.range m).filter fun j=>mk j
theorem jd5 (mk:Nat->Bool) (m:Nat):qR mk (m+1)=qR mk m++if mk m=true then [m] else []:=by unfold qR;rw [List.range_succ,List.filter_append];cases h:mk m <;> simp [h]
theorem jcW (mk:Nat->Bool) (f:Nat->Int):∀m,jw (fun j=>f ((qR mk m).getD j 0)) (qR mk m).length=jw (fun j=>if mk j=true then f j else 0) m
 | 0=>rfl
 | m+1=>by
   show _=jw _ m+(if mk m=true then f m else 0);rw [<-jcW mk f m,jd5];have key:jw (fun j=>f ((qR mk m++if mk m=true then [m] else []).getD j 0)) (qR mk m).length=jw (fun j=>f ((qR mk m).getD j 0)) (qR mk m).length:=ji fun j hj=>by rw [Yb,YC hj,<- Yb]
   cases h:mk m with
   | false=>rw [h] at key;rw [if_neg Yh,if_neg Yh,yH,K1]
   | true=>rw [h,if_pos rfl] at key;rw [if_pos rfl,if_pos rfl,YQ];show jw _ (qR mk m).length+f _=_;rw [key,Yb,Yz (Ys _),Kr];rfl
def J9 (mk:Nat->Bool) (j:Nat):Nat:=(qR mk j).length
theorem jas (mk:Nat->Bool) {m j:Nat} (hj:j<m) (h:mk j=true):J9 mk j<(qR mk m).length/\(qR mk m).getD (J9 mk j) 0=j:=by
 have key:∀m,j<m->∃t,qR mk m=qR mk j++j::t:=by
  intro m;induction m with
  | zero=>intro h;omega
  | succ m ih=>
    intro hjm;rw [jd5];by_cases z:j=m
    . subst z;exact ⟨[],by rw [if_pos h]⟩
    . obtain ⟨t,ht⟩:=ih (by omega);exact ⟨t++if mk m=true then [m] else [],by rw [ht];simp⟩
 obtain ⟨t,ht⟩:=key m hj;unfold J9;rw [ht];refine ⟨by simp,?_⟩;rw [Yb,Yz (Ys _),Kr];rfl
theorem jm3 {mk:Nat->Bool} {m i:Nat} (h:i<(qR mk m).length):(qR mk m).getD i 0<m/\mk ((qR mk m).getD i 0)=true:=by
 have e:(qR mk m)[i]?=some ((qR mk m).getD i 0):=by rw [Yb,Ya h];rfl
 have:=YF e;unfold qR at this;obtain ⟨a,b⟩:=Ku.mp this;exact ⟨KF.mp a,b⟩
def keep (mk:Nat->Bool) (x:List Int):List Int:=(qR mk x.length).map fun j=>x.getD j 0
theorem jiR {mk:Nat->Bool} {x:List Int} {i:Nat} (h:i<(qR mk x.length).length):(keep mk x).getD i 0=x.getD ((qR mk x.length).getD i 0) 0:=by unfold keep;rw [Yb,List.getElem?_map,Yb (l:=qR mk x.length),Ya h];rfl
def zo (room:Nat->Nat->Int) (m:Nat) (mk:Nat->Bool) (i:Nat):Int:=jw (fun s=>if mk s=true then 0 else room i s) m
def qJ (n m:Nat) (need:Nat->Int) (room:Nat->Nat->Int) (mk:Nat->Bool):Int:=jw (fun i=>j2 (need i-zo room m mk i)) n
def zX (m:Nat) (len:Nat->Int) (mk:Nat->Bool):Int:=jw (fun s=>if mk s=true then len s else 0) m
def Jo (n:Nat) (P:Nat->Nat->Int) (s:Nat):Int:=jw (fun i=>P i s) n
def zt (n m:Nat) (len:Nat->Int) (P:Nat->Nat->Int) (k:Int):Int:=jw (fun s=>j2 (Jo n P s-k*len s)) m
structure EvenP (n m:Nat) (need:Nat->Int) (room:Nat->Nat->Int) (len:Nat->Int) (P:Nat->Nat->Int):Prop where
 row:∀i,i<n->jw (P i) m=need i
 cell:∀i s,i<n->s<m->0<=P i s/\P i s<=room i s
 even:∀k,∃mk,zt n m len P k=qJ n m need room mk-k*zX m len mk
theorem jan (x:Int):0<=j2 x/\x<=j2 x:=by unfold j2;split <;> omega
theorem jal {f g:Nat->Int} {n:Nat}:(∀j,j<n->g j<=f j)->jw f n<=jw g n->∀j,j<n->f j=g j:=by
 induction n with
 | zero=>intro _ _ j hj;omega
 | succ n ih=>
   intro h hs j hj;have h1:=qP (f:=g) (g:=f) (n:=n) fun j hj=>h j (by omega);have h2:=h n (by omega);have hs':jw f n+f n<=jw g n+g n:=hs;by_cases z:j=n
   . subst z;omega
   . exact ih (fun j hj=>h j (by omega)) (by omega) j (by omega)
theorem jlj {x y:Int} (h:0<=y):j2 (j2 x-y)=j2 (x-y):=by
 unfold j2;by_cases a:x>0
 . rw [if_pos a]
 . rw [if_neg a,if_neg (by omega),if_neg (by omega)]
theorem jli {x r o:Int} (h0:0<=o) (h1:o<=r):j2 (x-o)=j2 (x-r)+j2 (x-j2 (x-r)-o):=by
 by_cases a:x-r>0
 . have e:j2 (x-r)=x-r:=by unfold j2;rw [if_pos a]
   rw [e];unfold j2;split <;> split <;> omega
 . have e:j2 (x-r)=0:=by unfold j2;rw [if_neg a]
   rw [e,kn,km]
theorem jkz {n m:Nat} {need:Nat->Int} {room:Nat->Nat->Int} {len:Nat->Int} {P:Nat->Nat->Int} {l:Int} (h0:∀i,i<n->0<=need i) (h1:∀i,i<n->need i<=jw (room i) m) (hl:∀s,s<m->0<len s) (row:∀i,i<n->jw (P i) m=need i) (cell:∀i s,i<n->s<m->0<=P i s/\P i s<=room i s)
 (lo:∀s,s<m->l*len s<=Jo n P s) (hi:∀s,s<m->Jo n P s<=(l+1)*len s):EvenP n m need room len P:=by
 refine ⟨row,cell,fun k=>?_⟩;by_cases c:k<=l
 . refine ⟨fun _=>true,?_⟩;have e1:qJ n m need room (fun _=>true)=jw need n:=ji fun i hi'=>by have:zo room m (fun _=>true) i=0:=jS fun s _=>if_pos rfl;rw [this,kn];have:=h0 i hi';unfold j2;split <;> omega
   have e2:zX m len (fun _=>true)=jw len m:=ji fun s _=>if_pos rfl;have e3:zt n m len P k=jw (fun s=>Jo n P s-k*len s) m:=ji fun s hs=>by have a:=lo s hs;have b:k*len s<=l*len s:=YO c (yg (hl s hs));unfold j2;split <;> omega
   rw [e1,e2,e3,zP,zR];have e4:jw (fun s=>Jo n P s) m=jw need n:=by unfold Jo;rw [<-JS];exact ji row
   rw [e4]
 . refine ⟨fun _=>false,?_⟩;have e1:qJ n m need room (fun _=>false)=0:=jS fun i hi'=>by have:zo room m (fun _=>false) i=jw (room i) m:=ji fun s _=>if_neg Yh;rw [this];have:=h1 i hi';unfold j2;split <;> omega
   have e2:zX m len (fun _=>false)=0:=jS fun s _=>if_neg Yh;have e3:zt n m len P k=0:=jS fun s hs=>by have a:=hi s hs;have b:(l+1)*len s<=k*len s:=YO (by omega) (yg (hl s hs));unfold j2;split <;> omega
   rw [e1,e2,e3];omega
def nt (mk:Nat->Bool):Nat->Bool:=fun s=>!mk s
def pl (mk:Nat->Bool) (m t:Nat):Nat:=(qR mk m).getD t 0
theorem jkE (mk:Nat->Bool) (m:Nat):(qR mk m).Nodup:=by unfold qR;exact List.Pairwise.filter _ List.nodup_range
theorem Qa {mk:Nat->Bool} {m t:Nat} (h:t<(qR mk m).length):pl mk m t<m/\mk (pl mk m t)=true:=jm3 h
theorem jc3 {mk:Nat->Bool} {m t:Nat} (h:t<(qR mk m).length):J9 mk (pl mk m t)=t:=by
 obtain ⟨a,b⟩:=Qa h;obtain ⟨c,d⟩:=jas mk a b;have e1:(qR mk m)[J9 mk (pl mk m t)]?=some (pl mk m t):=by
  have e:(qR mk m)[J9 mk (pl mk m t)]?=some ((qR mk m).getD (J9 mk (pl mk m t)) 0):=by rw [Yb,Ya c];rfl
  rw [e,d]
 have e2:(qR mk m)[t]?=some (pl mk m t):=by unfold pl;rw [Yb,Ya h];rfl
 exact Q7 (jkE mk m) e1 e2
theorem zY (M:Nat->Bool) (g:Nat->Int) (m:Nat):jw g m=jw (fun t=>g (pl M m t)) (qR M m).length+jw (fun t=>g (pl (nt M) m t)) (qR (nt M) m).length:=by unfold pl;rw [jcW,jcW,<- qt];refine ji fun s _=>?_;unfold nt;cases M s <;> simp
def ZH (M:Nat->Bool) (A B:Nat->Nat->Int):Nat->Nat->Int:=fun i s=>if M s=true then A i (J9 M s) else B i (J9 (nt M) s)
theorem jhi {M:Nat->Bool} {m t:Nat} (h:t<(qR (nt M) m).length):M (pl (nt M) m t)=false:=by
 have h2:(!M (pl (nt M) m t))=true:=(Qa h).2;cases hM:M (pl (nt M) m t) with
 | false=>rfl
 | true=>rw [hM] at h2;cases h2
theorem jjh {M:Nat->Bool} {m:Nat} {A B:Nat->Nat->Int} {i t:Nat} (h:t<(qR M m).length):ZH M A B i (pl M m t)=A i t:=by unfold ZH;rw [if_pos (show M (pl M m t)=true from (Qa h).2),jc3 h]
theorem ji0 {M:Nat->Bool} {m:Nat} {A B:Nat->Nat->Int} {i t:Nat} (h:t<(qR (nt M) m).length):ZH M A B i (pl (nt M) m t)=B i t:=by unfold ZH;rw [if_neg (by rw [jhi h];exact Yh),jc3 h]
theorem jjN {n m:Nat} {need:Nat->Int} {room:Nat->Nat->Int} {len:Nat->Int} {M:Nat->Bool} {l:Int} {A B:Nat->Nat->Int} (hr:∀i s,i<n->s<m->0<=room i s) (hl:∀s,s<m->0<len s)
 (best:∀mk,qJ n m need room mk-l*zX m len mk<=qJ n m need room M-l*zX m len M)
 (hA:EvenP n (qR M m).length (fun i=>j2 (need i-zo room m M i)) (fun i t=>room i (pl M m t)) (fun t=>len (pl M m t)) A)
 (hB:EvenP n (qR (nt M) m).length (fun i=>need i-j2 (need i-zo room m M i)) ‹"av"› (fun t=>len (pl (nt M) m t)) B) :
 EvenP n m need room len (ZH M A B):=by
 have plH:∀t,t<(qR M m).length->pl M m t<m:=fun t ht=>(Qa ht).1;have plL:∀t,t<(qR (nt M) m).length->pl (nt M) m t<m:=fun t ht=>(Qa ht).1;have hout:∀i,zo room m M i=jw (fun t=>room i (pl (nt M) m t)) (qR (nt M) m).length:=fun i=>by unfold zo;rw [zY M,jS (f:=fun t=>if M (pl M m t)=true then 0 else room i (pl M m t)) fun t ht=>if_pos (Qa ht).2,km];exact ji fun t ht=>if_neg (by rw [jhi ht];exact Yh)
 have hMh:zX m len M=jw (fun t=>len (pl M m t)) (qR M m).length:=by unfold zX;rw [zY M,jS (f:=fun t=>if M (pl (nt M) m t)=true then len (pl (nt M) m t) else 0) fun t ht=>if_neg (by rw [jhi ht];exact Yh),K1];exact ji fun t ht=>if_pos (Qa ht).2
 -- tE within M
 let up:(Nat->Bool)->Nat->Bool:=fun mk s=>M s && mk (J9 M s)
 have upH:∀mk t,t<(qR M m).length->up mk (pl M m t)=mk t:=fun mk t ht=>by show (M _ && mk (J9 M _))=_;rw [(Qa ht).2,jc3 ht];rfl
 have upL:∀mk t,t<(qR (nt M) m).length->up mk (pl (nt M) m t)=false:=fun mk t ht=>by show (M _ && _)=_;rw [jhi ht];rfl
 have upHrs:∀mk,zX m len (up mk)=zX (qR M m).length (fun t=>len (pl M m t)) mk:=fun mk=>by unfold zX;rw [zY M,jS (f:=fun t=>if up mk (pl (nt M) m t)=true then len (pl (nt M) m t) else 0) fun t ht=>if_neg (by rw [upL mk t ht];exact Yh),K1];exact ji fun t ht=>by rw [upH mk t ht]
 have upWant:∀mk,qJ n m need room (up mk)=qJ n (qR M m).length (fun i=>j2 (need i-zo room m M i)) (fun i t=>room i (pl M m t)) mk:=fun mk=>ji fun i hi=>by
  have e:zo room m (up mk) i=zo (fun i t=>room i (pl M m t)) (qR M m).length mk i+zo room m M i:=by rw [hout i];unfold zo;rw [zY M,ji (f:=fun t=>if up mk (pl M m t)=true then 0 else room i (pl M m t)) (g:=fun t=>if mk t=true then 0 else room i (pl M m t)) fun t ht=>by rw [upH mk t ht]];congr 1;exact ji fun t ht=>if_neg (by rw [upL mk t ht];exact Yh)
  have nn:0<=zo (fun i t=>room i (pl M m t)) (qR M m).length mk i:=QL fun t ht=>by
   split
   . exact yY _
   . exact hr i _ hi (plH t ht)
  show j2 (need i-zo room m (up mk) i)=j2 (j2 (need i-zo room m M i)-zo (fun i t=>room i (pl M m t)) (qR M m).length mk i);rw [e,jlj nn];congr 1;omega
 -- all of M, and tE outside
 let dn:(Nat->Bool)->Nat->Bool:=fun mk s=>M s || mk (J9 (nt M) s)
 have dnH:∀mk t,t<(qR M m).length->dn mk (pl M m t)=true:=fun mk t ht=>by show (M _ || _)=_;rw [show M (pl M m t)=true from (Qa ht).2];rfl
 have dnL:∀mk t,t<(qR (nt M) m).length->dn mk (pl (nt M) m t)=mk t:=fun mk t ht=>by show (M _ || mk (J9 _ _))=_;rw [jhi ht,jc3 ht];rfl
 have dnHrs:∀mk,zX m len (dn mk)=zX m len M+zX (qR (nt M) m).length (fun t=>len (pl (nt M) m t)) mk:=fun mk=>by rw [hMh];unfold zX;rw [zY M,ji (f:=fun t=>if dn mk (pl M m t)=true then len (pl M m t) else 0) (g:=fun t=>len (pl M m t)) fun t ht=>if_pos (dnH mk t ht)];congr 1;exact ji fun t ht=>by rw [dnL mk t ht]
 have dnWant:∀mk,qJ n m need room (dn mk)=qJ n m need room M+qJ n (qR (nt M) m).length (fun i=>need i-j2 (need i-zo room m M i)) ‹"av"› mk:=fun mk=>by
  unfold qJ;rw [<-qt];refine ji fun i hi=>?_;have e:zo room m (dn mk) i=zo ‹"av"› (qR (nt M) m).length mk i:=by unfold zo;rw [zY M,jS (f:=fun t=>if dn mk (pl M m t)=true then 0 else room i (pl M m t)) fun t ht=>if_pos (dnH mk t ht),km];exact ji fun t ht=>by rw [dnL mk t ht]
  have le:zo ‹"av"› (qR (nt M) m).length mk i<=zo room m M i:=by rw [hout i];refine qP fun t ht=>?_;have:=hr i _ hi (plL t ht);show (if mk t=true then 0 else room i (pl (nt M) m t))<=_;split <;> omega
  have nn:0<=zo ‹"av"› (qR (nt M) m).length mk i:=QL fun t ht=>by
   split
   . exact yY _
   . exact hr i _ hi (plL t ht)
  rw [e];exact jli nn le
 have eAb:∀k,zt n m len (ZH M A B) k=zt n (qR M m).length (fun t=>len (pl M m t)) A k+zt n (qR (nt M) m).length (fun t=>len (pl (nt M) m t)) B k:=fun k=>by
  unfold zt;rw [zY M];congr 1
  . refine ji fun t ht=>?_;have e:Jo n (ZH M A B) (pl M m t)=Jo n A t:=ji fun i _=>jjh ht;rw [e]
  . refine ji fun t ht=>?_;have e:Jo n (ZH M A B) (pl (nt M) m t)=Jo n B t:=ji fun i _=>ji0 ht;rw [e]
 have lowc:∀t,t<(qR (nt M) m).length->Jo n B t<=l*len (pl (nt M) m t):=by
  obtain ⟨mk,e⟩:=hB.even l;have b:=best (dn mk);rw [dnWant,dnHrs,Int.mul_add] at b;have z:zt n (qR (nt M) m).length (fun t=>len (pl (nt M) m t)) B l<=0:=by omega
  intro t ht;have q:=jal (f:=fun t=>j2 (Jo n B t-l*len (pl (nt M) m t))) (g:=fun _=>0) (fun t _=>(jan _).1) (by rw [jS (f:=fun _=>0) fun _ _=>rfl];exact z) t ht;have:=(jan (Jo n B t-l*len (pl (nt M) m t))).2;omega
 have colA:jw (fun t=>Jo n A t) (qR M m).length=qJ n m need room M:=by unfold Jo qJ;rw [<-JS];exact ji fun i hi=>hA.row i hi
 have highc:∀t,t<(qR M m).length->l*len (pl M m t)<=Jo n A t:=by obtain ⟨mk,e⟩:=hA.even l;have b:=best (up mk);rw [upWant,upHrs,<- e,hMh,<- colA,<- zR,<- zP] at b;intro t ht;have q:=jal (f:=fun t=>j2 (Jo n A t-l*len (pl M m t))) (g:=fun t=>Jo n A t-l*len (pl M m t)) (fun t _=>(jan _).2) b t ht;have:=(jan (Jo n A t-l*len (pl M m t))).1;omega
 refine ⟨fun i hi=>?_,fun i s hi hs=>?_,fun k=>?_⟩
 . rw [zY M,ji (f:=fun t=>ZH M A B i (pl M m t)) (g:=A i) fun t ht=>jjh ht,ji (f:=fun t=>ZH M A B i (pl (nt M) m t)) (g:=B i) fun t ht=>ji0 ht,hA.row i hi,hB.row i hi];omega
 . unfold ZH;by_cases c:M s=true
   . rw [if_pos c];obtain ⟨r1,r2⟩:=jas M hs c;have:=hA.cell i (J9 M s) hi r1;have e:pl M m (J9 M s)=s:=r2;rw [e] at this;exact this
   . rw [if_neg c];have c':nt M s=true:=by unfold nt;simpa using c
     obtain ⟨r1,r2⟩:=jas (nt M) hs c';have:=hB.cell i (J9 (nt M) s) hi r1;have e:pl (nt M) m (J9 (nt M) s)=s:=r2;rw [e] at this;exact this
 . by_cases c:l<=k
   . obtain ⟨mk,e⟩:=hA.even k;refine ⟨up mk,?_⟩;rw [eAb,upWant,upHrs,e];have z:zt n (qR (nt M) m).length (fun t=>len (pl (nt M) m t)) B k=0:=jS fun t ht=>by have a:=lowc t ht;have b:l*len (pl (nt M) m t)<=k*len (pl (nt M) m t):=YO c (yg (hl _ (plL t ht)));show j2 (Jo n B t-k*len (pl (nt M) m t))=0;unfold j2;split <;> omega
     rw [z];omega
   . obtain ⟨mk,e⟩:=hB.even k;refine ⟨dn mk,?_⟩;rw [eAb,dnWant,dnHrs,e];have z:zt n (qR M m).length (fun t=>len (pl M m t)) A k=qJ n m need room M-k*zX m len M:=by rw [hMh,<- colA,<- zR,<- zP];refine ji fun t ht=>?_;have a:=highc t ht;have b:k*len (pl M m t)<=l*len (pl M m t):=YO (by omega) (yg (hl _ (plH t ht)));show j2 (Jo n A t-k*len (pl M m t))=Jo n A t-k*len (pl M m t);unfold j2;split <;> omega
     rw [z,Int.mul_add];omega
def qA (M:List Bool):D:=.lst (M.map D.bl)
theorem jiw {need:Int} {rs:List Int} {M:List Bool} (h:rs.length=M.length) (hl:rs.length<1000):jba [.int need,jh rs,qA M]=some ‹"A"›:=by
 suffices main:∀C:Res->Prop,C (.ret ‹"A"›)->C (Zj [.sh (.int need),.sh (.lst (rs.map D.int)),.sh (.lst (M.map D.bl)),.un]) by exact main (fun r=>jcQ r=some ‹"A"›) rfl
 intro C fin;have hz:Jt (jb (ja 1) (jb (ja 2) jk)) [.sh (.int need),.sh (.lst (rs.map D.int)),.sh (.lst (M.map D.bl)),.un]=some ((rs.zip M).map fun q=>.tup [.int q.1,.bl q.2]):=by unfold Jt;simp (disch:=omega) only [jb,ja,Yl,Yg,jk,Yi,Ye];rw [QN]
 have lc:=qq (m:=Jz 2 ‹"R"›) (ft:=jaf (qQ (ja 1))) (fe:=jm 0) (n:=2) (ix:=[]) hz (by simp;omega)
  (jfr (fun q:Int×Bool=>.tup [.int q.1,.bl q.2]) (fun q=>.int q.1) (fun q=>!q.2) _ fun q _=>⟨[.sh (.int q.1),.sh (.bl q.2)],rfl,rfl,rfl⟩)
 have ss:=jiB (fun b=>!b) rs M h;have s1:Qb [.lst ((((rs.zip M).filter fun q=>!q.2).map fun q=>D.int q.1))]=some (.int (jw (fun j=>if M.getD j false=true then 0 else rs.getD j 0) rs.length)):=by have:=jbi (((rs.zip M).filter fun q=>!q.2).map (·.1));rw [YJ] at this;refine this.trans ?_;congr 2;refine ss.trans (ji fun j hj=>?_);cases M.getD j false <;> rfl
 unfold Zj;refine jJ [.sh (.int need),.sh (.lst (rs.map D.int)),.sh (.lst (M.map D.bl)),.sh (.int (jw (fun j=>if M.getD j false=true then 0 else rs.getD j 0) rs.length))] (by simp (disch:=omega) only [jG,jg,jb,jH,jk,Yi,Yw,YB];simp only [lc];simp (disch:=omega) only [Yi,Ye];simp only [s1]) ?_
 have last:∀r,r=Res.ret ‹"A"›->C r:=fun r h=>by rw [h];exact fin
 refine last _ ?_;simp (disch:=omega) only [qv,jg,jb,jq,ja,Yg,Yl,Ye,qy,eC,jk,Yi,jaO];rw [jqT]
theorem jkI (x:List Int) (M:List Bool) (h:x.length=M.length):x.zip M=(List.range x.length).map fun j=>(x.getD j 0,M.getD j false):=by
 apply Kd;intro i;rw [List.getElem?_map];by_cases hi:i<x.length
 . rw [yw hi,Yi,YT.mpr ⟨_,_⟩]
   . show x[i]?=some (x.getD i 0);rw [Yb,Ya hi];rfl
   . have hi':i<M.length:=by omega
     show M[i]?=some (M.getD i false);rw [Yb,Ya hi'];rfl
 . rw [YE (by simp;omega),YE (by simp;omega)];rfl
def Jk (M:List Bool) (b:Bool):Nat->Bool:=fun j=>M.getD j false == b
theorem jeZ {x:List Int} {M:List Bool} (h:x.length=M.length) (hl:x.length<1000) (b:Bool):Zw [jh x,qA M,.bl b]=some ((keep (Jk M b) x).map D.int):=by
 unfold Zw;refine jfN (ρ:=[.sh (jh x),.sh (qA M),.sh (.bl b)]) rfl rfl fun C fin=>?_;unfold jh1;refine JN (ZT (l:=(keep (Jk M b) x).map D.int) ?_) fin;have hz:Jt (jb (ja 0) (jb (ja 1) jk)) [.sh (jh x),.sh (qA M),.sh (.bl b)]=some ((x.zip M).map fun q=>.tup [.int q.1,.bl q.2]):=by show some (ja1 (x.map D.int) (M.map D.bl))=_;rw [QN]
 refine (qq hz (by simp;omega) (jfr (fun q:Int×Bool=>.tup [.int q.1,.bl q.2]) (fun q=>.int q.1) (fun q=>q.2 == b) _ fun q _=>⟨[.sh (.int q.1),.sh (.bl q.2),.sh (.bl b)],rfl,jZ ((jy rfl rfl jqF).trans ?_),rfl⟩)).trans ?_
 . cases q.2 <;> cases b <;> rfl
 . rw [jkI x M h,List.filter_map,YJ];unfold keep qR Jk;rw [YJ];rfl
theorem jdK (M:List Bool) (b:Bool):∀j,j<=M.length->(M.take j).countP (· == b)=J9 (Jk M b) j
 | 0,_=>by simp [J9,qR]
 | j+1,h=>by
   have hj:j<M.length:=by omega
   have e:M.take (j+1)=M.take j++[M.getD j false]:=by rw [List.take_succ,Yb,Ya hj];rfl
   rw [e,List.countP_append,jdK M b j (by omega)];unfold J9;rw [jd5];unfold Jk;cases hb:(M.getD j false == b) with
   | true=>rw [if_pos rfl,YQ,List.countP_cons_of_pos (by simpa using hb)];rfl
   | false=>rw [if_neg Yh,yH,List.countP_cons_of_neg (by simpa using hb)];rfl
def jv (M:List Bool) (A B:List Int) (j:Nat):Int:=if M.getD j false=true then A.getD (J9 (Jk M true) j) 0 else B.getD (J9 (Jk M false) j) 0
def jbv (M:List Bool) (A B:List Int):List Int:=(List.range M.length).map (jv M A B)
theorem Z4:∀M:List Bool,jex (M.map D.bl)=some M
 | []=>rfl
 | b::M=>by show (jex (M.map D.bl)).map (b::·)=_;rw [Z4 M];rfl
theorem jgp {A B:List Int} {M:List Bool} (hl:M.length<1000) (hA:A.length=(qR (Jk M true) M.length).length) (hB:B.length=(qR (Jk M false) M.length).length):jbG [jh A,jh B,qA M]=some ((jbv M A B).map D.int):=by
 unfold jbG;refine jfN (ρ:=[.sh (jh A),.sh (jh B),.sh (qA M),.un,.un,.un,.un]) rfl rfl fun C fin=>?_;unfold jdB;refine jJ [.sh (jh A),.sh (jh B),.sh (qA M),.ow [],.un,.un,.un] rfl ?_;refine jd8 (fun j:Nat=>.tup [.int (j:Int),.bl (M.getD j false)]) M.length (fun j ρ=>∃x y z,ρ=[.sh (jh A),.sh (jh B),.sh (qA M),.ow (((List.range j).map (jv M A B)).map D.int),x,y,z]) ?_ ⟨_,_,_,rfl⟩ ?_ ?_
 . show some (jaH (M.map D.bl))=_;rw [jbo D.bl false]
 . rintro j ρ hj ⟨x,y,z,rfl⟩;have ec:eBM jdb (jH (eSl (ja 2) pNo (pSo (ja 4)))) (jb (jm 5) jk) ‹"B"›=some (.int ((J9 (Jk M (M.getD j false)) j:Nat):Int)):=by
    have es:jH (eSl (ja 2) pNo (pSo (ja 4))) ‹"B"›=some (.lst ((M.take j).map D.bl)):=by refine qw ?_;show some (L2.jcR (M.map D.bl) none (some (j:Int)))=_;rw [jl0 j (by rw [Yd];omega),List.map_take]
    unfold eBM;rw [es,js rfl rfl];show (jex ((M.take j).map D.bl)).map _=_;rw [Z4];show some (D.int (((M.take j).countP (· == M.getD j false):Nat):Int))=_;rw [jdK M _ j (by omega)]
   have ev:eIf (qQ (ja 5)) (jq jO (ja 0) (ja 6)) (jq jO (ja 1) (ja 6)) [.sh (jh A),.sh (jh B),.sh (qA M),.ow (((List.range j).map (jv M A B)).map D.int),.sh (.int j),.sh (.bl (M.getD j false)),.sh (.int ((J9 (Jk M (M.getD j false)) j:Nat):Int))]=some (.int (jv M A B j)):=by
    unfold eIf jv;rw [jZ (b:=M.getD j false) rfl];cases hb:M.getD j false with
    | true=>obtain ⟨r1,_⟩:=jas (Jk M true) hj (by unfold Jk;rw [hb];rfl);rw [if_pos rfl];exact jy rfl rfl (JB (by omega))
    | false=>obtain ⟨r1,_⟩:=jas (Jk M false) hj (by unfold Jk;rw [hb];rfl);rw [if_neg Yh];exact jy rfl rfl (JB (by omega))
   refine ⟨‹"B"›,[.sh (jh A),.sh (jh B),.sh (qA M),.ow (((List.range (j+1)).map (jv M A B)).map D.int),.sh (.int j),.sh (.bl (M.getD j false)),.sh (.int ((J9 (Jk M (M.getD j false)) j:Nat):Int))],rfl,?_,_,_,_,rfl⟩;rw [List.range_succ,YW,YW];exact (qD (j8 ec)).trans (jok rfl ev (by simp;omega))
 . rintro ρ ⟨x,y,z,rfl⟩;exact fin
structure Prob (n m:Nat) (tu:List Int) (tm:List (List Int)) (tD:List Int):Prop where
 nl:tu.length=n
 sh:Shape n m tm
 hl:tD.length=m
 n0:∀i,i<n->0<=tu.getD i 0
 n1:∀i,i<n->tu.getD i 0<=jw (jY tm i) m
 r0:∀i s,i<n->s<m->0<=jY tm i s
 h0:∀s,s<m->0<tD.getD s 0
 h1:jw ‹"M"› m<=1000000000000000000
abbrev jdp (n m:Nat) (tu:List Int) (tm:List (List Int)) (tD:List Int) (P:List (List Int)):Prop:=EvenP n m ‹"v"› (jY tm) ‹"M"› (jY P)
theorem jlS {f:Nat->Int} {n j:Nat} (h:∀j,j<n->0<=f j) (hj:j<n):f j<=jw f n:=by
 induction n with
 | zero=>omega
 | succ n ih=>
   have h1:=QL (f:=f) (n:=n) fun j hj=>h j (by omega);have h2:=h n (by omega);show f j<=jw f n+f n;by_cases z:j=n
   . subst z;omega
   . have:=ih (fun j hj=>h j (by omega)) (by omega);omega
theorem jeh {tD:List Int} {l:Int} {s:Nat} (h:s<tD.length):(tD.map (l * ·)).getD s 0=l*tD.getD s 0:=by rw [Yb,List.getElem?_map,Ya h,Yb,Ya h];rfl
theorem job {n m:Nat} {tu:List Int} {tm:List (List Int)} {tD:List Int} (hh:tD.length=m) (l:Int) (mk:Nat->Bool):jj3 mk tu tm (tD.map (l * ·)) n m=l*zX m ‹"M"› mk+(jw ‹"v"› n-qJ n m ‹"v"› (jY tm) mk):=by
 unfold jj3 zX qJ;rw [<-zR,<- zP];congr 1;refine ji fun s hs=>?_;by_cases c:mk s=true
 . rw [if_pos c,if_pos c];exact jeh (by omega)
 . rw [if_neg c,if_neg c,Int.mul_zero]
theorem jn8 {n m:Nat} {tu:List Int} {tm:List (List Int)} {tD:List Int} {l:Int} {P0 P:List (List Int)} {tE:List Bool} (hh:tD.length=m) (F:Fill n m tu tm (tD.map (l * ·)) P0 P tE) (mk:Nat->Bool) :
 qJ n m ‹"v"› (jY tm) mk-l*zX m ‹"M"› mk<=qJ n m ‹"v"› (jY tm) ‹"Y"›-l*zX m ‹"M"› ‹"Y"›:=by
 have h1:=jkZ F;have h2:=jpn mk F.feas;rw [job hh] at h1 h2;omega
theorem jlN {n m:Nat} {need:Nat->Int} {room:Nat->Nat->Int} {mk mk':Nat->Bool} (h:∀s,s<m->mk s=mk' s):qJ n m need room mk=qJ n m need room mk':=ji fun i _=>by
 have:zo room m mk i=zo room m mk' i:=ji fun s hs=>by rw [h s hs]
 rw [this]
theorem jnf {m:Nat} {len:Nat->Int} {mk mk':Nat->Bool} (h:∀s,s<m->mk s=mk' s):zX m len mk=zX m len mk':=ji fun s hs=>by rw [h s hs]
theorem QE (M:List Bool) (s:Nat):Jk M true s=M.getD s false:=by unfold Jk;cases M.getD s false <;> rfl
theorem jb1 (M:List Bool) (s:Nat):Jk M false s=nt (Jk M true) s:=by unfold nt;rw [QE];unfold Jk;cases M.getD s false <;> rfl
theorem jic (M:List Bool):Jk M false=nt (Jk M true):=funext (jb1 M)
def ZS (mk:Nat->Bool) (m:Nat) (R:List (List Int)):List (List Int):=R.map fun r=>keep mk r
theorem jgn {mk:Nat->Bool} {x:List Int}:(keep mk x).length=(qR mk x.length).length:=Yd _
theorem jla {n m:Nat} {R:List (List Int)} (h:Shape n m R) (mk:Nat->Bool):Shape n (qR mk m).length (ZS mk m R):=⟨by unfold ZS;rw [Yd];exact h.1,fun r hr=>by unfold ZS at hr;obtain ⟨q,hq,rfl⟩:=Y6.mp hr;rw [jgn,h.2 q hq]⟩
theorem jbN {n m:Nat} {R:List (List Int)} (h:Shape n m R) (mk:Nat->Bool) {i t:Nat} (hi:i<n) (ht:t<(qR mk m).length):jY (ZS mk m R) i t=jY R i (pl mk m t):=by
 have e:(ZS mk m R).getD i []=keep mk (R.getD i []):=by unfold ZS;rw [Yb,List.getElem?_map,(h.row hi).1];rfl
 unfold jY pl;rw [e,jiR (by rw [(h.row hi).2];exact ht),(h.row hi).2]
theorem jbw {m:Nat} {x:List Int} (h:x.length=m) (mk:Nat->Bool) {t:Nat} (ht:t<(qR mk m).length):(keep mk x).getD t 0=x.getD (pl mk m t) 0:=by unfold pl;rw [jiR (by rw [h];exact ht),h]
theorem jd7 {n m:Nat} {need need':Nat->Int} {room room':Nat->Nat->Int} {len len':Nat->Int} {P:Nat->Nat->Int} (h:EvenP n m need room len P) (h1:∀i,i<n->need i=need' i) (h2:∀i s,i<n->s<m->room i s=room' i s) (h3:∀s,s<m->len s=len' s):EvenP n m need' room' len' P:=by
 refine ⟨fun i hi=>(h.row i hi).trans (h1 i hi),fun i s hi hs=>by rw [<-h2 i s hi hs];exact h.cell i s hi hs,fun k=>?_⟩;obtain ⟨mk,e⟩:=h.even k;refine ⟨mk,?_⟩;have e1:zt n m len P k=zt n m len' P k:=ji fun s hs=>by rw [h3 s hs]
 have e2:qJ n m need room mk=qJ n m need' room' mk:=ji fun i hi=>by
  have:zo room m mk i=zo room' m mk i:=ji fun s hs=>by rw [h2 i s hi hs]
  rw [this,h1 i hi]
 have e3:zX m len mk=zX m len' mk:=ji fun s hs=>by rw [h3 s hs]
 rw [<-e1,<- e2,<- e3];exact e
theorem jgw {n m:Nat} {need:Nat->Int} {room:Nat->Nat->Int} {len:Nat->Int} {P P':Nat->Nat->Int} (h:EvenP n m need room len P) (hP:∀i s,i<n->s<m->P i s=P' i s):EvenP n m need room len P':=by refine ⟨fun i hi=>by rw [<-h.row i hi];exact ji fun s hs=>(hP i s hi hs).symm,fun i s hi hs=>by rw [<-hP i s hi hs];exact h.cell i s hi hs,fun k=>?_⟩;obtain ⟨mk,e⟩:=h.even k;refine ⟨mk,?_⟩;rw [<-e];refine ji fun s hs=>?_;have:Jo n P' s=Jo n P s:=ji fun i hi=>(hP i s hi hs).symm;rw [this]
theorem jng (mk:Nat->Bool) (m:Nat):(qR mk m).length+(qR (nt mk) m).length=m:=by
 have h:=zY mk (fun _=>1) m;have one:∀n:Nat,jw (fun _=>1) n=(n:Int):=fun n=>by
  induction n with
  | zero=>rfl
  | succ n ih=>show jw _ n+1=_;rw [ih];omega
 rw [one,one,one] at h;omega
def ZL (tu:List Int) (tm:List (List Int)) (M:List Bool):List Int:=(tu.zip tm).map fun q=>j2 (q.1-jw (fun j=>if M.getD j false=true then 0 else q.2.getD j 0) q.2.length)
def jft (tu ins:List Int):List Int:=(tu.zip ins).map fun q=>q.1-q.2
theorem jpy {n m:Nat} {tu:List Int} {tm:List (List Int)} {M:List Bool} (h:tu.length=n) (hr:Shape n m tm) {i:Nat} (hi:i<n):(ZL tu tm M).getD i 0=j2 (tu.getD i 0-zo (jY tm) m (Jk M true) i):=by
 have e:(tu.zip tm)[i]?=some (tu.getD i 0,tm.getD i []):=by rw [YT];refine ⟨?_,(hr.row hi).1⟩;show tu[i]?=some (tu.getD i 0);rw [Yb,Ya (by omega)];rfl
 unfold ZL;rw [Yb,List.getElem?_map,e];show j2 (tu.getD i 0-jw _ (tm.getD i []).length)=_;rw [(hr.row hi).2];congr 2;refine ji fun s _=>?_;rw [QE];rfl
theorem jqn {n:Nat} {tu ins:List Int} (h:tu.length=n) (h':ins.length=n) {i:Nat} (hi:i<n):(jft tu ins).getD i 0=tu.getD i 0-ins.getD i 0:=by
 have e:(tu.zip ins)[i]?=some (tu.getD i 0,ins.getD i 0):=by
  rw [YT];refine ⟨?_,?_⟩
  . show tu[i]?=some (tu.getD i 0);rw [Yb,Ya (by omega)];rfl
  . show ins[i]?=some (ins.getD i 0);rw [Yb,Ya (by omega)];rfl
 unfold jft;rw [Yb,List.getElem?_map,e];rfl
theorem jdI {m:Nat} (mk:Nat->Bool) (f:Nat->Int):jw (fun t=>f (pl mk m t)) (qR mk m).length=jw (fun s=>if mk s=true then f s else 0) m:=jcW mk f m
theorem jgM {n m:Nat} {tu:List Int} {tm:List (List Int)} {tD:List Int} (Pb:Prob n m tu tm tD) (mk:Nat->Bool) {ns:List Int} (hl:ns.length=n) (h0:∀i,i<n->0<=ns.getD i 0) (h1:∀i,i<n->ns.getD i 0<=jw (fun t=>jY tm i (pl mk m t)) (qR mk m).length) :
 Prob n (qR mk m).length ns (ZS mk m tm) (keep mk tD):=by
 refine ⟨hl,jla Pb.sh mk,by rw [jgn,Pb.hl],h0,fun i hi=>?_,fun i t hi ht=>?_,fun t ht=>?_,?_⟩
 . rw [ji fun t ht=>jbN Pb.sh mk hi ht];exact h1 i hi
 . rw [jbN Pb.sh mk hi ht];exact Pb.r0 i _ hi (Qa ht).1
 . rw [jbw Pb.hl mk ht];exact Pb.h0 _ (Qa ht).1
 . rw [ji fun t ht=>jbw Pb.hl mk ht,jdI mk fun s=>tD.getD s 0];refine KN (qP fun s hs=>?_) Pb.h1;have:=Pb.h0 s hs;split <;> omega
theorem jgJ {k n m:Nat} {tu:List Int} {tm:List (List Int)} {tD:List Int} (Pb:Prob n m tu tm tD) (hn:n<1000) (hm:m<1000) {M:List Bool} (hM:M.length=m) {l:Int}
 (best:∀mk,qJ n m ‹"v"› (jY tm) mk-l*zX m ‹"M"› mk<=qJ n m ‹"v"› (jY tm) (Jk M true)-l*zX m ‹"M"› (Jk M true))
 (IH:∀m' needs' rooms' hours',Prob n m' needs' rooms' hours'->m'<1000->0<m'->m'<=k->∃d,(∃P,d=.lst (P.map jh)/\Shape n m' P/\jdp n m' needs' rooms' hours' P)/\zU k [.lst (needs'.map D.int),.lst (rooms'.map jh),.lst (hours'.map D.int)]=some d)
 (hH:0<(qR (Jk M true) m).length) (hL:0<(qR (Jk M false) m).length) (hk:m<=k+1) :
 ∃d,(∃P,d=P.map jh/\Shape n m P/\jdp n m tu tm tD P)/\Jq 4 8 (qN (zU k)) [.lst (tu.map D.int),.lst (tm.map jh),.lst (tD.map D.int),qA M]=some d:=by
 have hadd:=jng (Jk M true) m;rw [<-jic] at hadd;have hil:(ZL tu tm M).length=n:=by unfold ZL;rw [Yd,yA,Pb.nl,Pb.sh.1,kl]
 have hol:(jft tu (ZL tu tm M)).length=n:=by unfold jft;rw [Yd,yA,Pb.nl,hil,kl]
 have iat:=fun i (hi:i<n)=>jpy (M:=M) Pb.nl Pb.sh hi;have oat:=fun i (hi:i<n)=>jqn (ins:=ZL tu tm M) Pb.nl hil hi;have hsplit:∀i,i<n->jw (jY tm i) m=jw (fun t=>jY tm i (pl (Jk M true) m t)) (qR (Jk M true) m).length+zo (jY tm) m (Jk M true) i:=fun i hi=>by rw [jdI (Jk M true) (jY tm i)];unfold zo;rw [<-qt];refine ji fun s _=>?_;split <;> omega
 have hout:∀i,zo (jY tm) m (Jk M true) i=jw (fun t=>jY tm i (pl (Jk M false) m t)) (qR (Jk M false) m).length:=fun i=>by rw [jdI (Jk M false) (jY tm i)];refine ji fun s _=>?_;rw [jb1];unfold nt;cases Jk M true s <;> simp
 have onn:∀i,i<n->0<=zo (jY tm) m (Jk M true) i:=fun i hi=>QL fun s hs=>by have:=Pb.r0 i s hi hs;split <;> omega
 have p1:Prob n (qR (Jk M true) m).length (ZL tu tm M) (ZS (Jk M true) m tm) (keep (Jk M true) tD):=jgM Pb _ hil (fun i hi=>by rw [iat i hi];exact (jan _).1) (fun i hi=>by rw [iat i hi];have h1:=Pb.n1 i hi;rw [hsplit i hi] at h1;have h2:0<=jw (fun t=>jY tm i (pl (Jk M true) m t)) (qR (Jk M true) m).length:=QL fun t ht=>Pb.r0 i _ hi (Qa ht).1;unfold j2;split <;> omega)
 have p2:Prob n (qR (Jk M false) m).length (jft tu (ZL tu tm M)) (ZS (Jk M false) m tm) (keep (Jk M false) tD):=jgM Pb _ hol (fun i hi=>by
  rw [oat i hi,iat i hi];have h1:=Pb.n0 i hi;have h2:=onn i hi;unfold j2;split <;> omega) (fun i hi=>by
  rw [oat i hi,iat i hi,<- hout i];have h2:=onn i hi;unfold j2;split <;> omega)
 obtain ⟨d1,⟨P1,rfl,s1,ev1⟩,e1⟩:=IH _ _ _ _ p1 (by omega) hH (by omega);obtain ⟨d2,⟨P2,rfl,s2,ev2⟩,e2⟩:=IH _ _ _ _ p2 (by omega) hL (by omega);have kr:∀b (ρ:ef) (i:Nat),ja i ρ=some ‹"h"›->JE 1 [3] ρ=[.un,.sh (qA M)]->∀fe,(∀r:List Int,r∈tm->fe [.sh (jh r),.sh (qA M)]=some (jh (keep (Jk M b) r)))->JC (j3 (ja i)) (jz 0) ‹"l"› fe 1 [3] ρ=some ((ZS (Jk M b) m tm).map jh):=fun b ρ i h1 h2 fe h3=>by refine qq (ql h1) (by rw [Yd,Pb.sh.1];omega) ?_;rw [h2];unfold ZS;rw [YJ];exact Jg jh (jh∘fun r=>keep (Jk M b) r) tm fun r hr=>⟨[.sh (jh r),.sh (qA M)],rfl,rfl,h3 r hr⟩
 have kf:∀b (r:List Int),r∈tm->Zw [jh r,qA M,.bl b]=some ((keep (Jk M b) r).map D.int):=fun b r hr=>jeZ (by rw [Pb.sh.2 r hr,hM]) (by rw [Pb.sh.2 r hr];exact hm) b;have kh:∀b,Zw [.lst (tD.map D.int),qA M,.bl b]=some ((keep (Jk M b) tD).map D.int):=fun b=>jeZ (x:=tD) (by rw [Pb.hl,hM]) (by rw [Pb.hl];exact hm) b;refine jjt (ρ:=[.sh ‹"k"›,.sh ‹"h"›,.sh ‹"2"›,.sh (qA M),.un,.un,.un,.un]) _ rfl rfl fun C fin=>?_;unfold qN;refine jJ [.sh ‹"k"›,.sh ‹"h"›,.sh ‹"2"›,.sh (qA M),.sh (.lst ((ZL tu tm M).map D.int)),.un,.un,.un] (zb ?_) ?_
 . refine (qq (ds:=(tu.zip tm).map fun q=>.tup [.int q.1,jh q.2]) (by show some (ja1 (tu.map D.int) (tm.map jh))=_;rw [QN]) (by rw [Yd,yA,Pb.nl];omega) (Jg (fun q:Int×List Int=>.tup [.int q.1,jh q.2]) (fun q=>.int (j2 (q.1-jw (fun j=>if M.getD j false=true then 0 else q.2.getD j 0) q.2.length))) _ fun q hq=>⟨[.sh (.int q.1),.sh (jh q.2),.sh (qA M)],rfl,rfl,ju rfl (jiw ?_ ?_)⟩)).trans ?_
   . rw [Pb.sh.2 _ (yG hq).2,hM]
   . rw [Pb.sh.2 _ (yG hq).2];exact hm
   . unfold ZL;rw [YJ];rfl
 refine jJ [.sh ‹"k"›,.sh ‹"h"›,.sh ‹"2"›,.sh (qA M),.sh (.lst ((ZL tu tm M).map D.int)),.sh (.lst ((jft tu (ZL tu tm M)).map D.int)),.un,.un] (zb ?_) ?_
 . refine (qq (ds:=(tu.zip (ZL tu tm M)).map fun q=>.tup [.int q.1,.int q.2]) (by show some (ja1 (tu.map D.int) ((ZL tu tm M).map D.int))=_;rw [QN]) (by rw [Yd,yA,Pb.nl];omega) (Jg (fun q:Int×Int=>.tup [.int q.1,.int q.2]) (fun q=>.int (q.1-q.2)) _ fun q hq=>⟨[.sh (.int q.1),.sh (.int q.2)],rfl,rfl,jy rfl rfl qy⟩)).trans ?_;unfold jft;rw [YJ];rfl
 refine jJ [.sh ‹"k"›,.sh ‹"h"›,.sh ‹"2"›,.sh (qA M),.sh (.lst ((ZL tu tm M).map D.int)),.sh (.lst ((jft tu (ZL tu tm M)).map D.int)),.sh (.lst (P1.map jh)),.un] (j8 (ju (js rfl (js (qw (kr true _ 1 rfl rfl _ fun r hr=>qw (ju rfl (kf true r hr)))) (js (qw (ju rfl (kh true))) rfl))) e1)) ?_;refine jJ [.sh ‹"k"›,.sh ‹"h"›,.sh ‹"2"›,.sh (qA M),.sh (.lst ((ZL tu tm M).map D.int)),.sh (.lst ((jft tu (ZL tu tm M)).map D.int)),.sh (.lst (P1.map jh)),.sh (.lst (P2.map jh))] (j8 (ju (js rfl (js (qw (kr false _ 1 rfl rfl _ fun r hr=>qw (ju rfl (kf false r hr)))) (js (qw (ju rfl (kh false))) rfl))) e2)) ?_;refine JN (ZT (l:=((P1.zip P2).map fun q=>jbv M q.1 q.2).map jh) ?_) (fin _ ⟨(P1.zip P2).map fun q=>jbv M q.1 q.2,rfl,?_,?_⟩)
 . refine (qq (ds:=(P1.zip P2).map fun q=>.tup [jh q.1,jh q.2]) (by show some (ja1 (P1.map jh) (P2.map jh))=_;rw [QN]) (by rw [Yd,yA,s1.1];omega) (Jg (fun q:List Int×List Int=>.tup [jh q.1,jh q.2]) (fun q=>jh (jbv M q.1 q.2)) _ fun q hq=>⟨[.sh (jh q.1),.sh (jh q.2),.sh (qA M)],rfl,rfl,qw (ju rfl (jgp (by omega) ?_ ?_))⟩)).trans ?_
   . rw [s1.2 _ (yG hq).1,hM]
   . rw [s2.2 _ (yG hq).2,hM]
   . rw [YJ];rfl
 . refine ⟨by rw [Yd,yA,s1.1,s2.1,kl],fun r hr=>?_⟩;obtain ⟨q,_,rfl⟩:=Y6.mp hr;unfold jbv;simp [hM]
 . have ev1':EvenP n (qR (Jk M true) m).length (fun i=>j2 (tu.getD i 0-zo (jY tm) m (Jk M true) i)) (fun i t=>jY tm i (pl (Jk M true) m t)) (fun t=>tD.getD (pl (Jk M true) m t) 0) (jY P1):=jd7 ev1 (fun i hi=>iat i hi) (fun i t hi ht=>jbN Pb.sh _ hi ht) (fun t ht=>jbw Pb.hl _ ht);have ev2':EvenP n (qR (nt (Jk M true)) m).length (fun i=>tu.getD i 0-j2 (tu.getD i 0-zo (jY tm) m (Jk M true) i)) (fun i t=>jY tm i (pl (nt (Jk M true)) m t)) (fun t=>tD.getD (pl (nt (Jk M true)) m t) 0) (jY P2):=by rw [<-jic];exact jd7 ev2 (fun i hi=>by rw [oat i hi,iat i hi]) (fun i t hi ht=>jbN Pb.sh _ hi ht) (fun t ht=>jbw Pb.hl _ ht)
   refine jgw (jjN (len:=fun s=>tD.getD s 0) Pb.r0 Pb.h0 best ev1' ev2') fun i s hi hs=>?_;have e:((P1.zip P2).map fun q=>jbv M q.1 q.2).getD i []=jbv M (P1.getD i []) (P2.getD i []):=by have e0:(P1.zip P2)[i]?=some (P1.getD i [],P2.getD i []):=YT.mpr ⟨(s1.row hi).1,(s2.row hi).1⟩;rw [Yb,List.getElem?_map,e0];rfl
   have e2:jY ((P1.zip P2).map fun q=>jbv M q.1 q.2) i s=jv M (P1.getD i []) (P2.getD i []) s:=by unfold jY;rw [e];unfold jbv;rw [Yb (l:=List.map _ _),List.getElem?_map,yw (by rw [hM];exact hs)];rfl
   rw [e2];unfold jv ZH;rw [QE,<- jic];rfl
theorem jlW {n m:Nat} {P:List (List Int)} (h:Shape n m P):zD P n=jw (fun s=>jL P s) m:=by unfold zD;rw [ji (f:=zW P) fun i hi=>Jy h hi,JS];exact ji fun s _=>(Jp h s).symm
theorem jhb {mk:Nat->Bool} {m:Nat} (h:¬0<(qR mk m).length):∀s,s<m->mk s=false:=fun s hs=>by
 cases c:mk s with
 | false=>rfl
 | true=>exact absurd (yz (yE _) (jas mk hs c).1) h
theorem jcL {n m:Nat} {tu:List Int} {tm:List (List Int)} {tD:List Int} (Pb:Prob n m tu tm tD) {l:Int} {P0 P:List (List Int)} {M:List Bool} (F:Fill n m tu tm (tD.map (l * ·)) P0 P M)
 (h1:zD P n≠jw ‹"v"› n) (h2:zD P n≠l*jw ‹"M"› m):0<(qR (Jk M true) m).length/\0<(qR (Jk M false) m).length:=by
 have e:=jkZ F;rw [job Pb.hl] at e;constructor
 . refine Classical.byContradiction fun c=>h1 ?_;have z:∀s,s<m->M.getD s false=false:=fun s hs=>by rw [<-QE];exact jhb c s hs
   have e1:zX m ‹"M"› (fun s=>M.getD s false)=0:=jS fun s hs=>if_neg (by show ¬M.getD s false=true;rw [z s hs];exact Yh);have e2:qJ n m ‹"v"› (jY tm) (fun s=>M.getD s false)=0:=jS fun i hi=>by have e3:zo (jY tm) m (fun s=>M.getD s false) i=jw (jY tm i) m:=ji fun s hs=>if_neg (by show ¬M.getD s false=true;rw [z s hs];exact Yh);have:=Pb.n1 i hi;show j2 (tu.getD i 0-_)=0;rw [e3];unfold j2;split <;> omega
   rw [e,e1,e2];omega
 . refine Classical.byContradiction fun c=>h2 ?_;have z:∀s,s<m->M.getD s false=true:=fun s hs=>by have:=jhb c s hs;rw [jb1] at this;unfold nt at this;rw [QE] at this;simpa using this
   have e1:zX m ‹"M"› (fun s=>M.getD s false)=jw ‹"M"› m:=ji fun s hs=>if_pos (z s hs);have e2:qJ n m ‹"v"› (jY tm) (fun s=>M.getD s false)=jw ‹"v"› n:=ji fun i hi=>by have e3:zo (jY tm) m (fun s=>M.getD s false) i=0:=jS fun s hs=>if_pos (z s hs);have:=Pb.n0 i hi;show j2 (tu.getD i 0-_)=_;rw [e3];unfold j2;split <;> omega
   rw [e,e1,e2];omega
theorem jiW {tD:List Int} (hl:tD.length<1000) {l l':Int} (hb:∀h∈tD,-18446744073709551616<h/\h<18446744073709551616) {fl:ef->Option D} (hf:∀h:Int,fl [.sh (.int h),.sh (.int l)]=some (.int l')) {a b x y:Slot} :
 JC (j3 (ja 2)) (jz 0) ‹"l"› (jq qS fl (ja 0)) 1 [3] [a,b,.sh ‹"2"›,.sh (.int l),x,y]=some ((tD.map (l' * ·)).map D.int):=by
 refine qq (ql rfl) (by rw [Yd];omega) ?_;rw [YJ];exact Jg D.int (D.int∘fun h=>l' * h) tD fun h hh=>⟨[.sh (.int h),.sh (.int l)],rfl,rfl,jy (hf h) rfl (JD (hb h hh).1 (hb h hh).2)⟩
theorem jeD (n:Nat) (hn:n<1000):∀(k m:Nat) (tu:List Int) (tm:List (List Int)) (tD:List Int),Prob n m tu tm tD->m<1000->0<m->m<=k->∃d,(∃P,d=.lst (P.map jh)/\Shape n m P/\jdp n m tu tm tD P)/\zU k [.lst (tu.map D.int),.lst (tm.map jh),.lst (tD.map D.int)]=some d
 | 0,m,_,_,_,_,_,h0,h1=>by omega
 | k+1,m,tu,tm,tD,Pb,hm,h0,h1=>by
   have hsn:tu.sum=jw ‹"v"› n:=by rw [jbO,Pb.nl]
   have hsh:tD.sum=jw ‹"M"› m:=by rw [jbO,Pb.hl]
   have sn0:0<=jw ‹"v"› n:=QL fun i hi=>Pb.n0 i hi;have sh1:=Pb.h1;have sh0:0<jw ‹"M"› m:=Int.lt_of_lt_of_le (Pb.h0 0 h0) (jlS (fun s hs=>yg (Pb.h0 s hs)) h0);have hb:∀h∈tD,-18446744073709551616<h/\h<18446744073709551616:=fun h hh=>by
     obtain ⟨s,hs,es⟩:=Y9 hh;have e:tD.getD s 0=h:=by rw [Yb,Ya hs,es];rfl
     have a:=Pb.h0 s (by rw [<-Pb.hl];exact hs);have b:=jlS (f:=fun s=>tD.getD s 0) (n:=m) (j:=s) (fun s hs=>yg (Pb.h0 s hs)) (by rw [<-Pb.hl];exact hs);rw [e] at a;have b':h<=jw ‹"M"› m:=by rw [<-e];exact b
     omega
   obtain ⟨lv,hlv⟩:∃lv,tu.sum/tD.sum=lv:=⟨_,rfl⟩;have l0:0<=lv:=by rw [<-hlv,hsn];exact Int.ediv_nonneg sn0 (by rw [hsh];omega)
   have l1:lv*jw ‹"M"› m<=jw ‹"v"› n:=by rw [<-hsn,<- hsh,<- hlv];exact Int.ediv_mul_le _ (by omega)
   have l2:jw ‹"v"› n<(lv+1)*jw ‹"M"› m:=by rw [<-hsn,<- hsh,<- hlv];exact Int.lt_ediv_add_one_mul_self _ (by omega)
   have tl:∀l:Int,(tD.map (l * ·)).length=m:=fun l=>by rw [Yd];exact Pb.hl
   have F0:Feas n m tu tm (tD.map (lv * ·)) (Z2 n m):=jkK Pb.r0 Pb.n0 fun s hs=>by rw [jeh (by rw [Pb.hl];exact hs)];exact Kl l0 (yg (Pb.h0 s hs))
   obtain ⟨d0,⟨P0,M0,rfl,Fl⟩,e0⟩:=jcH Pb.nl Pb.sh (tl lv) F0 hn hm;have F1:Feas n m tu tm (tD.map ((lv+1) * ·)) P0:=⟨Fl.feas.sh,Fl.feas.cell,Fl.feas.row,fun s hs=>by have a:=Fl.feas.col s hs;rw [jeh (by rw [Pb.hl];exact hs)] at a ⊢;have:=Pb.h0 s hs;rw [KL,Kj];omega⟩
   obtain ⟨d1,⟨P1,M1,rfl,Fu⟩,e1⟩:=jcH Pb.nl Pb.sh (tl (lv+1)) F1 hn hm;have ez:=jeu Pb.sh hn hm;have le1:zD P1 n<=jw ‹"v"› n:=qP fun i hi=>Fu.feas.row i hi;have bestB:∀{l:Int} {Q0 Q:List (List Int)} {M:List Bool},Fill n m tu tm (tD.map (l * ·)) Q0 Q M->∀mk,qJ n m ‹"v"› (jY tm) mk-l*zX m ‹"M"› mk<=qJ n m ‹"v"› (jY tm) (Jk M true)-l*zX m ‹"M"› (Jk M true):=fun {l Q0 Q M} F mk=>by rw [jlN (mk:=Jk M true) (mk':=fun s=>M.getD s false) fun s _=>QE M s,jnf (mk:=Jk M true) (mk':=fun s=>M.getD s false) fun s _=>QE M s];exact jn8 Pb.hl F mk
   have IH:=fun m' needs' rooms' hours' p (c:m'<1000) (a:0<m') (b:m'<=k)=>jeD n hn k m' needs' rooms' hours' p c a b;show ∃d,_/\qW 3 6 (jbJ (Jq 4 8 (qN (zU k)))) _=some d;refine Qm (ρ:=[.sh ‹"k"›,.sh ‹"h"›,.sh ‹"2"›,.un,.un,.un]) _ rfl rfl fun C fin=>?_;unfold jbJ;refine jJ [.sh ‹"k"›,.sh ‹"h"›,.sh ‹"2"›,.sh (.int lv),.un,.un] (j8 (jy (ju rfl sum_ints) (ju rfl sum_ints) (by rw [zc (by omega) (by omega),hlv]))) ?_;refine jJ ‹"a8"› (j8 (ju (js rfl (js rfl (js (qw (jiW (by rw [Pb.hl];omega) hb fun _=>rfl)) (js (qw (ju rfl ez)) rfl)))) e0)) ?_;have ec:qQ (jq dLt (jq jO (ja 4) (eC (.int 0))) (jq qS (ja 3) (jg Qb (jb (ja 2) jk)))) ‹"a8"›=some (decide (zD P0 n<lv*tD.sum)):=jZ (jy (jy rfl rfl JQ) (jy rfl (ju rfl sum_ints) (JD (by omega) (by omega))) QC);by_cases c1:zD P0 n<lv*tD.sum
   . obtain ⟨mh,ml⟩:=jcL Pb Fl (by rw [hsh] at c1;omega) (by rw [hsh] at c1;omega);obtain ⟨d,⟨P,rfl,sP,ev⟩,ed⟩:=jgJ Pb hn hm Fl.len (bestB Fl) IH mh ml h1;refine jgc ((Z6 (by rw [ec,YU c1])).trans (JM (qw (ju (js rfl (js rfl (js rfl (js (jy rfl rfl ZR) rfl)))) ed)))) (fin _ ⟨P,rfl,sP,ev⟩)
   . refine jJ ‹"a8"› (zA (by rw [ec,Y1 c1])) ?_;refine jJ ‹"ba"› (j8 (ju (js rfl (js rfl (js (qw (jiW (by rw [Pb.hl];omega) hb fun _=>jy rfl rfl j1)) (js (jy rfl rfl JI) rfl)))) e1)) ?_;have ec2:qQ (jq dLt (jq jO (ja 5) (eC (.int 0))) (jg Qb (jb (ja 0) jk))) ‹"ba"›=some (decide (zD P1 n<tu.sum)):=jZ (jy (jy rfl rfl JQ) (ju rfl sum_ints) QC);by_cases c2:zD P1 n<tu.sum
     . obtain ⟨mh,ml⟩:=jcL Pb Fu (by rw [hsn] at c2;omega) (by omega);obtain ⟨d,⟨P,rfl,sP,ev⟩,ed⟩:=jgJ Pb hn hm Fu.len (bestB Fu) IH mh ml h1;refine jgc ((Z6 (by rw [ec2,YU c2])).trans (JM (qw (ju (js rfl (js rfl (js rfl (js (jy rfl rfl ZR) rfl)))) ed)))) (fin _ ⟨P,rfl,sP,ev⟩)
     . refine jJ _ (zA (by rw [ec2,Y1 c2])) ?_;refine JN (JM (jy rfl rfl JI)) (fin _ ⟨P1,rfl,Fu.feas.sh,?_⟩);have rows:=jal (f:=fun i=>tu.getD i 0) (g:=zW P1) (n:=n) (fun i hi=>Fu.feas.row i hi) (by rw [hsn] at c2;show _<=zD P1 n;omega);have cols:∀s,s<m->lv*tD.getD s 0=jL P0 s:=jal (f:=fun s=>lv*tD.getD s 0) (g:=fun s=>jL P0 s) (n:=m) (fun s hs=>by have a:=Fl.feas.col s hs;rw [jeh (by rw [Pb.hl];exact hs)] at a;exact a) (by rw [<-jlW Fl.feas.sh,zR];rw [hsh] at c1;omega)
       refine jkz (l:=lv) Pb.n0 Pb.n1 Pb.h0 (fun i hi=>by rw [<-Jy Fu.feas.sh hi];exact (rows i hi).symm) Fu.feas.cell (fun s hs=>?_) (fun s hs=>?_)
       . rw [cols s hs];have:=Fu.mono s hs;rw [Jp Fu.feas.sh] at this;exact this
       . have a:=Fu.feas.col s hs;rw [jeh (by rw [Pb.hl];exact hs),Jp Fu.feas.sh] at a;exact a
theorem jpV {ρ:ef} {x y:Int} {fb fc:ef->Option D} (h1:fb ρ=some (.int x)) (h2:fc ρ=some (.int y)) (h3:0<=x) (h4:x<=y):Qs dLe dLe (eC (.int 0)) fb fc ρ=some (.bl true):=by unfold Qs eC;simp only [h1,h2,Ye,jce,YU h3,YU h4]
theorem jhg {s:Ship} (hs:s.Ok):QY [jr s]=some (.bl true):=by
 have h1:=hs.lt;have h2:=hs.n0;have h3:=hs.m0;have h4:=hs.n1;have h5:=hs.m1;unfold QY;refine Qk (ρ:=[.sh (jr s),.un]) rfl rfl fun C fin=>?_;unfold jcd;refine jJ [.sh (jr s),.un] (zA (jmc (jcA (b:=true) (jZ rfl)) (jZ (jy (ju rfl rfl) rfl (jnD rfl))))) ?_;have lc:JC (jcF (jm 0)) (jz 0) ‹"l"› (jg JW (jb (jm 0) jk)) 1 [] [.sh (jr s),.un]=some ([true,true,true,true].map D.bl):=by refine qq (jl9 rfl) (by show 4<16777216;decide) ?_;exact Jg D.int (fun _=>D.bl true) [s.b,s.e,s.n,s.m] fun i _=>⟨[.sh (.int i)],rfl,rfl,rfl⟩
 refine jJ [.sh (jr s),.un] (zA (jcA (b:=true) (jZ (ju (js (qw lc) rfl) (jfQ _))))) ?_;refine jJ [.sh (jr s),.sh (.int (s.e-s.b))] (j8 (jy (jy rfl rfl JI) (jy rfl rfl JQ) rfl)) ?_;refine JN (JM (jhE ((jy rfl rfl jd1).trans (by rw [YU (by omega)])) (jhE ((jy (jy rfl rfl jb9) rfl jdt).trans (by rw [YU (by omega)])) (d:=.bl true) ?_))) fin;exact jpV (jy rfl rfl ZR) (jy (jy rfl rfl jb9) rfl (Qx (by omega) (by omega))) (by omega) (by omega)
theorem jfB {fl:List Ship} (hfl:∀s∈fl,s.Ok) (hl:fl.length<1000):Zo [.lst (fl.map jr)]=some (.bl true):=by
 unfold Zo;refine Qk (ρ:=[.sh ‹"c"›]) rfl rfl fun C fin=>?_;unfold ja9;have lc:JC (j3 (ja 0)) (jz 0) ‹"l"› (jg QY (jb (jm 0) jk)) 1 [] [.sh ‹"c"›]=some ((fl.map fun _=>true).map D.bl):=by refine qq (ql rfl) (by rw [Yd];omega) ?_;rw [YJ];exact Jg jr (D.bl∘fun _=>true) fl fun s hs=>⟨[.sh (jr s)],rfl,rfl,ju rfl (jhg (hfl s hs))⟩
 refine JN (JM (jhE rfl (ju (js (qw lc) rfl) (jfQ _)))) ?_;have:(fl.map fun _=>true).all id=true:=by simp
 rw [this];exact fin
theorem Z5 {fl:List Ship} (hfl:∀s∈fl,s.Ok) (hl:fl.length<1000):zy [.lst (fl.map jr)]=some .non:=by unfold zy qW;rw [if_pos (show ([.lst (fl.map jr)]:List D).length=1 from rfl)];unfold J7;show jcQ (Qh _ _ qi [.sh ‹"c"›])=_;rw [zA (jcA (b:=true) (jZ (ju rfl (jfB hfl hl))))];rfl
def qp (fl:List Ship):List Int:=(jj fl).map fun p=>p.2-p.1
theorem Zy {fl:List Ship} {j:Nat} (hj:j<(jj fl).length):(qp fl).getD j 0=qh fl j:=by unfold qp;rw [Yb,List.getElem?_map,ja4 hj];rfl
theorem jkx {fl:List Ship} {s:Ship} (hs:s∈fl) (hk:s.Ok):0<(jj fl).length:=by
 have h1:s.b∈JZ fl:=mem_bnds.mpr (Yx _ (Y6.mpr ⟨s,hs,rfl⟩));have h2:s.e∈JZ fl:=mem_bnds.mpr (YL _ (Y6.mpr ⟨s,hs,rfl⟩));have h3:=hk.lt;have hz:=jcV (JZ fl);have hl:2<=(JZ fl).length:=by
  generalize JZ fl=l at h1 h2
  match l,h1,h2 with
  | [x],h1,h2=>have a:=Yu.mp h1;have b:=Yu.mp h2;omega
  | _::_::_,_,_=>simp
 unfold jj;omega
theorem jeK (c:Int):∀n:Nat,jw (fun _=>c) n=n*c
 | 0=>by simp [jw]
 | n+1=>by show jw (fun _=>c) n+c=_;rw [jeK c n,show ((n+1:Nat):Int)=(n:Int)+1 from by omega,KL,Kj]
theorem jm0 {fl:List Ship} (hfl:∀s∈fl,s.Ok) (tL:fl.length<=8):Prob fl.length (jj fl).length (jaU fl) (qo fl) (qp fl):=by
 have hsl:(jj fl).length<40:=JP (by omega);refine ⟨Yd _,jee fl,Yd _,fun i hi=>by rw [jc0 hi];exact (hfl _ (jau hi)).n0,fun i hi=>?_,fun i s hi hs=>by rw [jc1 hi hs];exact jgf (hfl _ (jau hi)) (jde (jiT hs)).1,fun s hs=>by rw [Zy hs];exact (zw hfl hs).1,?_⟩
 . have e:jw (jY (qo fl) i) (jj fl).length=((jj fl).map (zk (shp fl i))).sum:=by rw [<-Jy (jee fl) hi];unfold zW qo;rw [Yb,List.getElem?_map,jbb hi];rfl
   rw [e,jc0 hi,jeV (jau hi) (hfl _ (jau hi))];exact (hfl _ (jau hi)).n1
 . refine KN (qP (g:=fun _=>2000000000000000) fun s hs=>?_) ?_
   . rw [Zy hs];exact yg (zw hfl hs).2
   . rw [jeK];omega
theorem jku {fl:List Ship} (hfl:∀s∈fl,s.Ok) (tL:fl.length<=8) :
 ∃d,(∃P,d=.lst (P.map jh)/\Shape fl.length (jj fl).length P/\jdp fl.length (jj fl).length (jaU fl) (qo fl) (qp fl) P)/\jds [.lst (fl.map jr)]=some d:=by
 have hsl:(jj fl).length<=16:=by have:=jbx fl;have:=jcV (JZ fl);unfold jj;omega
 have em:=Z5 hfl (by omega);have e1:=jaR (fl:=fl) (fun s hs=>jmi (hfl s hs)) (by omega);have e2:=jbn (fl:=fl) (by omega);have e3:=jik (fl:=fl) (by omega);rw [jjm] at e1;unfold jds;refine Qm (ρ:=[.sh ‹"c"›]) _ rfl rfl fun C fin=>?_;unfold jhO;refine jJ [.sh ‹"c"›] (by unfold Q8;rw [ju rfl em]) ?_;have ec:qQ (jq dEq (ja 0) (jH (zx jk))) [.sh ‹"c"›]=some (fl.map jr).isEmpty:=jZ (jy rfl rfl jjo);cases fl with
 | nil=>refine jgc (d:=.lst []) ((Z6 ec).trans (JM rfl)) (fin _ ⟨[],rfl,⟨rfl,fun r hr=>absurd hr YG⟩,⟨fun i hi=>absurd hi (Ks _),fun i s hi=>absurd hi (Ks _),fun k=>⟨fun _=>false,?_⟩⟩⟩);show (0:Int)=0-k*0;omega
 | cons s fl=>have h0:=jkx (fl:=s::fl) Yf (hfl s Yf);obtain ⟨d,hd,ed⟩:=jeD (s::fl).length (by simp at tL ⊢;omega) 17 _ _ _ _ (jm0 hfl tL) (by omega) h0 (by omega);refine jJ [.sh (.lst ((s::fl).map jr))] (zA ec) ?_;exact JN (JM (ju (js (qw (ju rfl e3)) (js (qw (ju rfl e1)) (js (qw (ju rfl e2)) rfl))) ed)) (fin _ hd)
def zI (P:List (List Int)) (n:Nat):List Int:=(List.range n).map (jL P)
theorem jkB {S:List (Int×Int)} (hS:S.length<1000) {P:List (List Int)} (hr:∀r∈P,r.length=S.length) (hPl:P.length<=8):JC (JV (jb ‹"ai"› jk)) (jz 0) ‹"l"› ‹"a6"› 1 [1] [.sh ‹"bt"›,.sh ‹"g"›]=some ((zI P S.length).map D.int):=by
 have hz:JV (jb ‹"ai"› jk) [.sh ‹"bt"›,.sh ‹"g"›]=some ((List.range S.length).map fun j:Nat=>D.int (j:Int)):=by rw [JH (j:=(S.length:Int)) (by simp (disch:=omega) only [jb,jg,ja,Yg,jk,Yi,Ye,jai];simp only [Yd]) (by omega) (by omega),Yq,jaY]
 have hc:∀j,j<S.length->‹"a6"› [.sh (.int (j:Int)),.sh ‹"g"›]=some (.int (jL P j)):=fun j hj'=>by
  have lc:=qq (fi:=j3 (ja 1)) (ρ:=[.sh (.int j),.sh ‹"g"›]) (m:=jz 0) (ft:=fun _=>some true) (fe:=jq jO (ja 0) (ja 1)) (n:=1) (ix:=[0]) (ql rfl) (by rw [Yd];omega)
   (Jg jh (fun r=>.int (r.getD j 0)) P fun r h=>⟨[.sh (jh r),.sh (.int j)],rfl,rfl,by have:=JB (l:=r) (i:=j) (by rw [hr r h];exact hj');unfold jh;simp (disch:=omega) only [jq,ja,Yg,Yl,Ye];exact this⟩)
  have s1:=jbi (P.map fun r=>r.getD j 0);rw [YJ] at s1;clear hz hr;simp (disch:=omega) only [jg,jb,jH,jk,Yi];simp only [lc];simp (disch:=omega) only [Yi,Ye];exact s1
 unfold zI;rw [YJ];exact qq hz (by rw [Yd,List.length_range];omega) (Jg (fun j:Nat=>D.int (j:Int)) (fun j=>.int (jL P j)) _ fun j hj=>⟨[.sh (.int j),.sh ‹"g"›],rfl,rfl,hc j (KF.mp hj)⟩)
theorem jcC {S:List (Int×Int)} (hS:S.length<1000) {P:List (List Int)} (hr:∀r∈P,r.length=S.length) (hPl:P.length<=8):JY [.lst (S.map jC),.lst (P.map jh)]=some ((zI P S.length).map D.int):=jnN (m:=QT) (ρ:=[.sh ‹"bt"›,.sh ‹"g"›]) rfl rfl (ZT (jkB hS hr hPl))
theorem jox {P:List (List Int)} {n j:Nat} (h:j<n):jO (.lst ((zI P n).map D.int)) (.int j)=some (.int (jL P j)):=by refine jb5 (by omega) ?_;unfold zI;rw [Yq,List.getElem?_map,List.getElem?_map,yw h];rfl
def QV (fl:List Ship) (P:List (List Int)) (k:Int):Int:=jw (fun j=>j2 (jL P j-k*qh fl j)) (jj fl).length
theorem jha {z1:Slot} {parts tots:D} {k f j T:Int} {p:Int×Int} (dp:jO parts (.int j)=some (jC p)) (dt:jO tots (.int j)=some (.int T)) (h1:0<p.2-p.1) (h2:p.2-p.1<2000000000000000) :
 (jG 3 (jq qL (ja 3) (jg jaO (jb (eC (.int 0)) (jb (jq zp (jq jO (ja 4) (ja 5)) (jq qS (ja 2) (jq zp (jq jO (jq jO (ja 0) (ja 5)) (eC (.int 1))) (jq jO (jq jO (ja 0) (ja 5)) (eC (.int 0)))))) jk)))))
  [.sh parts,z1,.sh (.int k),.sh (.int f),.sh tots,.sh (.int j)]=.next [.sh parts,z1,.sh (.int k),.sh (.int (f+j2 (T-k*(p.2-p.1)))),.sh tots,.sh (.int j)]:=by
 simp (disch:=omega) only [jG,jq,ja,Yl,Yg,jg,jb,eC,Ye,jk,Yi,Yw,YB];simp only [dp,dt];unfold jC;simp (disch:=omega) only [Ye,JI,JQ,qy,JD,Yi,jaO,j1];rfl
theorem QG {fl:List Ship} (hfl:∀s∈fl,s.Ok) (tL:fl.length<=8) {P:List (List Int)} (hr:∀r∈P,r.length=(jj fl).length) (hPl:P.length<=8) (k:Int):qX [.lst ((jj fl).map jC),.lst (P.map jh),.int k]=some (.int (QV fl P k)):=by
 have hSl:=JP (fl:=fl) (by omega);have et:=jcC (S:=jj fl) (by omega) hr hPl;refine Qk (m:=Qo) (ρ:=[.sh ‹"j"›,.sh ‹"g"›,.sh (.int k),.un,.un,.un]) rfl rfl ?_;intro C fin;unfold Qo;refine jJ [.sh ‹"j"›,.sh ‹"g"›,.sh (.int k),.sh (.int 0),.un,.un] (by simp (disch:=omega) only [jG,eC,Yw,YB]) ?_;refine jJ [.sh ‹"j"›,.sh ‹"g"›,.sh (.int k),.sh (.int 0),.sh ‹"m"›,.un] (zb (ju rfl et)) ?_;refine jsv (jj fl).length (fun j ρ=>∃y,ρ=[.sh ‹"j"›,.sh ‹"g"›,.sh (.int k),.sh (.int (jw (fun j=>j2 (jL P j-k*qh fl j)) j)),.sh ‹"m"›,y])
  (by rw [JH (j:=((jj fl).length:Int)) (by simp (disch:=omega) only [jb,jg,ja,Yg,jk,Yi,Ye,jai];simp only [Yd]) (by omega) (by omega),Yq]) ⟨_,rfl⟩ ?_ ?_
 . rintro j ρ hj ⟨y,rfl⟩;have hL:=zw hfl hj;unfold qh at hL;exact ⟨_,_,rfl,jha (joT hj) (jox hj) hL.1 hL.2,_,rfl⟩
 . rintro ρ ⟨y,rfl⟩;exact fin
theorem Qu {fl:List Ship} {P:List (List Int)} (h:PlanOk fl P):Shape fl.length (jj fl).length P/\(∀i,i<fl.length->jw (jY P i) (jj fl).length=(jaU fl).getD i 0)/\∀i s,i<fl.length->s<(jj fl).length->0<=jY P i s/\jY P i s<=jY (qo fl) i s:=by
 have sh:Shape fl.length (jj fl).length P:=⟨h.len,h.rows⟩;refine ⟨sh,fun i hi=>?_,fun i s hi hs=>?_⟩
 . rw [<-Jy sh hi,jc0 hi];exact (h.row i _ _ (sh.row hi).1 (jbb hi)).sum
 . rw [jc1 hi hs];refine (h.row i _ _ (sh.row hi).1 (jbb hi)).bd s _ _ ?_ (ja4 hs);unfold jY;rw [Yb (l:=P.getD i []),Ya (by rw [(sh.row hi).2];exact hs)];rfl
theorem jmS {n m:Nat} {need:Nat->Int} {room:Nat->Nat->Int} {len:Nat->Int} {Q:Nat->Nat->Int} (row:∀i,i<n->jw (Q i) m=need i) (cell:∀i s,i<n->s<m->0<=Q i s/\Q i s<=room i s) (mk:Nat->Bool) (k:Int):qJ n m need room mk-k*zX m len mk<=zt n m len Q k:=by
 have h1:qJ n m need room mk<=jw (fun s=>if mk s=true then Jo n Q s else 0) m:=by
  have e:jw (fun s=>if mk s=true then Jo n Q s else 0) m=jw (fun i=>jw (fun s=>if mk s=true then Q i s else 0) m) n:=by
   rw [JS];refine ji fun s _=>?_;by_cases c:mk s=true
   . rw [if_pos c];exact ji fun i _=>by rw [if_pos c]
   . rw [if_neg c,jS];intro i _;rw [if_neg c]
  rw [e];refine qP fun i hi=>?_;have r:=row i hi;have sp:jw (Q i) m=jw (fun s=>if mk s=true then Q i s else 0) m+jw (fun s=>if mk s=true then 0 else Q i s) m:=by rw [<-qt];exact ji fun s _=>by split <;> omega
  have le:jw (fun s=>if mk s=true then 0 else Q i s) m<=zo room m mk i:=qP fun s hs=>by have:=(cell i s hi hs).2;split <;> omega
  have nn:0<=jw (fun s=>if mk s=true then Q i s else 0) m:=QL fun s hs=>by have:=(cell i s hi hs).1;split <;> omega
  show j2 (need i-zo room m mk i)<=_;unfold j2;split <;> omega
 have h2:jw (fun s=>if mk s=true then Jo n Q s else 0) m-k*zX m len mk<=zt n m len Q k:=by
  unfold zX zt;rw [<-zR,<- zP];refine qP fun s _=>?_;have:=jan (Jo n Q s-k*len s);by_cases c:mk s=true
  . rw [if_pos c,if_pos c];omega
  . rw [if_neg c,if_neg c,Int.mul_zero];omega
 omega
theorem ji1 {fl:List Ship} {P:List (List Int)} (h:Shape fl.length (jj fl).length P) (k:Int):QV fl P k=zt fl.length (jj fl).length (fun s=>(qp fl).getD s 0) (jY P) k:=by unfold QV zt;refine ji fun s hs=>?_;rw [Jp h,<- Zy hs];rfl
theorem jjF {fl:List Ship} {E P:List (List Int)} (sE:Shape fl.length (jj fl).length E) (hE:jdp fl.length (jj fl).length (jaU fl) (qo fl) (qp fl) E) (hP:PlanOk fl P) (k:Int):QV fl E k<=QV fl P k:=by obtain ⟨sP,r,c⟩:=Qu hP;rw [ji1 sE,ji1 sP];obtain ⟨mk,e⟩:=hE.even k;rw [e];exact jmS r c mk k
theorem jeY {P:List (List Int)} (h:P.length<1000) {ρ:ef} {i:Nat} (hi:ja i ρ=some ‹"g"›):JC (j3 (ja i)) (jz 0) ‹"l"› (jH (jg Qc (jb (ja 0) jk))) 1 [] ρ=some (P.map jh):=qq (ql hi) (by rw [Yd];omega) (Jg jh jh P fun r _=>⟨[.sh (jh r)],rfl,rfl,rfl⟩)
theorem jiE {fl:List Ship} {E:List (List Int)} (sE:Shape fl.length (jj fl).length E) (row:∀i,i<fl.length->jw (jY E i) (jj fl).length=(jaU fl).getD i 0) (cell:∀i s,i<fl.length->s<(jj fl).length->0<=jY E i s/\jY E i s<=jY (qo fl) i s):PlanOk fl E:=by
 refine ⟨sE.1,fun i r s hr hs=>?_⟩;have hi:i<fl.length:=by
  rcases YX i fl.length with z | z
  . exact z
  . rw [YE z] at hs;cases hs
 have er:E.getD i []=r:=by rw [Yb,hr];rfl
 have es:shp fl i=s:=by have:=jbb hi;rw [hs] at this;exact (Option.some.inj this).symm
 refine ⟨sE.2 r (YF hr),fun j x p hx hp=>?_,?_⟩
 . have hj:j<(jj fl).length:=by
    rcases YX j (jj fl).length with z | z
    . exact z
    . rw [YE z] at hp;cases hp
   have c:=cell i j hi hj;have ex:jY E i j=x:=by unfold jY;rw [er,Yb,hx];rfl
   have ep:spn fl j=p:=by have:=ja4 hj;rw [hp] at this;exact (Option.some.inj this).symm
   rw [jc1 hi hj,es,ex,ep] at c;exact c
 . have q:=row i hi;rw [jc0 hi,es] at q;rw [<-q,<- er];exact Jy sE hi
theorem jkv {fl:List Ship} {E:List (List Int)} (sE:Shape fl.length (jj fl).length E) (hE:jdp fl.length (jj fl).length (jaU fl) (qo fl) (qp fl) E):PlanOk fl E:=jiE sE hE.row hE.cell
theorem jer (i:Int):JW [.int i]=some (.bl true):=rfl
theorem jdG {α:Type} (l:List α):jeo [.lst (l.map fun _=>D.bl true)]=some (.bl true):=by have:=jfQ (l.map fun _=>true);rw [YJ] at this;refine this.trans ?_;rw [show (l.map fun _=>true).all id=true by simp]
theorem jgo {ρ:ef} {x y:Int} {fb fc:ef->Option D} (h1:fb ρ=some (.int x)) (h2:fc ρ=some (.int y)) (h3:0<=x) (h4:x<=y):Qs dLe dLe (eC (.int 0)) fb fc ρ=some (.bl true):=by unfold Qs eC;simp only [h1,h2,Ye,jce,YU h3,YU h4]
theorem jir {S:List (Int×Int)} {s:Ship} (hs:Sm s) {r:List Int} (h:RowOk S s r) (hS:S.length<1000):Zz [jr s,.lst (S.map jC),jh r]=some (.bl true):=by
 have hrl:=h.len;refine Qk (m:=Zl) (ρ:=‹"x"›) rfl rfl ?_;intro C fin;unfold Zl;refine jJ ‹"x"› (zA (jmc (by walk_at "ev") (jZ (jy (ju rfl rfl) (ju rfl rfl) (jnD (by simp only [Yd,hrl])))))) ?_;have lc1:=qq (fi:=j3 (ja 2)) (ρ:=‹"x"›) (m:=jz 0) (ft:=fun _=>some true) (fe:=jg JW (jb (jm 0) jk)) (n:=1) (ix:=[]) (ql rfl) (by rw [Yd];omega)
  (Jg D.int (fun _=>.bl true) r fun x _=>⟨[.sh (.int x)],rfl,rfl,ju rfl (jer x)⟩)
 refine jJ ‹"x"› (zA (jcA (jZ (ju (js (qw lc1) rfl) (jdG r))))) ?_;have hz:Jt (jb (ja 1) (jb (ja 2) jk)) ‹"x"›=some ((S.zip r).map fun q=>.tup [jC q.1,.int q.2]):=by have e:=QN jC D.int S r;rw [<-e];rfl
 have lc2:=qq (m:=Jz 2 ‹"R"›) (ft:=fun _=>some true) (fe:=Qs dLe dLe (eC (.int 0)) (ja 1) (jg jca (jb (jm 2) (jb (jm 0) jk)))) (n:=2) (ix:=[0]) hz (by simp;omega)
  (Jg (fun q:(Int×Int)×Int=>.tup [jC q.1,.int q.2]) (fun _=>.bl true) (S.zip r) fun q hq=>⟨[.sh (jC q.1),.sh (.int q.2),.sh (jr s)],rfl,rfl,by obtain ⟨j,hj⟩:=List.mem_iff_getElem?.mp hq;rw [YT] at hj;have b:=h.bd j q.2 q.1 hj.2 hj.1;exact jgo rfl (ju rfl (jeU hs q.1)) b.1 b.2⟩)
 refine jJ ‹"x"› (zA (jcA (jZ (ju (js (qw lc2) rfl) (jdG (S.zip r)))))) ?_;exact JN (JM (jy (ju rfl (jbi r)) (jy rfl rfl ZR) (jpr h.sum))) fin
theorem jgV {fl:List Ship} (hs:∀s∈fl,Sm s) (hl:fl.length<20) {P:List (List Int)} (hP:PlanOk fl P):jb7 [.lst (fl.map jr),.lst (P.map jh)]=some (.bl true):=by
 have est:=Qt fl hl;have hSl:=JP hl;have hPl:=hP.len;refine Qk (m:=jap) (ρ:=[.sh ‹"c"›,.sh ‹"g"›,.un]) rfl rfl ?_;intro C fin;unfold jap;refine jJ [.sh ‹"c"›,.sh ‹"g"›,.un] (zA (jmc (by walk_at "ev") (jZ (jy (ju rfl rfl) (ju rfl rfl) (jnD (by simp only [Yd,hPl])))))) ?_;refine jJ [.sh ‹"c"›,.sh ‹"g"›,.sh ‹"j"›] (zb (ju rfl est)) ?_;have hz:Jt (jb (ja 0) (jb (ja 1) jk)) [.sh ‹"c"›,.sh ‹"g"›,.sh ‹"j"›]=some ((fl.zip P).map fun q=>.tup [jr q.1,jh q.2]):=by have e:=QN jr jh fl P;rw [<-e];rfl
 have lc:=qq (m:=Jz 2 ‹"R"›) (ft:=fun _=>some true) (fe:=jg Zz (jb (jm 0) (jb (jm 2) (jb (jm 1) jk)))) (n:=2) (ix:=[2]) hz (by simp;omega)
  (Jg (fun q:Ship×List Int=>.tup [jr q.1,jh q.2]) (fun _=>.bl true) (fl.zip P) fun q hq=>⟨[.sh (jr q.1),.sh (jh q.2),.sh ‹"j"›],rfl,rfl,by obtain ⟨j,hj⟩:=List.mem_iff_getElem?.mp hq;rw [YT] at hj;exact ju rfl (jir (hs q.1 (YF hj.1)) (hP.row j q.2 q.1 hj.2 hj.1) (by omega))⟩)
 exact JN (JM (ju (js (qw lc) rfl) (jdG (fl.zip P)))) fin
theorem jaV {fl:List Ship} (hfl:∀s∈fl,s.Ok) (hl:fl.length<=8) {P:List (List Int)} (hP:PlanOk fl P):zL [.lst (fl.map jr),.lst (P.map jh)]=some .non:=by have em:=Z5 hfl (by omega);have ep:=jgV (fun s hs=>jmi (hfl s hs)) (by omega) hP;unfold zL qW;rw [if_pos (show ([.lst (fl.map jr),.lst (P.map jh)]:List D).length=2 from rfl)];unfold QD;show jcQ (jA _ _ [.sh ‹"c"›,.sh ‹"g"›])=_;rw [qD (ρ':=[.sh ‹"c"›,.sh ‹"g"›]) (by unfold Q8;rw [ju rfl em]),zA (jcA (b:=true) (jZ (ju rfl ep)))];rfl
theorem jdy (c:Int):∀n:Nat,jw (fun _=>c) n=n*c
 | 0=>by simp [jw]
 | n+1=>by show jw (fun _=>c) n+c=_;rw [jdy c n,show ((n+1:Nat):Int)=(n:Int)+1 from by omega,KL,Kj]
theorem jn9 {fl:List Ship} {P:List (List Int)} (hP:PlanOk fl P) {j:Nat} (hj:j<(jj fl).length):0<=jL P j:=by
 unfold jL;have:∀r∈P,0<=r.getD j 0:=fun r hr=>by
  obtain ⟨i,hi,rfl⟩:=Y9 hr;have hrl:=hP.rows _ (KH hi);have hif:i<fl.length:=by rw [<-hP.len];exact hi
  have ro:=hP.row i _ _ (Ya hi) (Ya hif);have:=ro.bd j (P[i].getD j 0) (spn fl j) (by rw [Yb,Ya (by rw [hrl];exact hj)];rfl) (ja4 hj);exact this.1
 generalize P=Q at this;induction Q with
 | nil=>exact yY _
 | cons r Q ih=>have:=ih fun x hx=>this x (Ym _ hx);have:=‹∀x∈r::Q,0<=x.getD j 0› r Yf;rw [List.map_cons,List.sum_cons];omega
theorem jid {fl:List Ship} (hfl:∀s∈fl,s.Ok) (tL:fl.length<=8) {P:List (List Int)} (hP:PlanOk fl P) {j:Nat} (hj:j<(jj fl).length):jL P j<=8000000000000000*qh fl j:=by
 obtain ⟨sh,_,cell⟩:=Qu hP;have hL:=zw hfl hj;rw [Jp sh];refine KN (qP (g:=fun _=>1000000000000000*qh fl j) fun i hi=>?_) ?_
 . refine KN (cell i j hi hj).2 ?_;rw [jc1 hi hj];have ok:=hfl _ (jau hi);have m1:=YO ok.m1 (yg hL.1);unfold zk;split
   . exact m1
   . have:=Kl (show (0:Int)<=1000000000000000 by decide) (yg hL.1);omega
 . rw [jdy];have:(fl.length:Int)*(1000000000000000*qh fl j)<=8*(1000000000000000*qh fl j):=YO (by omega) (Kl (by decide) (yg hL.1));omega
theorem jkh {T l:Int} (hl:0<l) (h0:0<=T) (h:T<=8000000000000000*l):0<=T/l/\T/l<=8000000000000000:=by
 refine ⟨Int.ediv_nonneg h0 (yg hl),?_⟩;have:=Int.ediv_le_ediv hl h
 rwa [Int.mul_ediv_cancel _ (by omega)] at this
theorem jib {n m:Nat} {tm tw:List (List Int)} {off:Nat} {ks:List Nat} {ds:List D} (R:Rch tm tw n m (fun s d=>s=off/\d=.non) ks ds) {j:Nat} {p:List ‹"y"›} (h:Path ks ds j p) :
 ∀s,ks[j]?=some s->PathOk tm tw n m ks j s p (fun _=>0) (fun t=>ind (off=t)):=by
 induction h with
 | @p j s i h1 h2=>
   intro s' hs';rcases R.val j s _ h1 h2 with ⟨_,e⟩ | ⟨i',o,j',_,_,_,e,_⟩
   . cases e
   . injection e with e;injection e with _ e;injection e with e;cases e
 | @c j h1=>
   intro s hs;rcases R.val j s _ hs h1 with ⟨rfl,_⟩ | ⟨i',o,j',_,_,_,e,_⟩
   . have i0:∀i t,inc ([]:List ‹"y"›) i t=0:=fun _ _=>rfl;have d0:∀i t,dec ([]:List ‹"y"›) i t=0:=fun _ _=>rfl;exact ⟨fun q hq=>absurd hq YG,fun q hq=>absurd hq YG,fun q hq=>absurd hq YG,yE _,fun i t=>by rw [i0];omega,fun i t=>by rw [d0];omega,fun t _=>by rw [jS fun i _=>by rw [i0,d0];rfl];omega,fun i _=>jS fun t _=>by rw [i0,d0];rfl⟩
   . cases e
 | @s j j' s i o p h0 hj ho h1 h2 ih=>
   intro s' hs';rw [h1] at hs';cases hs';have ok:=ih o ho;rcases R.val j s _ h1 h2 with ⟨_,e⟩ | ⟨i',o',j'',_,_,hi',e,hmv⟩
   . cases e
   . have e1:i=i'/\o=o':=by injection e with e;injection e with a e;injection e with b e;injection a with a;injection b with b;exact ⟨by omega,by omega⟩
     obtain ⟨rfl,rfl⟩:=e1;exact ok.step R.nd hj ho h1 (R.lt o (YF ho)) (R.lt s (YF h1)) hi' hmv
theorem jix {fl:List Ship} {P Q:List (List Int)} (hP:PlanOk fl P) (hQ:Shape fl.length (jj fl).length Q) {ks:List Nat} {j s off:Nat} {p:List ‹"y"›} (ok:PathOk (qo fl) P fl.length (jj fl).length ks j s p (fun _=>0) (fun t=>ind (off=t))) (hat:∀i t,jY Q i t=jY P i t+1*(inc p i t-dec p i t)) :
 PlanOk fl Q/\∀t,t<(jj fl).length->jL Q t=jL P t+ind (s=t)-ind (off=t):=by
 obtain ⟨sP,row,cell⟩:=Qu hP;refine ⟨jiE hQ (fun i hi=>?_) (fun i t hi ht=>?_),fun t ht=>?_⟩
 . have e:=ok.rows i hi;have q:jw (jY Q i) (jj fl).length=jw (jY P i) (jj fl).length+jw (fun t=>inc p i t-dec p i t) (jj fl).length:=by rw [<-qt];exact ji fun t _=>by rw [hat,Kj]
   rw [q,e,row i hi,K1]
 . have h1:=cell i t hi ht;rw [hat,Kj];rcases jof (v:=1) (ok.inc1 i t) (ok.dec1 i t) with e | ⟨e,e1⟩ | ⟨e,e1⟩
   . rw [Kj] at e;omega
   . rw [Kj] at e;obtain ⟨q,hq,rfl,rfl⟩:=jiX e1;have:=(ok.ok q hq).2.2.2.1;omega
   . rw [Kj] at e;obtain ⟨q,hq,rfl,ho⟩:=ji2 e1;have:=(ok.ok q hq).2.2.2.2 t ho;omega
 . have e:=ok.cols t ht;have q:jw (fun i=>jY Q i t) fl.length=jw (fun i=>jY P i t) fl.length+jw (fun i=>inc p i t-dec p i t) fl.length:=by rw [<-qt];exact ji fun i _=>by rw [hat,Kj]
   rw [Jp hQ,Jp sP,q,e];omega
def zj (fl:List Ship) (P:List (List Int)) (j:Nat):Int:=jL P j/qh fl j
def qM (fl:List Ship) (P:List (List Int)) (j:Nat):Int:=(jL P j+qh fl j-1)/qh fl j
theorem jc6 {T l:Int} (hl:0<l):T/l*l<=T/\T<(T/l+1)*l:=by have a:=Int.mul_ediv_add_emod T l;have b:=yv T (show l≠0 by omega);have c:=yh T hl;rw [KL,Kj,Int.mul_comm];omega
theorem jgk {T l:Int} (hl:0<l):(T+l-1)/l=(T-1)/l+1:=by rw [show T+l-1=T-1+1*l by omega,Int.add_mul_ediv_right _ _ (by omega)]
theorem jbZ {T l:Int} (hl:0<l):T<=(T+l-1)/l*l/\((T+l-1)/l-1)*l<T:=by have a:=jc6 (T:=T-1) hl;rw [jgk hl,Int.add_sub_cancel];omega
theorem jfb {a b l:Int} (hl:0<l) (h:a*l<b*l):a<b:=Int.lt_of_mul_lt_mul_right h (yg hl)
theorem jgz {fl:List Ship} (hfl:∀s∈fl,s.Ok) {P Q:List (List Int)} {s off:Nat} (hs:s<(jj fl).length) (ho:off<(jj fl).length) (col:∀t,t<(jj fl).length->jL Q t=jL P t+ind (s=t)-ind (off=t)) (g:2<=qM fl P off-zj fl P s) (ne:s≠off) (k:Int):QV fl Q k<=QV fl P k:=by
 unfold QV;have pt:∀t,t<(jj fl).length->j2 (jL Q t-k*qh fl t)<=j2 (jL P t-k*qh fl t)+((if s=t then (if k*qh fl s<=jL P s then 1 else 0) else 0)-(if off=t then (if k*qh fl off<jL P off then 1 else 0) else 0)):=fun t ht=>by
  rw [col t ht];by_cases c:s=t
  . subst c;rw [Ji rfl,qV (show ¬off=s by omega),if_pos rfl,if_neg (show ¬off=s by omega)];generalize k*qh fl s=x;unfold j2;split <;> split <;> split <;> omega
  . by_cases d:off=t
    . subst d;rw [Ji rfl,qV c,if_neg c,if_pos rfl];generalize k*qh fl off=x;unfold j2;split <;> split <;> split <;> omega
    . rw [qV c,qV d,if_neg c,if_neg d,show jL P t+0-0=jL P t by omega];omega
 refine KN (qP pt) ?_;rw [qt,zP,JR,JR,if_pos hs,if_pos ho];have ls:=(zw hfl hs).1;have lo:=(zw hfl ho).1;have:k*qh fl s<=jL P s->k*qh fl off<jL P off:=fun h=>by have a:=(jc6 (T:=jL P s) ls).2;have b:k<jL P s/qh fl s+1:=jfb ls (by omega);have c:=(jbZ (T:=jL P off) lo).2;unfold qM zj at g;generalize (jL P off+qh fl off-1)/qh fl off=G at g c;have d:=YO (show k<=G-1 by omega) (yg lo);omega
 by_cases c:k*qh fl s<=jL P s
 . rw [if_pos c,if_pos (this c)];omega
 . rw [if_neg c];split <;> omega
def sqI (T l:Int):Int:=T%l*(T/l+1)*(T/l+1)+(l-T%l)*(T/l)*(T/l)
theorem jop (T l:Int):sqI T l=T/l*(T/l)*l+(2*(T/l)+1)*(T%l):=by
 unfold sqI;generalize T/l=q;generalize T%l=r;have e:(q+1)*(q+1)=q*q+(2*q+1):=by rw [KL,Int.mul_add];omega
 rw [Int.mul_assoc,Int.mul_assoc,e,Int.mul_comm r,Int.mul_comm (l-r),Int.mul_sub,KL];omega
theorem jjq {T l:Int} (hl:0<l):sqI (T+1) l=sqI T l+(2*(T/l)+1):=by
 have a:=Int.mul_ediv_add_emod T l;have b:=yv T (show l≠0 by omega);have c:=yh T hl;rw [jop,jop];by_cases d:T%l+1<l
 . obtain ⟨e1,e2⟩:=(Int.ediv_emod_unique (a:=T+1) (b:=l) (q:=T/l) (r:=T%l+1) hl).mpr ⟨by omega,by omega,d⟩;rw [e1,e2,Int.mul_add (2*(T/l)+1),Int.mul_one];omega
 . obtain ⟨e1,e2⟩:=(Int.ediv_emod_unique (a:=T+1) (b:=l) (q:=T/l+1) (r:=0) hl).mpr ⟨by rw [Int.mul_add];omega,by omega,hl⟩;rw [e1,e2,Int.mul_zero];have e:(T/l+1)*(T/l+1)=T/l*(T/l)+(2*(T/l)+1):=by rw [KL,Int.mul_add];omega
   have key:∀x r l:Int,¬r+1<l->r<l->x*l=x*r+x:=fun x r l h1 h2=>by rw [show l=r+1 by omega,Int.mul_add,Int.mul_one]
   rw [e,KL,key (2*(T/l)+1) (T%l) l d c];omega
def sqS (fl:List Ship) (P:List (List Int)):Int:=jw ‹"aM"› (jj fl).length
theorem jms {fl:List Ship} (hfl:∀s∈fl,s.Ok) {P Q:List (List Int)} {s off:Nat} (hs:s<(jj fl).length) (ho:off<(jj fl).length) (col:∀t,t<(jj fl).length->jL Q t=jL P t+ind (s=t)-ind (off=t)) (g:2<=qM fl P off-zj fl P s) (ne:s≠off):sqS fl Q<sqS fl P:=by
 unfold sqS;have pt:∀t,t<(jj fl).length->sqI (jL Q t) (qh fl t)=sqI (jL P t) (qh fl t)+((if s=t then 2*zj fl P s+1 else 0)-(if off=t then 2*qM fl P off-1 else 0)):=fun t ht=>by
  have hl:=(zw hfl ht).1;rw [col t ht];by_cases c:s=t
  . subst c;rw [Ji rfl,qV (show ¬off=s by omega),if_pos rfl,if_neg (show ¬off=s by omega),kn,kn,jjq hl];rfl
  . by_cases d:off=t
    . subst d;have q:=jjq (T:=jL P off-1) hl;rw [Int.sub_add_cancel] at q;rw [Ji rfl,qV c,if_neg c,if_pos rfl,K1];unfold qM;rw [jgk hl];omega
    . rw [qV c,qV d,if_neg c,if_neg d,show jL P t+0-0=jL P t by omega];omega
 rw [ji pt,qt,zP,JR,JR,if_pos hs,if_pos ho];omega
theorem jj0 {fl:List Ship} (hfl:∀s∈fl,s.Ok) {P:List (List Int)} (hP:PlanOk fl P) (no:∀off,off<(jj fl).length->∃K:List Nat,off∈K/\(∀o∈K,o<(jj fl).length/\Clo (qo fl) P fl.length (jj fl).length K o)/\∀on∈K,qM fl P off-zj fl P on<2) :
 jdp fl.length (jj fl).length (jaU fl) (qo fl) (qp fl) P:=by
 obtain ⟨sP,row,cell⟩:=Qu hP;refine ⟨row,cell,fun k=>?_⟩;have hM:∃M:Nat->Prop,(∀o,M o->∀t,t<(jj fl).length->∀i,i<fl.length->Mv (qo fl) P o t i->M t)/\(∀t,t<(jj fl).length->M t->k*qh fl t<=jL P t)/\∀t,t<(jj fl).length->¬M t->jL P t<=k*qh fl t:=by
  refine ⟨fun t=>∃(off:Nat) (K:List Nat),off<(jj fl).length/\k<qM fl P off/\(∀o∈K,o<(jj fl).length/\Clo (qo fl) P fl.length (jj fl).length K o)/\(∀on∈K,qM fl P off-zj fl P on<2)/\t∈K,?_,?_,?_⟩
  . rintro o ⟨off,K,h1,h2,h3,h4,h5⟩ t ht i hi mv;rcases (h3 o h5).2 t ht with q | q
    . exact ⟨off,K,h1,h2,h3,h4,q⟩
    . exact absurd mv (q i hi)
  . rintro t ht ⟨off,K,h1,h2,h3,h4,h5⟩;have hl:=(zw hfl ht).1;have a:=h4 t h5;have b:=(jc6 (T:=jL P t) hl).1;have c:=YO (show k<=zj fl P t by omega) (yg hl);unfold zj at c;omega
  . intro t ht nt;have hl:=(zw hfl ht).1;obtain ⟨K,k1,k2,k3⟩:=no t ht;have q:¬k<qM fl P t:=fun z=>nt ⟨t,K,ht,z,k2,k3,k1⟩;have b:=(jbZ (T:=jL P t) hl).1;have c:=YO (show qM fl P t<=k by omega) (yg hl);unfold qM at c;omega
 obtain ⟨M,cl,hi,lo⟩:=hM;obtain ⟨mk,mkT⟩:∃mk:Nat->Bool,∀t,mk t=true ↔ M t:=⟨fun t=>@decide (M t) (Classical.propDecidable _),fun t=>@decide_eq_true_iff _ (Classical.propDecidable _)⟩;refine ⟨mk,?_⟩;have a1:zt fl.length (jj fl).length (fun s=>(qp fl).getD s 0) (jY P) k=jw ‹"aB"› (jj fl).length-k*zX (jj fl).length (fun s=>(qp fl).getD s 0) mk:=by
  unfold zt zX;rw [<-zR,<- zP];refine ji fun t ht=>?_;have cs:Jo fl.length (jY P) t=jL P t:=(Jp sP t).symm;dsimp only;rw [cs,Zy ht];by_cases c:mk t=true
  . rw [if_pos c,if_pos c];have:=hi t ht ((mkT t).mp c);unfold j2;split <;> omega
  . rw [if_neg c,if_neg c,Int.mul_zero];have:=lo t ht fun z=>c ((mkT t).mpr z);unfold j2;split <;> omega
 have a2:jw ‹"aB"› (jj fl).length=qJ fl.length (jj fl).length (fun i=>(jaU fl).getD i 0) (jY (qo fl)) mk:=by
  have e:jw ‹"aB"› (jj fl).length=jw (fun i=>jw (fun t=>if mk t=true then jY P i t else 0) (jj fl).length) fl.length:=by
   rw [JS];refine ji fun s _=>?_;by_cases c:mk s=true
   . rw [if_pos c];exact ji fun i _=>by rw [if_pos c]
   . rw [if_neg c,jS];intro i _;rw [if_neg c]
  rw [e];refine ji fun i hi'=>?_;dsimp only;have sp:jw (jY P i) (jj fl).length=jw ‹"as"› (jj fl).length+jw ‹"at"› (jj fl).length:=by rw [<-qt];exact ji fun s _=>by split <;> omega
  rw [row i hi'] at sp;by_cases q:∃t,t<(jj fl).length/\mk t=true/\0<jY P i t
  . obtain ⟨t,ht,mt,pt⟩:=q;have eo:jw ‹"at"› (jj fl).length=zo (jY (qo fl)) (jj fl).length mk i:=ji fun s hs=>by
      by_cases c:mk s=true
      . rw [if_pos c,if_pos c]
      . rw [if_neg c,if_neg c];have:=(cell i s hi' hs).2;by_cases z:jY P i s<jY (qo fl) i s
        . exact absurd ((mkT s).mpr (cl t ((mkT t).mp mt) s hs i hi' ⟨pt,z⟩)) c
        . omega
    have nn:0<=jw ‹"as"› (jj fl).length:=QL fun s hs=>by have:=(cell i s hi' hs).1;split <;> omega
    rw [<-eo];unfold j2;split <;> omega
  . have z:jw ‹"as"› (jj fl).length=0:=jS fun s hs=>by
      have:=(cell i s hi' hs).1;by_cases c:mk s=true
      . rw [if_pos c];by_cases y:0<jY P i s
        . exact absurd ⟨s,hs,c,y⟩ q
        . omega
      . rw [if_neg c]
    have le:jw ‹"at"› (jj fl).length<=zo (jY (qo fl)) (jj fl).length mk i:=qP fun s hs=>by have:=(cell i s hi' hs).2;split <;> omega
    rw [z];unfold j2;split <;> omega
 rw [a1,a2]
theorem jgh {A B:List Int} (f:Int×Int->Int) {j:Nat} (ha:j<A.length) (hb:j<B.length):((A.zip B).map f).getD j 0=f (A.getD j 0,B.getD j 0):=by rw [Yb,List.getElem?_map,Ya (by rw [yA];omega),List.getElem_zip,Yb,Yb,Ya ha,Ya hb];rfl
theorem jlc {P:List (List Int)} {n j:Nat} (h:j<n):(zI P n).getD j 0=jL P j:=by unfold zI;rw [Yb,List.getElem?_map,yw h];rfl
theorem jly {l:List D}:dNe (.lst l) (.lst [])=some (.bl !l.isEmpty):=by show (eqF 40 (.lst l) (.lst [])).map (fun b=>D.bl (!b))=_;cases l <;> rfl
def NoK (fl:List Ship) (P:List (List Int)) (off:Nat):Prop:=∃K:List Nat,off∈K/\(∀o∈K,o<(jj fl).length/\Clo (qo fl) P fl.length (jj fl).length K o)/\∀on∈K,qM fl P off-zj fl P on<2
def jnS (fl:List Ship) (P:List (List Int)) (d:D):Prop:=∃(p:List ‹"y"›) (ks:List Nat) (j s off:Nat),d=.lst (p.map qm)/\off<(jj fl).length/\s<(jj fl).length/\2<=qM fl P off-zj fl P s/\PathOk (qo fl) P fl.length (jj fl).length ks j s p (fun _=>0) (fun t=>ind (off=t))
theorem jhC {fl:List Ship} (tL:fl.length<=8) (hm:(jj fl).length<40) {P:List (List Int)} (sP:Shape fl.length (jj fl).length P) {G L:List Int} (hG:G.length=(jj fl).length/\∀j,j<(jj fl).length->G.getD j 0=qM fl P j) (hL:L.length=(jj fl).length/\∀j,j<(jj fl).length->L.getD j 0=zj fl P j) {off:Nat} (ho:off<(jj fl).length) (a b c z8 z9:Slot) :
 ∃r,(jA (jG 8 (jg jav (jb (jm 2) (jb (jm 1) (jb (jlp (jhB (jm 7) (eC .non))) jk)))))
   (jA (jG 9 (jH (JC (jaP (jm 8)) (jz 0) ‹"4"› (jm 0) 1 [6,7,5])))
   (Qh (qQ (jq dNe (ja 9) (jH (zx jk))))
   (qv (jH (jg Q6 (jb (jm 8) (jb (jq jO (ja 9) (eC (.int 0))) jk))))) qi)))
   [a,.sh ‹"g"›,.sh ‹"X"›,b,c,.sh (.lst (L.map D.int)),.sh (.lst (G.map D.int)),.sh (.int (off:Int)),z8,z9]=r /\
   ((∃y8 y9,r=.next [a,.sh ‹"g"›,.sh ‹"X"›,b,c,.sh (.lst (L.map D.int)),.sh (.lst (G.map D.int)),.sh (.int (off:Int)),y8,y9]/\NoK fl P off)\/∃d,r=.ret d/\jnS fl P d):=by
 have n0:0<fl.length:=by
  cases fl with
  | nil=>exact absurd ho (Ks _)
  | cons s fl=>exact Nat.succ_pos _
 have R0:Rch (qo fl) P fl.length (jj fl).length (fun s d=>s=off/\d=.non) [off] [.non]:=by
  refine ⟨rfl,by simp,fun s hs=>by rw [Yu.mp hs];exact ho,fun j s d h1 h2=>?_⟩;cases j with
  | zero=>cases h1;cases h2;exact .inl ⟨rfl,rfl⟩
  | succ j=>cases h1
 obtain ⟨d,⟨ks,ds,rfl,R,⟨e,he⟩,clo⟩,er⟩:=jea (jee fl) sP (by omega) R0 fun _=>n0;have hkl:ks.length<1000:=yz (Jd _ ks R.nd R.lt) (by omega);have lc:JC (jaP (jm 8)) (jz 0) ‹"4"› (jm 0) 1 [6,7,5] [a,.sh ‹"g"›,.sh ‹"X"›,b,c,.sh (.lst (L.map D.int)),.sh (.lst (G.map D.int)),.sh (.int (off:Int)),.sh ‹"K"›,z9]=some (nI (ks.filter fun s=>decide (2<=qM fl P off-zj fl P s))):=by
  have ed:jaP (jm 8) [a,.sh ‹"g"›,.sh ‹"X"›,b,c,.sh (.lst (L.map D.int)),.sh (.lst (G.map D.int)),.sh (.int (off:Int)),.sh ‹"K"›,z9]=some (nI ks):=by show some ((kI ks).map D.int)=_;rw [jpm]
  refine qq ed (by unfold nI;rw [Yd];omega) ?_;unfold nI;refine jiL (fun k:Nat=>D.int (k:Int)) (fun k:Nat=>D.int (k:Int)) (fun s=>decide (2<=qM fl P off-zj fl P s)) ks fun s hs=>?_;have hsm:=R.lt s hs;have g1:=JB (l:=G) (i:=off) (by omega);have g2:=JB (l:=L) (i:=s) (by omega);rw [hG.2 off ho] at g1;rw [hL.2 s hsm] at g2;exact ⟨[.sh (.int (s:Int)),.sh (.lst (G.map D.int)),.sh (.int (off:Int)),.sh (.lst (L.map D.int))],rfl,jZ (jy (jy (jy rfl rfl g1) (jy rfl rfl g2) qy) rfl jdt),rfl⟩
 refine ⟨_,(qD (ρ':=[a,.sh ‹"g"›,.sh ‹"X"›,b,c,.sh (.lst (L.map D.int)),.sh (.lst (G.map D.int)),.sh (.int (off:Int)),.sh ‹"K"›,z9]) (j8 (ju rfl er))).trans (qD (ρ':=[a,.sh ‹"g"›,.sh ‹"X"›,b,c,.sh (.lst (L.map D.int)),.sh (.lst (G.map D.int)),.sh (.int (off:Int)),.sh ‹"K"›,.sh (.lst (nI (ks.filter fun s=>decide (2<=qM fl P off-zj fl P s))))]) (zb lc)),?_⟩;cases hf:ks.filter fun s=>decide (2<=qM fl P off-zj fl P s) with
 | nil=>refine .inl ⟨.sh (.dic (kI ks) ds),.sh (.lst (nI [])),zA (jZ (jy rfl rfl jly)),ks,by rw [he];exact Yx _ Yf,fun o ho=>⟨R.lt o ho,clo o ho⟩,fun on hon=>?_⟩;have:=List.filter_eq_nil_iff.mp hf on hon;rw [decide_eq_true_iff] at this;omega
 | cons s r=>
   have hs:s∈ks/\2<=qM fl P off-zj fl P s:=by
    have:s∈ks.filter fun s=>decide (2<=qM fl P off-zj fl P s):=by rw [hf];exact Yf
    have:=Ku.mp this;exact ⟨this.1,yO this.2⟩
   obtain ⟨j,hj,ej⟩:=Y9 hs.1;have h0:ks[j]?=some s:=by rw [Ya hj,ej]
   obtain ⟨l,⟨p,hp,rfl⟩,ew⟩:=jcn R (by omega) (fun s d h=>.inl h.2) h0;exact .inr ⟨_,(Z6 (jZ (jy rfl rfl jly))).trans (JM (qw (ju (js rfl (js (jy rfl rfl jfw) rfl)) ew))),p,ks,j,s,off,rfl,ho,R.lt s hs.1,hs.2,jib R hp s h0⟩
theorem jh3 {fl:List Ship} (hfl:∀s∈fl,s.Ok) (tL:fl.length<=8) {P:List (List Int)} (hP:PlanOk fl P) :
 ∃d,((d=.non/\∀off,off<(jj fl).length->NoK fl P off)\/jnS fl P d)/\jbl [.lst (fl.map jr),.lst (P.map jh)]=some d:=by
 have hsl:(jj fl).length<40:=JP (by omega);have em:=jaV hfl tL hP;have e1:=jaR (fl:=fl) (fun s hs=>jmi (hfl s hs)) (by omega);have e2:Ja [.lst (fl.map jr)]=some ((qp fl).map D.int):=jbn (fl:=fl) (by omega);rw [jjm] at e1;obtain ⟨sP,row,cell⟩:=Qu hP;have ll:(qp fl).length=(jj fl).length:=Yd _;have tl:(zI P (jj fl).length).length=(jj fl).length:=by unfold zI;rw [Yd,List.length_range]
 have lb:∀x∈qp fl,0<x/\x<2000000000000000:=fun x hx=>by
  obtain ⟨j,hj,ej⟩:=Y9 hx;have hj':j<(jj fl).length:=by rw [<-ll];exact hj
  have:=zw hfl hj';rw [<-Zy hj',Yb,Ya hj,ej] at this;exact this
 unfold jbl;refine Qm (ρ:=[.sh ‹"c"›,.sh ‹"g"›,.un,.un,.un,.un,.un,.un,.un,.un]) _ rfl rfl fun C fin=>?_;unfold jfs;refine jJ [.sh ‹"c"›,.sh ‹"g"›,.un,.un,.un,.un,.un,.un,.un,.un] (by unfold Q8;rw [ju rfl em]) ?_;refine jJ [.sh ‹"c"›,.sh ‹"g"›,.sh ‹"X"›,.un,.un,.un,.un,.un,.un,.un] (zb (ju rfl e1)) ?_;refine jJ [.sh ‹"c"›,.sh ‹"g"›,.sh ‹"X"›,.sh ‹"7"›,.un,.un,.un,.un,.un,.un] (zb (ju rfl e2)) ?_;have el:qG [.lst ((qp fl).map D.int)]=some (.int ((jj fl).length:Int)):=by show some (D.int (((qp fl).map D.int).length:Int))=_;rw [Yd,ll]
 have er:∀{ρ:ef},ja 3 ρ=some ‹"7"›->JV (jb (jg qG (jb (ja 3) jk)) jk) ρ=some ((List.range (jj fl).length).map fun j:Nat=>D.int (j:Int)):=fun h=>by rw [JH (j:=((jj fl).length:Int)) (js (ju (js h rfl) el) rfl) (by omega) (by omega),Yq,jaY]
 refine jJ [.sh ‹"c"›,.sh ‹"g"›,.sh ‹"X"›,.sh ‹"7"›,.sh ‹"m"›,.un,.un,.un,.un,.un] (zb (qq (er rfl) (by rw [Yd,List.length_range];omega) ?_)) ?_
 . unfold zI;rw [YJ];exact Jg (fun j:Nat=>D.int (j:Int)) _ (List.range (jj fl).length) fun j hj=>⟨[.sh (.int (j:Int)),.sh ‹"g"›],rfl,rfl,ju rfl (ja6 (jdN sP (KF.mp hj)) (by rw [sP.1];omega))⟩
 have hz:∀{ρ:ef},ja 4 ρ=some ‹"m"›->ja 3 ρ=some ‹"7"›->Jt (jb (ja 4) (jb (ja 3) jk)) ρ=some (‹"q"›.map fun q=>.tup [.int q.1,.int q.2]):=fun h4 h3=>by unfold Jt;rw [js h4 (js h3 rfl)];exact congrArg some (QN D.int D.int _ _)
 have zl:(‹"q"›.map fun q:Int×Int=>D.tup [.int q.1,.int q.2]).length<16777216:=by rw [Yd,yA,tl,ll];omega
 have lcX:∀(f:Int×Int->Int) (fe:ef->Option D) (ρ:ef),ja 4 ρ=some ‹"m"›->ja 3 ρ=some ‹"7"›->(∀q∈(zI P (jj fl).length).zip (qp fl),fe [.sh (.int q.1),.sh (.int q.2)]=some (.int (f q)))->JC (Jt (jb (ja 4) (jb (ja 3) jk))) (Jz 2 ‹"R"›) ‹"l"› fe 2 [] ρ=some ((‹"q"›.map f).map D.int):=fun f fe ρ h4 h3 h=>qq (hz h4 h3) zl (by rw [YJ];exact Jg (fun q:Int×Int=>.tup [.int q.1,.int q.2]) _ ‹"q"› fun q hq=>⟨[.sh (.int q.1),.sh (.int q.2)],rfl,rfl,h q hq⟩)
 refine jJ [.sh ‹"c"›,.sh ‹"g"›,.sh ‹"X"›,.sh ‹"7"›,.sh ‹"m"›,.sh (.lst (‹"bw"›.map D.int)),.un,.un,.un,.un] (zb (lcX (fun q=>q.1/q.2) _ _ rfl rfl fun q hq=>?_)) ?_
 . have:=lb q.2 (yG hq).2;exact jy rfl rfl (zc this.1 (by omega))
 refine jJ [.sh ‹"c"›,.sh ‹"g"›,.sh ‹"X"›,.sh ‹"7"›,.sh ‹"m"›,.sh (.lst (‹"bw"›.map D.int)),.sh (.lst (‹"bu"›.map D.int)),.un,.un,.un] (zb (lcX (fun q=>(q.1+q.2-1)/q.2) _ _ rfl rfl fun q hq=>?_)) ?_
 . have:=lb q.2 (yG hq).2;exact jy (jy (jy rfl rfl j1) rfl qy) rfl (zc this.1 (by omega))
 have hL:(‹"bw"›.length=(jj fl).length)/\∀j,j<(jj fl).length->‹"bw"›.getD j 0=zj fl P j:=by refine ⟨by rw [Yd,yA,tl,ll];omega,fun j hj=>?_⟩;rw [jgh (fun q=>q.1/q.2) (by omega) (by omega),jlc hj,Zy hj];rfl
 have hG:(‹"bu"›.length=(jj fl).length)/\∀j,j<(jj fl).length->‹"bu"›.getD j 0=qM fl P j:=by refine ⟨by rw [Yd,yA,tl,ll];omega,fun j hj=>?_⟩;rw [jgh (fun q=>(q.1+q.2-1)/q.2) (by omega) (by omega),jlc hj,Zy hj];rfl
 generalize ‹"bw"›=L at hL;generalize ‹"bu"›=G at hG;refine jhF (fun j:Nat=>D.int (j:Int)) (jj fl).length (fun j ρ=>∃z7 z8 z9:Slot,ρ=[.sh ‹"c"›,.sh ‹"g"›,.sh ‹"X"›,.sh ‹"7"›,.sh ‹"m"›,.sh (.lst (L.map D.int)),.sh (.lst (G.map D.int)),z7,z8,z9]/\∀off,off<j->NoK fl P off) (jnS fl P) (er rfl) ⟨_,_,_,rfl,fun off h=>absurd h (Ks _)⟩ ?_ ?_ fun d h=>fin d (.inr h)
 . rintro j ρ hj ⟨z7,z8,z9,rfl,no⟩;obtain ⟨r,eB,h⟩:=jhC tL hsl sP hG hL hj (.sh ‹"c"›) (.sh ‹"7"›) (.sh ‹"m"›) z8 z9;refine ⟨_,rfl,?_⟩;rcases h with ⟨y8,y9,rfl,nk⟩ | ⟨d,rfl,yk⟩
   . refine .inl ⟨_,eB,_,_,_,rfl,fun off ho=>?_⟩;rcases YX off j with z | z
     . exact no off z
     . rw [show off=j by omega];exact nk
   . exact .inr ⟨d,eB,yk⟩
 . rintro ρ ⟨z7,z8,z9,rfl,no⟩;exact JN (JM rfl) (fin _ (.inl ⟨rfl,no⟩))
theorem jig {fl:List Ship} (hfl:∀s∈fl,s.Ok) (tL:fl.length<=8) {P:List (List Int)} (hP:PlanOk fl P) {d:D} (y:jnS fl P d):∃(Q:List (List Int)) (s off:Nat),jcZ [.lst (fl.map jr),.lst (P.map jh),d]=some (.lst (Q.map jh))/\PlanOk fl Q/\s<(jj fl).length/\off<(jj fl).length/\s≠off/\2<=qM fl P off-zj fl P s/\∀t,t<(jj fl).length->jL Q t=jL P t+ind (s=t)-ind (off=t):=by
 obtain ⟨p,ks,j,s,off,rfl,ho,hs,g,ok⟩:=y;have em:=jaV hfl tL hP;obtain ⟨sP,row,cell⟩:=Qu hP;obtain ⟨d,⟨Q,rfl,sQ,hat⟩,eb⟩:=jcv sP (by omega) (p:=p) ‹"ag"› 1;obtain ⟨pQ,col⟩:=jix hP sQ ok hat;refine ⟨Q,s,off,?_,pQ,hs,ho,fun z=>?_,g,col⟩
 . unfold jcZ;refine Qk (ρ:=[.sh ‹"c"›,.sh ‹"g"›,.sh ‹"ae"›]) rfl rfl fun C fin=>?_;unfold jfF;refine jJ [.sh ‹"c"›,.sh ‹"g"›,.sh ‹"ae"›] (by unfold Q8;rw [ju rfl em]) ?_;exact JN (JM (ju rfl eb)) fin
 . subst z;have hl:=(zw hfl hs).1;have a:=jc6 (T:=jL P s) hl;have b:=jbZ (T:=jL P s) hl;unfold qM zj at g;generalize jL P s/qh fl s=q at a g;generalize (jL P s+qh fl s-1)/qh fl s=G at b g;have:=jfb hl (show (G-1)*qh fl s<(q+1)*qh fl s by omega);omega
theorem jhk {fl:List Ship} (hfl:∀s∈fl,s.Ok) (tL:fl.length<=8) {P:List (List Int)} (hP:PlanOk fl P):zJ [.lst ((jj fl).map jC),.lst (P.map jh)]=some (.int (sqS fl P)):=by
 have hSl:=JP (fl:=fl) (by omega);have hPl:=hP.len;have et:=jcC (S:=jj fl) (by omega) hP.rows (by omega);unfold zJ;refine Qk (ρ:=[.sh ‹"j"›,.sh ‹"g"›,.un,.un,.un,.un,.un,.un]) rfl rfl fun C fin=>?_;unfold Qw;refine jJ [.sh ‹"j"›,.sh ‹"g"›,.sh (.int 0),.un,.un,.un,.un,.un] rfl ?_;refine jJ [.sh ‹"j"›,.sh ‹"g"›,.sh (.int 0),.sh ‹"m"›,.un,.un,.un,.un] (zb (ju rfl et)) ?_;refine jd8 (fun j:Nat=>D.int (j:Int)) (jj fl).length (fun j ρ=>∃z4 z5 z6 z7:Slot,ρ=[.sh ‹"j"›,.sh ‹"g"›,.sh (.int (jw ‹"aM"› j)),.sh ‹"m"›,z4,z5,z6,z7])
  (by rw [JH (j:=((jj fl).length:Int)) (js (ju rfl (show qG [.lst ((jj fl).map jC)]=some (.int ((jj fl).length:Int)) from by show some (D.int (((jj fl).map jC).length:Int))=_;rw [Yd])) rfl) (by omega) (by omega),Yq,jaY])
  ⟨_,_,_,_,rfl⟩ ?_ ?_
 . rintro j ρ hj ⟨z4,z5,z6,z7,rfl⟩;have hL:=zw hfl hj;have dp:=joT hj;have dt:=jox (P:=P) hj;have ds:=jkh hL.1 (jn9 hP hj) (jid hfl tL hP hj);have m0:=yv (jL P j) (show qh fl j≠0 by omega);have m1:=yh (jL P j) hL.1;refine ⟨_,[.sh ‹"j"›,.sh ‹"g"›,.sh (.int (jw ‹"aM"› j+jL P j%qh fl j*(jL P j/qh fl j+1)*(jL P j/qh fl j+1)+(qh fl j-jL P j%qh fl j)*(jL P j/qh fl j)*(jL P j/qh fl j))),.sh ‹"m"›,.sh (.int j),.sh (.int (qh fl j)),.sh (.int (jL P j/qh fl j)),.sh (.int (jL P j%qh fl j))],rfl,?_,.sh (.int j),.sh (.int (qh fl j)),.sh (.int (jL P j/qh fl j)),.sh (.int (jL P j%qh fl j)),?_⟩
   . exact (qD (j8 (d:=.int (qh fl j)) (jy (jy (jy rfl rfl dp) rfl JI) (jy (jy rfl rfl dp) rfl JQ) qy))).trans ((qD (j8 (jy (jy rfl rfl dt) rfl (zc hL.1 (by omega))))).trans ((qD (j8 (jy (jy rfl rfl dt) rfl (j5 hL.1)))).trans (j8 (jy (jy rfl (jy (jy rfl (jy rfl rfl j1) (Qx (by omega) (by omega))) (jy rfl rfl j1) (JD (by omega) (by omega))) j1) (jy (jy (jy rfl rfl qy) rfl (Qx (by omega) (by omega))) rfl (JD (by omega) (by omega))) j1))))
   . have e:jw ‹"aM"› (j+1)=jw ‹"aM"› j+jL P j%qh fl j*(jL P j/qh fl j+1)*(jL P j/qh fl j+1)+(qh fl j-jL P j%qh fl j)*(jL P j/qh fl j)*(jL P j/qh fl j):=by show jw _ j+sqI _ _=_;unfold sqI;rw [Int.add_assoc]
     rw [e]
 . rintro ρ ⟨z4,z5,z6,z7,rfl⟩;exact JN (JM rfl) fin
theorem jpX {s:Ship} (h:s.Ok) {x:Int} (x0:0<=x):(⟨s.b,s.e,if x<s.n then x else s.n,s.m⟩:Ship).Ok:=by
 have a:=h.n0;have b:=h.n1;refine ⟨h.lt,h.long,h.lo,h.hi,h.m0,h.m1,?_,?_⟩
 . show 0<=if x<s.n then x else s.n
   split <;> omega
 . show (if x<s.n then x else s.n)<=s.m*(s.e-s.b);split <;> omega
theorem jke (ns:List Int) {C:Res->Prop} {F':FS} {c:Int} (k:∀(fl:List Ship) (z3 z4 z5 z6 z7:Slot),fl.length<=4->(∀s∈fl,s.Ok)->C (F' [.sh (.scr ns),.sh (.int c),.ow (fl.map jr),z3,z4,z5,z6,z7,.un,.un,.un,.un,.un,.un,.un])) :
 C (jA (zQ ‹"S"› (jz 3)
   (jA ‹"w"›
   (JK 2 (ZJ (jb (jm 4) (jb (jm 5) (jb (jg QJ (jb (ja 6) (jb (jq qK (jq J4 (jg jT (jb (jm 0) (jb (jq qL (eC (.int 5)) (jq qS (eC (.int 2)) (ja 3))) jk))) (eC (.int 8))) (eC (.int 25))) jk))) (jb (jm 7) jk)))))))) F' [.sh (.scr ns),.sh (.int c),.ow [],.un,.un,.un,.un,.un,.un,.un,.un,.un,.un,.un,.un]):=by
 obtain ⟨n,hn,en⟩:=jeG (ns:=[3,4,2,3,1,0]) (i:=c%6) (by omega) (by show c%6<6;omega);have n01:0<=n/\n<=4:=by simp only [Yr,YG,Ky] at hn;omega
 clear hn;refine jd8 (fun j:Nat=>D.int (j:Int)) n.toNat (fun j ρ=>∃(fl:List Ship) (z3 z4 z5 z6 z7:Slot),fl.length=j/\(∀s∈fl,s.Ok)/\ρ=[.sh (.scr ns),.sh (.int c),.ow (fl.map jr),z3,z4,z5,z6,z7,.un,.un,.un,.un,.un,.un,.un])
  (by rw [JH (js (jy (qw (jiN (l:=[3,4,2,3,1,0].map D.int) rfl (show 6<16777216 by decide))) ‹"5"› en) rfl) n01.1 (by omega),jaY]) ⟨[],_,_,_,_,_,rfl,fun s hs=>absurd hs YG,rfl⟩ ?_ (fun ρ ⟨fl,z3,z4,z5,z6,z7,h1,h2,h3⟩=>by rw [h3];exact k fl z3 z4 z5 z6 z7 (by omega) h2)
 rintro j ρ hj ⟨fl,z3,z4,z5,z6,z7,h1,h2,rfl⟩;have e4:=jfV ns (4+2*(j:Int)) (by omega);have e5:=jfV ns (5+2*(j:Int)) (by omega);obtain ⟨s,hs0,es⟩:=jnP (cell ns (4+2*(j:Int))) (cell ns (5+2*(j:Int))) 0;have hs:=hs0.ok;have x0:=yv (cell ns (5+2*(j:Int))/8) (show (25:Int)≠0 by decide);have a4:jg jT (jb (jm 0) (jb (jq qL (eC (.int 4)) (jq qS (eC (.int 2)) (ja 3))) jk)) ‹"az"›=some (.int (cell ns (4+2*(j:Int)))):=ju (js rfl (js (jy rfl (jy rfl rfl (Qx (by decide) (by decide))) j1) rfl)) e4;have a5:∀{y4 y5 y6 y7:Slot},jg jT (jb (jm 0) (jb (jq qL (eC (.int 5)) (jq qS (eC (.int 2)) (ja 3))) jk)) [.sh (.scr ns),.sh (.int c),.ow (fl.map jr),.sh (.int (j:Int)),y4,y5,y6,y7,.un,.un,.un,.un,.un,.un,.un]=some (.int (cell ns (5+2*(j:Int)))):=ju (js rfl (js (jy rfl (jy rfl rfl (Qx (by decide) (by decide))) j1) rfl)) e5;refine ⟨‹"az"›,[.sh (.scr ns),.sh (.int c),.ow ((fl++[(⟨s.b,s.e,if cell ns (5+2*(j:Int))/8%25<s.n then cell ns (5+2*(j:Int))/8%25 else s.n,s.m⟩:Ship)]).map jr),.sh (.int (j:Int)),.sh (.int s.b),.sh (.int s.e),.sh (.int s.n),.sh (.int s.m),.un,.un,.un,.un,.un,.un,.un],rfl,?_,_,_,_,_,_,_,by rw [YQ,h1];rfl,fun t ht=>?_,rfl⟩
 . refine (qD (ρ':=[.sh (.scr ns),.sh (.int c),.ow (fl.map jr),.sh (.int (j:Int)),.sh (.int s.b),.sh (.int s.e),.sh (.int s.n),.sh (.int s.m),.un,.un,.un,.un,.un,.un,.un]) (by unfold jg3;rw [ju (js a4 (js a5 (js rfl rfl))) es];rfl)).trans ?_;rw [YW];exact jok (ds:=fl.map jr) rfl (joS (js rfl (js rfl (js (ju (js rfl (js (jy (jy a5 rfl (zc (by decide) (by decide))) rfl (j5 (by decide))) rfl)) rfl) (js rfl rfl)))) (show 4<16777216 by decide)) (by rw [Yd];omega)
 . rcases YV.mp ht with ht | ht
   . exact h2 t ht
   . rw [Yu.mp ht];exact jpX hs x0
theorem jmF (ns:List Int) (hns:ns.length<=63):jo1 [.scr ns]=some (.bl true):=by
 have ec0:=jfV ns 0 (by omega);have ec:=jfV ns 3 (by omega);obtain ⟨cs,ecs,hcs⟩:=jme ns (some 12) (some 63);have ecat:=js0 (cs:=cs) (by omega);refine Qk (m:=jiM) (ρ:=[.sh (.scr ns),.un,.un,.un,.un,.un,.un,.un,.un,.un,.un,.un,.un,.un,.un]) rfl rfl ?_;intro C fin;unfold jiM;generalize cell ns 3=c at ec;refine jJ [.sh (.scr ns),.sh (.int c),.un,.un,.un,.un,.un,.un,.un,.un,.un,.un,.un,.un,.un] (j8 (ju rfl ec)) ?_;refine jJ [.sh (.scr ns),.sh (.int c),.ow [],.un,.un,.un,.un,.un,.un,.un,.un,.un,.un,.un,.un] rfl ?_;refine jke ns fun fl z3 z4 z5 z6 z7 tL hfl=>?_;have epa:=jd4 fl (by omega);obtain ⟨P0,hP0,epl⟩:=jkH fl hfl (by omega) (cs++[0]) (by simp) (by rw [YQ];simp;omega);obtain ⟨d,⟨E,rfl,sE,hE⟩,ee⟩:=jku hfl (by omega);have pE:=jkv sE hE;have hEl:=pE.len;refine jJ [.sh (.scr ns),.sh (.int c),.sh ‹"c"›,z3,z4,z5,z6,z7,.sh ‹"j"›,.un,.un,.un,.un,.un,.un] (by unfold jbW;exact zb (ju rfl epa)) ?_;refine jJ [.sh (.scr ns),.sh (.int c),.sh ‹"c"›,z3,z4,z5,z6,z7,.sh ‹"j"›,.sh (.lst (P0.map jh)),.un,.un,.un,.un,.un] (by unfold jbW;exact zb (ju (js rfl (js (qw (jy (qw (show eSl (ja 0) (pSo (eC (.int 12))) (pSo (eC (.int 63))) _=some (cs.map D.int) by show some (L2.jcR (ns.map D.int) (some 12) (some 63))=_;rw [ecs])) rfl ecat)) rfl)) epl)) ?_;obtain ⟨x,hx⟩:∃x:Int,cell ns 0%30=x:=⟨_,rfl⟩;refine jJ [.sh (.scr ns),.sh (.int c),.sh ‹"c"›,z3,z4,z5,z6,z7,.sh ‹"j"›,.sh (.lst (P0.map jh)),.sh ‹"z"›,.un,.un,.un,.un] (zb (jiN (js rfl (js rfl (js (by rw [jy (ju rfl ec0) rfl (j5 (by decide)),hx]) rfl))) (show 3<16777216 by decide))) ?_;refine jhF (fun j:Nat=>D.int (j:Int)) 40 (fun _ ρ=>∃(P:List (List Int)) (y3 y11 y12 y13 y14:Slot),PlanOk fl P/\ρ=[.sh (.scr ns),.sh (.int c),.sh ‹"c"›,y3,z4,z5,z6,z7,.sh ‹"j"›,.sh ‹"g"›,.sh ‹"z"›,y11,y12,y13,y14]) (fun d=>d=.bl true)
  (by rw [JH (j:=40) (js rfl rfl) (by decide) (by decide),jaY];rfl) ⟨P0,_,_,_,_,_,hP0,rfl⟩ ?_ ?_ (fun d h=>by rw [h];exact fin)
 . rintro j ρ hj ⟨P,y3,y11,y12,y13,y14,hP,rfl⟩;have hPl:=hP.len;refine ⟨‹"bc"›,rfl,?_⟩;obtain ⟨d,hd,ed⟩:=jh3 hfl (by omega) hP;have set11:jG 11 (jg jbl (jb (jH (jg Qc (jb (ja 2) jk))) (jb ‹"bb"› jk))) ‹"bc"›=.next [.sh (.scr ns),.sh (.int c),.sh ‹"c"›,.sh (.int (j:Int)),z4,z5,z6,z7,.sh ‹"j"›,.sh ‹"g"›,.sh ‹"z"›,.sh d,y12,y13,y14]:=j8 (ju (js (qw (ju rfl rfl)) (js (qw (jeY (by omega) rfl)) rfl)) ed);rcases hd with ⟨rfl,no⟩ | yes
   . right;refine ⟨.bl true,?_,rfl⟩;have hP':=jj0 hfl hP no;have eq:∀k,QV fl P k=QV fl E k:=fun k=>Int.le_antisymm (jjF (Qu hP).1 hP' pE k) (jjF sE hE hP k)
     suffices main:∀C:Res->Prop,C (.ret (.bl true))->C _ from main (fun r=>r=.ret (.bl true)) rfl
     intro C2 fin2;refine jJ _ set11 ?_;refine JN (F:=jA _ _) rfl ?_;unfold jA;rw [Z6 (jZ rfl)]
     suffices main:∀C:Res->Prop,C (.ret (.bl true))->C (jA (jG 12 (jg jds (jb (jH (jg Qc (jb (ja 2) jk))) jk)))
     (jA (zQ ‹"9"› (jz 13)
     (Qh ‹"ap"›
     (qv (eC (.bl false))) qi))
     (qv (eC (.bl true)))) [.sh (.scr ns),.sh (.int c),.sh (.lst (fl.map jr)),.sh (.int (j:Int)),z4,z5,z6,z7,.sh (.lst ((jj fl).map jC)),.sh (.lst (P.map jh)),.sh (.lst ([0,1,x].map D.int)),.sh .non,y12,y13,y14]) by have q:=main (fun r=>r=.ret (.bl true)) rfl;unfold jA at q;rw [q];exact fin2
     intro C3 fin3;refine jJ [.sh (.scr ns),.sh (.int c),.sh ‹"c"›,.sh (.int (j:Int)),z4,z5,z6,z7,.sh ‹"j"›,.sh ‹"g"›,.sh ‹"z"›,.sh .non,.sh (.lst (E.map jh)),y13,y14] (j8 (ju (js (qw (ju rfl rfl)) rfl) ee)) ?_;refine jjI D.int ([0,1,x]++[2,3,4,5,6]) (fun _ ρ=>∃z,ρ=[.sh (.scr ns),.sh (.int c),.sh ‹"c"›,.sh (.int (j:Int)),z4,z5,z6,z7,.sh ‹"j"›,.sh ‹"g"›,.sh ‹"z"›,.sh .non,.sh (.lst (E.map jh)),z,y14]) (ql (qw (jy rfl rfl rfl))) ⟨_,rfl⟩ ?_ ?_
     . rintro pre k q ρ _ ⟨z,rfl⟩;have eE:=QG hfl (by omega) sE.2 (by omega) k;have eP:=QG hfl (by omega) hP.rows (by omega) k;exact ⟨[.sh (.scr ns),.sh (.int c),.sh ‹"c"›,.sh (.int (j:Int)),z4,z5,z6,z7,.sh ‹"j"›,.sh ‹"g"›,.sh ‹"z"›,.sh .non,.sh (.lst (E.map jh)),.sh (.int k),y14],_,rfl,zA (jZ (jy (ju rfl eP) (ju rfl eE) (jnD (eq k)))),_,rfl⟩
     . rintro ρ ⟨z,rfl⟩;exact JN (JM rfl) fin3
   . left;obtain ⟨Q,s,off,em,hQ,hs,ho,ne,g,col⟩:=jig hfl (by omega) hP yes;have hQl:=hQ.len;have eq:=jhk hfl (by omega) hQ;have ep:=jhk hfl (by omega) hP;have lt:=jms hfl hs ho col g ne;obtain ⟨l,hl⟩:∃l,d=.lst l:=by obtain ⟨p,_,_,_,_,e,_⟩:=yes;exact ⟨_,e⟩
     subst hl
     suffices main:∀C:Res->Prop,(∀z13:Slot,C (.next ‹"a4"›))->C _ by obtain ⟨z13,e⟩:=main (fun r=>∃z13:Slot,r=.next ‹"a4"›) fun z=>⟨z,rfl⟩;exact ⟨_,e,Q,_,_,_,_,_,hQ,rfl⟩
     intro C2 fin2;refine jJ _ set11 ?_;refine jJ [.sh (.scr ns),.sh (.int c),.sh ‹"c"›,.sh (.int (j:Int)),z4,z5,z6,z7,.sh ‹"j"›,.sh ‹"g"›,.sh ‹"z"›,.sh (.lst l),y12,y13,y14] (zA (jZ rfl)) ?_;refine jJ ‹"a5"› (j8 (ju (js (qw (ju rfl rfl)) (js (qw (jeY (by omega) rfl)) (js rfl rfl))) em)) ?_;refine jJ ‹"a5"› (zA (jZ (jy (ju rfl eq) (ju rfl ep) (by rw [jdt,Y1 (by omega)])))) ?_;refine jjI D.int [0,1,x] (fun _ ρ=>∃z,ρ=[.sh (.scr ns),.sh (.int c),.sh ‹"c"›,.sh (.int (j:Int)),z4,z5,z6,z7,.sh ‹"j"›,.sh ‹"g"›,.sh ‹"z"›,.sh (.lst l),y12,z,.sh (.lst (Q.map jh))]) (ql rfl) ⟨_,rfl⟩ ?_ ?_
     . rintro pre k q ρ _ ⟨z,rfl⟩;have eQ:=QG hfl (by omega) hQ.rows (by omega) k;have eP:=QG hfl (by omega) hP.rows (by omega) k;exact ⟨[.sh (.scr ns),.sh (.int c),.sh ‹"c"›,.sh (.int (j:Int)),z4,z5,z6,z7,.sh ‹"j"›,.sh ‹"g"›,.sh ‹"z"›,.sh (.lst l),y12,.sh (.int k),.sh (.lst (Q.map jh))],_,rfl,zA (jZ (jy (ju rfl eQ) (ju rfl eP) (jrV (jgz hfl hs ho col g ne k)))),_,rfl⟩
     . rintro ρ ⟨z,rfl⟩;exact JN (j8 rfl) (fin2 z)
 . rintro ρ ⟨P,y3,y11,y12,y13,y14,hP,rfl⟩;exact JN (JM rfl) fin
end Q
section
namespace Q
open PySem PySem.Spec PyProof.Rows L2
def top (i:Nat):Stmt:=PySem.Challenge.pw_evenquay_k91_whole_chains_lead_to_even.main.body.getD i (.Pass ⟨0,0,0,0⟩)
abbrev zd:Stmt:=top 53
abbrev qe:Stmt:=top 56
abbrev Jb:Stmt:=top 57
abbrev Js:Stmt:=top 58
abbrev Ju:Stmt:=top 54
abbrev JO:Stmt:=top 11
abbrev Jr:Stmt:=top 12
abbrev zM:Stmt:=top 13
abbrev qT:Stmt:=top 14
abbrev Jl:Stmt:=top 15
abbrev Jv:Stmt:=top 16
abbrev Q2:Stmt:=top 17
abbrev jb8:Stmt:=top 18
abbrev qZ:Stmt:=top 24
abbrev Jw:Stmt:=top 23
abbrev zg:Stmt:=top 25
abbrev qY:Stmt:=top 19
abbrev qU:Stmt:=top 20
abbrev QO:Stmt:=top 26
abbrev jam:Stmt:=top 34
abbrev jao:Stmt:=top 35
abbrev Q5:Stmt:=top 36
abbrev zE:Stmt:=top 42
abbrev J1:Stmt:=top 39
abbrev jat:Stmt:=top 43
abbrev zT:Stmt:=top 45
abbrev ZQ:Stmt:=top 47
abbrev QZ:Stmt:=top 48
abbrev Zc:Stmt:=top 37
abbrev Je:Stmt:=top 38
abbrev zu:Stmt:=top 40
abbrev zr:Stmt:=top 33
abbrev jN:Stmt:=top 49
abbrev Jn:Stmt:=top 50
abbrev zK:Stmt:=top 21
abbrev jb0:Stmt:=top 51
abbrev qk:Stmt:=top 59
abbrev zm:Stmt:=top 61
abbrev Jc:Stmt:=top 60
abbrev jaT:Stmt:=top 62
theorem ar1 {α:Type} {P:List α->Prop} (h:∀v0:α,P [v0]):∀us:List α,us.length=1->P us
 | [v0],_=>h v0
theorem ar2 {α:Type} {P:List α->Prop} (h:∀v0 v1:α,P [v0,v1]):∀us:List α,us.length=2->P us
 | [v0,v1],_=>h v0 v1
theorem ar3 {α:Type} {P:List α->Prop} (h:∀v0 v1 v2:α,P [v0,v1,v2]):∀us:List α,us.length=3->P us
 | [v0,v1,v2],_=>h v0 v1 v2
theorem ar4 {α:Type} {P:List α->Prop} (h:∀v0 v1 v2 v3:α,P [v0,v1,v2,v3]):∀us:List α,us.length=4->P us
 | [v0,v1,v2,v3],_=>h v0 v1 v2 v3
set_option genSizeOf false
set_option genInjectivity false
structure Adr where
 uj:Addr
 ux:FuncData
 uK:Addr
 uH:FuncData
 uQ:Addr
 uL:FuncData
 uY:Addr
 ve:FuncData
 uZ:Addr
 uU:FuncData
 vo:Addr
 vq:FuncData
 vP:Addr
 vL:FuncData
 vA:Addr
 vw:FuncData
 ud:Addr
 uf:FuncData
 wc:Addr
 wq:FuncData
 u9:Addr
 vc:FuncData
 vW:Addr
 wo:FuncData
 sd:Addr
 si:FuncData
 vB:Addr
 vp:FuncData
 vM:Addr
 vO:FuncData
 uo:Addr
 ui:FuncData
 vn:Addr
 vx:FuncData
 uO:Addr
 uI:FuncData
 wQ:Addr
 wN:FuncData
 wX:Addr
 wY:FuncData
 wW:Addr
 wV:FuncData
 we:Addr
 wA:FuncData
 ra:Addr
 rf:FuncData
 wm:Addr
 wz:FuncData
 wR:Addr
 rb:FuncData
 vt:Addr
 vy:FuncData
 rS:Addr
 r8:FuncData
 wk:Addr
 wy:FuncData
 wD:Addr
 wx:FuncData
 uP:Addr
 uN:FuncData
 vX:Addr
 wg:FuncData
 vd:Addr
 uW:FuncData
 uw:Addr
 ur:FuncData
 u3:Addr
 uT:FuncData
 vC:Addr
 vv:FuncData
 rR:Addr
 rY:FuncData
 uA:Addr
 uB:FuncData
 uq:Addr
 uk:FuncData
 uM:Addr
 uF:FuncData
 sA:Addr
 sq:FuncData
 t_NEED:Tok
 t_MOST:Tok
 t_END:Tok
 t_BEGIN:Tok
 t_TO:Tok
 t_FROM:Tok
 t_OFF:Tok
 t_SHIP:Tok
 t_PART:Tok
 t_MANY:Tok
 t_MARKS:Tok
structure Txt (K:PySem.W.Frag) (mg:Str->Option Value) (A:Adr):Prop where
 tM:Fun K "_law_cell_at" "_law_cell_at" zd A.uj A.ux
 tS:Binds K A.ux ["script","k"] []
 tT:mg "_law_cell_at"=some (.ref A.uj)
 uG:Fun K "_law_parts" "_law_parts" qe A.uK A.uH
 vF:Binds K A.uH ["fleet"] []
 vE:mg "_law_parts"=some (.ref A.uK)
 vK:Fun K "_law_rooms" "_law_rooms" Jb A.uQ A.uL
 wZ:Binds K A.uL ["ship","parts"] []
 rl:mg "_law_rooms"=some (.ref A.uQ)
 vR:Fun K "_law_plan" "_law_plan" Js A.uY A.ve
 rB:Binds K A.ve ["fleet","cells"] []
 rA:mg "_law_plan"=some (.ref A.uY)
 vS:Fun K "_law_ship" "_law_ship" Ju A.uZ A.uU
 rF:Binds K A.uU ["one","two","kind"] []
 rH:mg "_law_ship"=some (.ref A.uZ)
 vz:Fun K "is_whole" "is_whole" JO A.vo A.vq
 wJ:Binds K A.vq ["thing"] []
 wF:mg "is_whole"=some (.ref A.vo)
 wM:Fun K "is_ship" "is_ship" Jr A.vP A.vL
 sD:Binds K A.vL ["thing"] []
 sI:mg "is_ship"=some (.ref A.vP)
 wB:Fun K "is_fleet" "is_fleet" zM A.vA A.vw
 rV:Binds K A.vw ["thing"] []
 rX:mg "is_fleet"=some (.ref A.vA)
 ue:Fun K "must_be_fleet" "must_be_fleet" qT A.ud A.uf
 uS:Binds K A.uf ["thing"] []
 uR:mg "must_be_fleet"=some (.ref A.ud)
 rq:Fun K "bounds" "bounds" Jl A.wc A.wq
 sS:Binds K A.wq ["fleet"] []
 sZ:mg "bounds"=some (.ref A.wc)
 uz:Fun K "stretches" "stretches" Jv A.u9 A.vc
 u4:Binds K A.vc ["fleet"] []
 vb:mg "stretches"=some (.ref A.u9)
 wG:Fun K "length" "length" Q2 A.vW A.wo
 rK:Binds K A.wo ["stretch"] []
 rC:mg "length"=some (.ref A.vW)
 rP:Fun K "room" "room" jb8 A.sd A.si
 sO:Binds K A.si ["ship","stretch"] []
 sV:mg "room"=some (.ref A.sd)
 v9:Fun K "is_share" "is_share" qZ A.vB A.vp
 se:Binds K A.vp ["ship","spans","thing"] []
 sf:mg "is_share"=some (.ref A.vB)
 wK:Fun K "is_plan" "is_plan" Jw A.vM A.vO
 sJ:Binds K A.vO ["fleet","thing"] []
 sF:mg "is_plan"=some (.ref A.vM)
 uu:Fun K "must_be_plan" "must_be_plan" zg A.uo A.ui
 u7:Binds K A.ui ["fleet","thing"] []
 u0:mg "must_be_plan"=some (.ref A.uo)
 vm:Fun K "rooms_of" "rooms_of" qY A.vn A.vx
 wa:Binds K A.vx ["fleet"] []
 vZ:mg "rooms_of"=some (.ref A.vn)
 uJ:Fun K "lengths_of" "lengths_of" qU A.uO A.uI
 vG:Binds K A.uI ["fleet"] []
 vI:mg "lengths_of"=some (.ref A.uO)
 vV:Fun K "total" "total" QO A.wQ A.wN
 rj:Binds K A.wN ["plan","place"] []
 w6:mg "total"=some (.ref A.wQ)
 sv:Fun K "mover" "mover" jam A.wX A.wY
 mm:Binds K A.wY ["rooms","part","off","on"] []
 mj:mg "mover"=some (.ref A.wX)
 rm:Fun K "reach" "reach" jao A.wW A.wV
 su:Binds K A.wV ["rooms","part","begun"] []
 sr:mg "reach"=some (.ref A.wW)
 vY:Fun K "way_to" "way_to" Q5 A.we A.wA
 rO:Binds K A.wA ["moves","end"] []
 rp:mg "way_to"=some (.ref A.we)
 sy:Fun K "chain" "chain" zE A.ra A.rf
 mi:Binds K A.rf ["fleet","plan"] []
 me:mg "chain"=some (.ref A.ra)
 v5:Fun K "behind" "behind" J1 A.wm A.wz
 rM:Binds K A.wz ["part","way","many"] []
 rD:mg "behind"=some (.ref A.wm)
 sx:Fun K "moved" "moved" jat A.wR A.rb
 mf:Binds K A.rb ["fleet","plan","moves"] []
 md:mg "moved"=some (.ref A.wR)
 wH:Fun K "bound_in" "bound_in" zT A.vt A.vy
 rZ:Binds K A.vy ["need","rooms","marks"] []
 sk:mg "bound_in"=some (.ref A.vt)
 wu:Fun K "kept" "kept" ZQ A.rS A.r8
 w5:Binds K A.r8 ["numbers","marks","mark"] []
 wO:mg "kept"=some (.ref A.rS)
 rL:Fun K "joined" "joined" QZ A.wk A.wy
 sR:Binds K A.wy ["marked","others","marks"] []
 sT:mg "joined"=some (.ref A.wk)
 rz:Fun K "put_in" "put_in" Zc A.wD A.wx
 sU:Binds K A.wx ["needs","rooms","part"] []
 sW:mg "put_in"=some (.ref A.wD)
 vJ:Fun K "most_along" "most_along" Je A.uP A.uN
 rg:Binds K A.uN ["needs","rooms","part","way"] []
 rh:mg "most_along"=some (.ref A.uP)
 v7:Fun K "filled" "filled" zu A.vX A.wg
 rn:Binds K A.wg ["needs","rooms","tops","part"] []
 rG:mg "filled"=some (.ref A.vX)
 vQ:Fun K "no_cranes" "no_cranes" zr A.vd A.uW
 rJ:Binds K A.uW ["rooms"] []
 rE:mg "no_cranes"=some (.ref A.vd)
 um:Fun K "evened_apart" "evened_apart" jN A.uw A.ur
 va:Binds K A.ur ["needs","rooms","hours","marks"] []
 u6:mg "evened_apart"=some (.ref A.uw)
 vD:Fun K "evened" "evened" Jn A.u3 A.uT
 wt:Binds K A.uT ["needs","rooms","hours"] []
 wC:mg "evened"=some (.ref A.u3)
 wj:Fun K "needs_of" "needs_of" zK A.vC A.vv
 rU:Binds K A.vv ["fleet"] []
 sj:mg "needs_of"=some (.ref A.vC)
 sM:Fun K "even" "even" jb0 A.rR A.rY
 mw:Binds K A.rY ["fleet"] []
 mz:mg "even"=some (.ref A.rR)
 uC:Fun K "_law_totals" "_law_totals" qk A.uA A.uB
 vh:Binds K A.uB ["parts","plan"] []
 vj:mg "_law_totals"=some (.ref A.uA)
 uv:Fun K "_law_squares" "_law_squares" zm A.uq A.uk
 uX:Binds K A.uk ["parts","plan"] []
 u5:mg "_law_squares"=some (.ref A.uq)
 tX:Fun K "_law_above" "_law_above" Jc A.uM A.uF
 uh:Binds K A.uF ["parts","plan","k"] []
 ug:mg "_law_above"=some (.ref A.uM)
 mE:Fun K "law" "law" jaT A.sA A.sq
 mH:Binds K A.sq ["script"] []
 mI:mg "law"=some (.ref A.sA)
 rW:mg "NEED"=some (.int 2 A.t_NEED)
 rQ:mg "MOST"=some (.int 3 A.t_MOST)
 sY:mg "END"=some (.int 1 A.t_END)
 wU:mg "BEGIN"=some (.int 0 A.t_BEGIN)
 mG:mg "TO"=some (.int 1 A.t_TO)
 sL:mg "FROM"=some (.int 0 A.t_FROM)
 mC:mg "OFF"=some (.int 1 A.t_OFF)
 mx:mg "SHIP"=some (.int 0 A.t_SHIP)
 sN:mg "PART"=some (.int 1 A.t_PART)
 sX:mg "MANY"=some (.int 0 A.t_MANY)
 sC:mg "MARKS"=some (.int 2 A.t_MARKS)
 tH:mg "len"=none
 tV:mg "range"=none
 rN:mg "sorted"=none
 wL:mg "min"=none
 tU:mg "isinstance"=none
 my:mg "bool"=none
 mn:mg "int"=none
 uV:mg "all"=none
 ma:mg "tuple"=none
 tN:mg "list"=none
 mF:mg "set"=none
 vi:mg "zip"=none
 tO:mg "sum"=none
 uy:mg "enumerate"=none
 mB:mg "dict"=none
 rT:mg "reversed"=none
 mr:mg "max"=none
theorem jcN:FnScope ["script","k"] ["script","k"] (je zd):=⟨rfl,rfl,rfl,by decide +kernel,rfl,by decide +kernel,by decide +kernel⟩
theorem vk:FnScope ["fleet","hours"] ["fleet"] (je qe):=⟨rfl,rfl,rfl,by decide +kernel,rfl,by decide +kernel,by decide +kernel⟩
theorem ub:FnScope ["ship","parts","found","begin","end"] ["ship","parts"] (je Jb):=⟨rfl,rfl,rfl,by decide +kernel,rfl,by decide +kernel,by decide +kernel⟩
theorem tG:FnScope ["fleet","cells","parts","plan","i","most","left","row","s","cell","some","at","more"] ["fleet","cells"] (je Js):=⟨rfl,rfl,rfl,by decide +kernel,rfl,by decide +kernel,by decide +kernel⟩
theorem tJ:FnScope ["one","two","kind","begin","end","most","mixed","full","need"] ["one","two","kind"] (je Ju):=⟨rfl,rfl,rfl,by decide +kernel,rfl,by decide +kernel,by decide +kernel⟩
theorem jgO:FnScope ["thing"] ["thing"] (je JO):=⟨rfl,rfl,rfl,by decide +kernel,rfl,by decide +kernel,by decide +kernel⟩
theorem wI:FnScope ["thing","hours"] ["thing"] (je Jr):=⟨rfl,rfl,rfl,by decide +kernel,rfl,by decide +kernel,by decide +kernel⟩
theorem jhz:FnScope ["thing"] ["thing"] (je zM):=⟨rfl,rfl,rfl,by decide +kernel,rfl,by decide +kernel,by decide +kernel⟩
theorem jcc:FnScope ["thing"] ["thing"] (je qT):=⟨rfl,rfl,rfl,by decide +kernel,rfl,by decide +kernel,by decide +kernel⟩
theorem vN:FnScope ["fleet","begins","ends"] ["fleet"] (je Jl):=⟨rfl,rfl,rfl,by decide +kernel,rfl,by decide +kernel,by decide +kernel⟩
theorem vH:FnScope ["fleet","rising"] ["fleet"] (je Jv):=⟨rfl,rfl,rfl,by decide +kernel,rfl,by decide +kernel,by decide +kernel⟩
theorem jjW:FnScope ["stretch"] ["stretch"] (je Q2):=⟨rfl,rfl,rfl,by decide +kernel,rfl,by decide +kernel,by decide +kernel⟩
theorem jmN:FnScope ["ship","stretch"] ["ship","stretch"] (je jb8):=⟨rfl,rfl,rfl,by decide +kernel,rfl,by decide +kernel,by decide +kernel⟩
theorem jgi:FnScope ["ship","spans","thing"] ["ship","spans","thing"] (je qZ):=⟨rfl,rfl,rfl,by decide +kernel,rfl,by decide +kernel,by decide +kernel⟩
theorem wb:FnScope ["fleet","thing","spans"] ["fleet","thing"] (je Jw):=⟨rfl,rfl,rfl,by decide +kernel,rfl,by decide +kernel,by decide +kernel⟩
theorem jcP:FnScope ["fleet","thing"] ["fleet","thing"] (je zg):=⟨rfl,rfl,rfl,by decide +kernel,rfl,by decide +kernel,by decide +kernel⟩
theorem vT:FnScope ["fleet","spans"] ["fleet"] (je qY):=⟨rfl,rfl,rfl,by decide +kernel,rfl,by decide +kernel,by decide +kernel⟩
theorem jez:FnScope ["fleet"] ["fleet"] (je qU):=⟨rfl,rfl,rfl,by decide +kernel,rfl,by decide +kernel,by decide +kernel⟩
theorem jmy:FnScope ["plan","place"] ["plan","place"] (je QO):=⟨rfl,rfl,rfl,by decide +kernel,rfl,by decide +kernel,by decide +kernel⟩
theorem v8:FnScope ["rooms","part","off","on","ship","share"] ["rooms","part","off","on"] (je jam):=⟨rfl,rfl,rfl,by decide +kernel,rfl,by decide +kernel,by decide +kernel⟩
theorem uc:FnScope ["rooms","part","begun","moves","waiting","turn","off","on","ship"] ["rooms","part","begun"] (je jao):=⟨rfl,rfl,rfl,by decide +kernel,rfl,by decide +kernel,by decide +kernel⟩
theorem vg:FnScope ["moves","end","way","move"] ["moves","end"] (je Q5):=⟨rfl,rfl,rfl,by decide +kernel,rfl,by decide +kernel,by decide +kernel⟩
theorem tY:FnScope ["fleet","plan","rooms","hours","totals","least","greatest","off","moves","ends"] ["fleet","plan"] (je zE):=⟨rfl,rfl,rfl,by decide +kernel,rfl,by decide +kernel,by decide +kernel⟩
theorem uE:FnScope ["part","way","many","told","ship","off","on"] ["part","way","many"] (je J1):=⟨rfl,rfl,rfl,by decide +kernel,rfl,by decide +kernel,by decide +kernel⟩
theorem jlI:FnScope ["fleet","plan","moves"] ["fleet","plan","moves"] (je jat):=⟨rfl,rfl,rfl,by decide +kernel,rfl,by decide +kernel,by decide +kernel⟩
theorem vU:FnScope ["need","rooms","marks","elsewhere"] ["need","rooms","marks"] (je zT):=⟨rfl,rfl,rfl,by decide +kernel,rfl,by decide +kernel,by decide +kernel⟩
theorem jnk:FnScope ["numbers","marks","mark"] ["numbers","marks","mark"] (je ZQ):=⟨rfl,rfl,rfl,by decide +kernel,rfl,by decide +kernel,by decide +kernel⟩
theorem uD:FnScope ["marked","others","marks","share","place","mark","ahead"] ["marked","others","marks"] (je QZ):=⟨rfl,rfl,rfl,by decide +kernel,rfl,by decide +kernel,by decide +kernel⟩
theorem ua:FnScope ["needs","rooms","part","moves","ship","share","short","on","many"] ["needs","rooms","part"] (je Zc):=⟨rfl,rfl,rfl,by decide +kernel,rfl,by decide +kernel,by decide +kernel⟩
theorem tQ:FnScope ["needs","rooms","part","way","first","limits","ship","off","on"] ["needs","rooms","part","way"] (je Je):=⟨rfl,rfl,rfl,by decide +kernel,rfl,by decide +kernel,by decide +kernel⟩
theorem tZ:FnScope ["needs","rooms","tops","part","moves","free","many","way","spare"] ["needs","rooms","tops","part"] (je zu):=⟨rfl,rfl,rfl,by decide +kernel,rfl,by decide +kernel,by decide +kernel⟩
theorem jf4:FnScope ["rooms"] ["rooms"] (je zr):=⟨rfl,rfl,rfl,by decide +kernel,rfl,by decide +kernel,by decide +kernel⟩
theorem tP:FnScope ["needs","rooms","hours","marks","inside","outside","high","low"] ["needs","rooms","hours","marks"] (je jN):=⟨rfl,rfl,rfl,by decide +kernel,rfl,by decide +kernel,by decide +kernel⟩
theorem vf:FnScope ["needs","rooms","hours","level","floor","full"] ["needs","rooms","hours"] (je Jn):=⟨rfl,rfl,rfl,by decide +kernel,rfl,by decide +kernel,by decide +kernel⟩
theorem jhp:FnScope ["fleet"] ["fleet"] (je zK):=⟨rfl,rfl,rfl,by decide +kernel,rfl,by decide +kernel,by decide +kernel⟩
theorem jnE:FnScope ["fleet"] ["fleet"] (je jb0):=⟨rfl,rfl,rfl,by decide +kernel,rfl,by decide +kernel,by decide +kernel⟩
theorem jeb:FnScope ["parts","plan"] ["parts","plan"] (je qk):=⟨rfl,rfl,rfl,by decide +kernel,rfl,by decide +kernel,by decide +kernel⟩
theorem tK:FnScope ["parts","plan","found","told","s","long","low","more"] ["parts","plan"] (je zm):=⟨rfl,rfl,rfl,by decide +kernel,rfl,by decide +kernel,by decide +kernel⟩
theorem tW:FnScope ["parts","plan","k","found","told","s"] ["parts","plan","k"] (je Jc):=⟨rfl,rfl,rfl,by decide +kernel,rfl,by decide +kernel,by decide +kernel⟩
theorem tR:FnScope ["script","cell","fleet","k","begin","end","need","most","parts","plan","levels","moves","beside","level","after"] ["script"] (je jaT):=⟨rfl,rfl,rfl,by decide +kernel,rfl,by decide +kernel,by decide +kernel⟩
section
variable {P:Program} {w:World} {K:PySem.W.Frag} {mg:Str->Option Value} {base:Heap} {A:Adr}
theorem zB (T:Txt K mg A):FnOk P w K mg base JT 1 A.uj A.ux ["script","k"] (@spS ⟨K⟩ jT):=
 zq (m:=QF) T.tM jcN rfl rfl fun cdv Ar outer s H E hr=>
  (jf (ze (za jfk (jc 1) ‹"n"›)
   (jo (jX (jP (jc 0) (jc 1)))) j7)
   (jo (jX jx)))
theorem jaW (T:Txt K mg A):FnOk P w K mg base JT 1 A.uK A.uH ["fleet"] (@spO ⟨K⟩ Qp):=
 QK (m:=Qn) T.uG vk rfl rfl fun cdv Ar outer s H E hr=>
  (jf (jD (i:=1) (WO.toE (jrM jp1 (fun _=>rfl) (fun _=>T.rN) boot_sorted (jl (eg (WO.toE (jja ‹"bz"› ‹"bz"›))) jB))) (fun _=>vk.nd) rfl ‹"i"› ‹"a"›)
   (jo (JF (JL (sc:=je qe) (Lc:=["k"]) (Fn:=["hours"]) (ix:=[1]) (fun _=>rfl) (show LcOk (je qe) ["fleet","hours"] _ ["hours"] [1] from by decide +kernel) (WI.toT (zZ (fun _=>rfl) (fun _=>T.tV) (jl (eg (Jh (eg (qH tH (fun _=>rfl) (fun _=>T.tH) YN (jl (jc 1) jB))) (eg jx))) jB))) (j4 (i:=0) (fun _=>show List.Nodup (["k","hours"]:List Str) from by decide +kernel) rfl (by decide) (fun _=>Or.inl rfl) (fun _=>Or.inr rfl)) (jbB (za jfk (eg (jP (jc 1) (jc 0))) (eg (jP (jc 1) (eg (zF (jc 0) (eg jx))))))) (jeE (jd (jP (jc 1) (jc 0)) (jd (jP (jc 1) (eg (zF (jc 0) (eg jx)))) jt)))))))
theorem jes (T:Txt K mg A):FnOk P w K mg base JT 1 A.uQ A.uL ["ship","parts"] (@spO ⟨K⟩ Qi):=
 QK (m:=Qf) T.vK ub rfl rfl fun cdv Ar outer s H E hr=>
  (jf (QP (i:=2) (JG jt) (fun _=>ub.nd) rfl ‹"a"› ‹"a"›)
   (jf (zC (jbq (jn 1)) (jad (qC (jW (i:=3) (fun _=>ub.nd) rfl ‹"a"› ‹"a"›) (qC (jW (i:=4) (fun _=>ub.nd) rfl ‹"a"› ‹"a"›) ZY)))
   (jo (ze (WW.toC (jgj (za jgQ (eg (jP (jc 0) (eg jx))) (jc 3)) (jfY (za jgQ (jc 4) (eg (jP (jc 0) (eg jx)))))))
   (jo (QR (i:=2) rfl (fun _=>Or.inl rfl) (zO (eg (jP (jc 0) (eg jx))) (eg (Jh (jc 4) (jc 3)))))) (jo (QR (i:=2) rfl (fun _=>Or.inl rfl) jx)))))
   (jo (jf2 2))))
theorem jff (T:Txt K mg A):FnOk P w K mg base JT 2 A.uY A.ve ["fleet","cells"] (@spO ⟨K⟩ jak):=
 QK (m:=QM) T.vR tG rfl rfl fun cdv Ar outer s H E hr=>
  (jf (jD (i:=2) (WO.toE (qd (fun _=>jaW T) ‹"b"› (fun _=>rfl) (fun _=>T.vE) (fun _=>T.uG.kp) (fun _=>T.vF) (jd (jn 0) jt))) (fun _=>tG.nd) rfl ‹"a"› ‹"a"›)
   (jf (QP (i:=3) (JG jt) (fun _=>tG.nd) rfl ‹"a"› ‹"a"›)
   (jf (zC ‹"be"› (jW (i:=4) (fun _=>tG.nd) rfl ‹"a"› ‹"a"›)
   (jf (jD (i:=5) (WO.toE (qd (fun _=>jes T) ‹"b"› (fun _=>rfl) (fun _=>T.rl) (fun _=>T.vK.kp) (fun _=>T.wZ) (jd (jP (jc 0) (jc 4)) (jd (jn 2) jt)))) (fun _=>tG.nd) rfl ‹"a"› ‹"a"›)
   (jf (jD (i:=6) (jP (eg (jP (jc 0) (jc 4))) (eg jx)) (fun _=>tG.nd) rfl ‹"a"› ‹"a"›)
   (jf (QP (i:=7) (JG jt) (fun _=>tG.nd) rfl ‹"a"› ‹"a"›)
   (jf (zC (zZ (fun _=>rfl) (fun _=>T.tV) (jl ‹"J"› jB)) (jW (i:=8) (fun _=>tG.nd) rfl ‹"a"› ‹"a"›)
   (jf (jD (i:=9) (jP (jc 1) (eg (zN (eg (zF (eg (zO (jc 4) ‹"J"›)) (jc 8))) ‹"1"›))) (fun _=>tG.nd) rfl ‹"a"› ‹"a"›)
   (jf (jD (i:=10) (jP (eg (WO.toE (JG (jd jx (jd (jP (jc 5) (jc 8)) (jd (Q1 (eg (zO (eg (jP (jc 5) (jc 8))) (eg (zN (eg (Q1 (jc 9) (eg jx))) (eg jx))))) (eg jx)) (jd (zN (eg (Q1 (jc 9) (eg jx))) (eg (zF (eg (jP (jc 5) (jc 8))) (eg jx)))) jt))))))) (eg (zN (jc 9) (eg jx)))) (fun _=>tG.nd) rfl ‹"a"› ‹"a"›)
   (jf (QR (i:=7) rfl ‹"a"› (qH jqr (fun _=>rfl) (fun _=>T.wL) boot_min (jl (jc 6) (jl (eg (jP (jc 5) (jc 8))) (jl (jc 10) jB)))))
   (jo (jD (i:=6) (Jh (jc 6) (eg (jP (jc 7) (jc 8)))) (fun _=>tG.nd) rfl (fun _=>Or.inl rfl) (fun _=>Or.inl rfl)))))))
   (jf (zC (zZ (fun _=>rfl) (fun _=>T.tV) (jl ‹"J"› jB)) (jW (i:=8) (fun _=>tG.nd) rfl ‹"a"› ‹"a"›)
   (jf (jD (i:=11) (zN (eg (zF (jc 8) (eg (jP (jc 1) (eg (zN (jc 4) ‹"1"›)))))) ‹"J"›) (fun _=>tG.nd) rfl ‹"a"› ‹"a"›)
   (jf (jD (i:=12) (qH jfJ (fun _=>rfl) (fun _=>T.wL) boot_min (jl (jc 6) (jl (eg (Jh (eg (jP (jc 5) (jc 11))) (eg (jP (jc 7) (jc 11))))) jB))) (fun _=>tG.nd) rfl ‹"a"› ‹"a"›)
   (jf (jqd (i:=7) rfl ‹"a"› (jn 11) (zF (eg (jP (jc 7) (jc 11))) (jc 12)))
   (jo (jD (i:=6) (Jh (jc 6) (jc 12)) (fun _=>tG.nd) rfl (fun _=>Or.inl rfl) (fun _=>Or.inl rfl)))))))
   (jo (jfK 7 (QR (i:=3) rfl (fun _=>Or.inl rfl) (jn 7))))))))))
   (jo (jf2 3)))))
theorem jfX (T:Txt K mg A):FnOk P w K mg base JT 1 A.uZ A.uU ["one","two","kind"] (@spS ⟨K⟩ J0):=
 zq (m:=Z3) T.vS tJ rfl rfl fun cdv Ar outer s H E hr=>
  (jf ‹"by"›
   (jf (jD (i:=4) (zF (eg (zF (jc 3) (eg jx))) (eg (zN (eg (Q1 (jc 0) (eg jx))) (eg jx)))) (fun _=>tJ.nd) rfl ‹"a"› ‹"a"›)
   (jf (ze (za (jjM fun _=>hr.units) (jc 2) (eg jx))
   (jf ‹"by"›
   (jo (jD (i:=4) (zF (eg (zF (jc 3) (eg jx))) (eg (zN (eg (Q1 (jc 0) (eg jx))) (eg jx)))) (fun _=>tJ.nd) rfl (fun _=>Or.inl rfl) (fun _=>Or.inl rfl)))) j7)
   (jf (ze (za (jjM fun _=>hr.units) (jc 2) (eg jx))
   (jf (jD (i:=3) (zO (eg (Jh (eg (zN (eg (zO (jc 0) (eg jx))) (eg jx))) (eg (jjH (eg jx) (eg jx))))) (eg (jjH (eg jx) (eg jx)))) (fun _=>tJ.nd) rfl ‹"a"› ‹"a"›)
   (jo (jD (i:=4) (zF (eg (zF (jc 3) (eg jx))) (eg (zO (eg (zN (eg (zO (jc 0) (eg jx))) (eg jx))) (eg (jjH (eg jx) (eg jx)))))) (fun _=>tJ.nd) rfl (fun _=>Or.inl rfl) (fun _=>Or.inl rfl)))) j7)
   (jf (jD (i:=5) (jP (eg (WO.toE (JG (jd jx (jd jx (jd jx (jd jx (jd (jjH (eg jx) (eg jx)) (jd (zF (eg jx) (eg (zN (eg (Q1 (jc 1) (eg jx))) (eg jx)))) (jd jx (jd jx jt))))))))))) (eg (zN (jc 1) (eg jx)))) (fun _=>tJ.nd) rfl ‹"a"› ‹"a"›)
   (jf (jD (i:=6) (zN (eg (zO (jc 1) (eg jx))) (eg jx)) (fun _=>tJ.nd) rfl ‹"a"› ‹"a"›)
   (jf (jD (i:=7) (zO (jc 5) (eg (Jh (jc 4) (jc 3)))) (fun _=>tJ.nd) rfl ‹"a"› ‹"a"›)
   (jf (jD (i:=8) (jP (eg (WO.toE (JG (jd (Q1 (eg (zO (jc 7) (eg (zN (jc 6) (eg jx))))) (eg jx)) (jd (zN (jc 6) (eg (zF (jc 7) (eg jx)))) (jd (qH jfJ (fun _=>rfl) (fun _=>T.wL) boot_min (jl (jc 7) (jl (eg (zN (jc 6) (eg jx))) jB))) (jd (jn 7) jt))))))) (eg (zN (eg (Q1 (jc 6) (eg jx))) (eg jx)))) (fun _=>tJ.nd) rfl ‹"a"› ‹"a"›)
   (jo (jX (jeE (jd (jn 3) (jd (jn 4) (jd (jn 8) (jd (jn 5) jt)))))))))))))))
theorem jcz (T:Txt K mg A):FnOk P w K mg base JT 1 A.vo A.vq ["thing"] (@spS ⟨K⟩ JW):=
 zq (m:=jed) T.vz jgO rfl rfl fun cdv Ar outer s H E hr=>(jo (jX (jjz (eg (jfa (fun _=>rfl) (fun _=>T.tU) (fun _=>rfl) (fun _=>T.mn) boot_int (by decide) (jc 0))) (jmJ (w_not (eg (jfa (fun _=>rfl) (fun _=>T.tU) (fun _=>rfl) (fun _=>T.my) boot_bool (by decide) (jc 0))))))))
theorem jh6 (T:Txt K mg A):FnOk P w K mg base JT 2 A.vP A.vL ["thing"] (@spS ⟨K⟩ QY):=
 zq (m:=jcd) T.wM wI rfl rfl fun cdv Ar outer s H E hr=>
  (jf (ze (WW.toC (jo6 (jbk (ZE (eg (jfa (fun _=>rfl) (fun _=>T.tU) (fun _=>rfl) (fun _=>T.ma) boot_tuple (by decide) (jc 0))))) (jlC (za (jlY fun _=>hr.units) ‹"n"› (eg jx)))))
   (jo (jX jay)) j7)
   (jf (ze (jbk (ZE (eg (qH uV (fun _=>rfl) (fun _=>T.uV) boot_all (jl (eg (WO.toE (JL (sc:=je Jr) (Lc:=["part"]) (Fn:=[]) (ix:=[]) (fun _=>rfl) (show LcOk (je Jr) ["thing","hours"] _ [] [] from by decide +kernel) (WI.toT (jp6 (jn 0))) (j4 (i:=0) (fun _=>show List.Nodup (["part"]:List Str) from by decide +kernel) rfl (by decide) ‹"a"› ‹"i"›) jU ‹"bq"›))) jB)))))
   (jo (jX jay)) j7)
   (jf (jD (i:=1) (Jh (eg (jP (jc 0) (eg (qE (fun _=>rfl) (fun _=>T.sY))))) (eg (jP (jc 0) (eg (qE (fun _=>rfl) (fun _=>T.wU)))))) (fun _=>wI.nd) rfl ‹"a"› ‹"a"›)
   (jo (jX (jjz (eg (jhv jqV (jc 1) (eg jx))) (jjz (eg (jhv jpQ (eg (jP (jc 0) (eg (qE (fun _=>rfl) (fun _=>T.rQ))))) (eg jx))) (jmJ (jiC jgQ jgQ (eg jx) (eg (jP (jc 0) (eg (qE (fun _=>rfl) (fun _=>T.rW))))) (eg (zO (eg (jP (jc 0) (eg (qE (fun _=>rfl) (fun _=>T.rQ))))) (jc 1))))))))))))
theorem jhe (T:Txt K mg A):FnOk P w K mg base JT 3 A.vA A.vw ["thing"] (@spS ⟨K⟩ Zo):=
 zq (m:=ja9) T.wB jhz rfl rfl fun cdv Ar outer s H E hr=>(jo (jX (jjz (eg (jfa (fun _=>rfl) (fun _=>T.tU) (fun _=>rfl) (fun _=>T.tN) Ko (by decide) (jc 0))) (jmJ (qH uV (fun _=>rfl) (fun _=>T.uV) boot_all (jl (eg (WO.toE (JL (sc:=je zM) (Lc:=["ship"]) (Fn:=[]) (ix:=[]) (fun _=>rfl) (show LcOk (je zM) ["thing"] _ [] [] from by decide +kernel) (j9 (jc 0)) ‹"a1"› jU (jQ (fun _=>jh6 T) ‹"b"› (fun _=>rfl) (fun _=>T.sI) (fun _=>T.wM.kp) (fun _=>T.sD) (jd (jn 0) jt))))) jB))))))
theorem Zb (T:Txt K mg A):FnOk P w K mg base JT 4 A.ud A.uf ["thing"] (@spS ⟨K⟩ zy):=
 zq (m:=J7) T.ue jcc rfl rfl fun cdv Ar outer s H E hr=>
  (jo (ze (jbk (ZE (eg (jQ (fun _=>jhe T) ‹"b"› (fun _=>rfl) (fun _=>T.rX) (fun _=>T.wB.kp) (fun _=>T.rV) (jd (jn 0) jt)))))
   (jo jhh) j7))
theorem jkr (T:Txt K mg A):FnOk P w K mg base JT 1 A.wc A.wq ["fleet"] (@spO ⟨K⟩ jdO):=
 QK (m:=jbt) T.rq vN rfl rfl fun cdv Ar outer s H E hr=>
  (jf (jef (i:=1) (fun _=>vN.nd) rfl (fun _=>rfl) (sc:=je Jl) (Lc:=["ship"]) (Fn:=[]) (ix:=[]) (fun _=>rfl) (show LcOk (je Jl) ["fleet","begins","ends"] _ [] [] from by decide +kernel) (j9 (jc 0)) ‹"a1"› jU (jP (jc 0) (eg (qE (fun _=>rfl) (fun _=>T.wU)))))
   (jf (jef (i:=2) (fun _=>vN.nd) rfl (fun _=>rfl) (sc:=je Jl) (Lc:=["ship"]) (Fn:=[]) (ix:=[]) (fun _=>rfl) (show LcOk (je Jl) ["fleet","begins","ends"] _ [] [] from by decide +kernel) (j9 (jc 0)) ‹"a1"› jU (jP (jc 0) (eg (qE (fun _=>rfl) (fun _=>T.sY)))))
   (jo (JF (jpH (fun _=>rfl) (fun _=>T.rN) (fun _=>rfl) (fun _=>T.mF) (jl (eg (WO.toE (jja (jc 1) (jc 2)))) jB) (sub:=fun _ _=>⟨rfl,rfl⟩) (j0:=()))))))
theorem Zv (T:Txt K mg A):FnOk P w K mg base JT 2 A.u9 A.vc ["fleet"] (@spO ⟨K⟩ J3):=
 QK (m:=QI) T.uz vH rfl rfl fun cdv Ar outer s H E hr=>
  (jf (jD (i:=1) (WO.toE (qd (fun _=>jkr T) ‹"b"› (fun _=>rfl) (fun _=>T.sZ) (fun _=>T.rq.kp) (fun _=>T.sS) (jd (jn 0) jt))) (fun _=>vH.nd) rfl ‹"a"› ‹"a"›)
   (jo (JF (js8 (fun _=>rfl) (fun _=>T.tN) (fun _=>rfl) (fun _=>T.vi) (jl (jc 1) (jl (eg (WO.toE (jqA (jc 1) (jiY (eg jx)) joC))) jB))))))
theorem je3 (T:Txt K mg A):FnOk P w K mg base JT 1 A.vW A.wo ["stretch"] (@spS ⟨K⟩ jac):=
 zq (m:=jei) T.wG jjW rfl rfl fun cdv Ar outer s H E hr=>(jo (jX (Jh (eg (jP (jc 0) (eg (qE (fun _=>rfl) (fun _=>T.mG))))) (eg (jP (jc 0) (eg (qE (fun _=>rfl) (fun _=>T.sL))))))))
theorem jjA (T:Txt K mg A):FnOk P w K mg base JT 2 A.sd A.si ["ship","stretch"] (@spS ⟨K⟩ jca):=
 zq (m:=jh0) T.rP jmN rfl rfl fun cdv Ar outer s H E hr=>
  (jf (ze (WW.toC (jgj (za jgQ (eg (jP (jc 0) (eg (qE (fun _=>rfl) (fun _=>T.wU))))) (eg (jP (jc 1) (eg (qE (fun _=>rfl) (fun _=>T.sL)))))) (jfY (za jgQ (eg (jP (jc 1) (eg (qE (fun _=>rfl) (fun _=>T.mG))))) (eg (jP (jc 0) (eg (qE (fun _=>rfl) (fun _=>T.sY)))))))))
   (jo (jX (zO (eg (jP (jc 0) (eg (qE (fun _=>rfl) (fun _=>T.rQ))))) (eg (jQ (fun _=>je3 T) (fun _=>hr.mono (by decide)) (fun _=>rfl) (fun _=>T.rC) (fun _=>T.wG.kp) (fun _=>T.rK) (jd (jn 1) jt)))))) j7)
   (jo (jX jx)))
theorem jgH (T:Txt K mg A):FnOk P w K mg base JT 3 A.vB A.vp ["ship","spans","thing"] (@spS ⟨K⟩ Zz):=
 zq (m:=Zl) T.v9 jgi rfl rfl fun cdv Ar outer s H E hr=>
  (jf (ze (WW.toC (jo6 (jbk (ZE (eg (jfa (fun _=>rfl) (fun _=>T.tU) (fun _=>rfl) (fun _=>T.tN) Ko (by decide) (jc 2))))) (jlC (za (jlY fun _=>hr.units) ‹"J"› ‹"1"›))))
   (jo (jX jay)) j7)
   (jf (ze (jbk (ZE (eg (qH uV (fun _=>rfl) (fun _=>T.uV) boot_all (jl (eg (WO.toE (JL (sc:=je qZ) (Lc:=["many"]) (Fn:=[]) (ix:=[]) (fun _=>rfl) (show LcOk (je qZ) ["ship","spans","thing"] _ [] [] from by decide +kernel) (j9 (jc 2)) (j4 (i:=0) (fun _=>show List.Nodup (["many"]:List Str) from by decide +kernel) rfl (by decide) ‹"a"› ‹"i"›) jU ‹"bq"›))) jB)))))
   (jo (jX jay)) j7)
   (jf (ze (jbk (ZE (eg (qH uV (fun _=>rfl) (fun _=>T.uV) boot_all (jl (eg (WO.toE (JL (sc:=je qZ) (Lc:=["span","many"]) (Fn:=["ship"]) (ix:=[0]) (fun _=>rfl) (show LcOk (je qZ) ["ship","spans","thing"] _ ["ship"] [0] from by decide +kernel) (Ql (fun _=>rfl) (fun _=>T.vi) (jl (jc 1) (jl (jc 2) jB))) (Zr (qO (i:=0) (fun _=>show List.Nodup (["span","many","ship"]:List Str) from by decide +kernel) rfl (by decide) ‹"a"› ‹"i"› (qO (i:=1) (fun _=>show List.Nodup (["span","many","ship"]:List Str) from by decide +kernel) rfl (by decide) ‹"a"› ‹"i"› Zx))) jU (jiC jgQ jgQ (eg jx) (jc 1) (eg (jQ (fun _=>jjA T) ‹"b"› (fun _=>rfl) (fun _=>T.sV) (fun _=>T.rP.kp) (fun _=>T.sO) (jd (jn 2) (jd (jn 0) jt)))))))) jB)))))
   (jo (jX jay)) j7)
   (jo (jX (jhv (jjM fun _=>hr.units) (eg (qH tO (fun _=>rfl) (fun _=>T.tO) KP (jl (jc 2) jB))) (eg (jP (jc 0) (eg (qE (fun _=>rfl) (fun _=>T.rW)))))))))))
theorem jhT (T:Txt K mg A):FnOk P w K mg base JT 4 A.vM A.vO ["fleet","thing"] (@spS ⟨K⟩ jb7):=
 zq (m:=jap) T.wK wb rfl rfl fun cdv Ar outer s H E hr=>
  (jf (ze (WW.toC (jo6 (jbk (ZE (eg (jfa (fun _=>rfl) (fun _=>T.tU) (fun _=>rfl) (fun _=>T.tN) Ko (by decide) (jc 1))))) (jlC (za (jlY fun _=>hr.units) ‹"1"› ‹"n"›))))
   (jo (jX jay)) j7)
   (jf (jD (i:=2) ‹"a2"› (fun _=>wb.nd) rfl ‹"i"› ‹"a"›)
   (jo (jX (qH uV (fun _=>rfl) (fun _=>T.uV) boot_all (jl (eg (WO.toE (JL (sc:=je Jw) (Lc:=["ship","share"]) (Fn:=["spans"]) (ix:=[2]) (fun _=>rfl) (show LcOk (je Jw) ["fleet","thing","spans"] _ ["spans"] [2] from by decide +kernel) (Ql (fun _=>rfl) (fun _=>T.vi) (jl (jc 0) (jl (jc 1) jB))) (Zr (qO (i:=0) (fun _=>show List.Nodup (["ship","share","spans"]:List Str) from by decide +kernel) rfl (by decide) (fun _=>Or.inl rfl) (fun _=>Or.inr rfl) (qO (i:=1) (fun _=>show List.Nodup (["ship","share","spans"]:List Str) from by decide +kernel) rfl (by decide) (fun _=>Or.inl rfl) (fun _=>Or.inr rfl) Zx))) jU (jQ (fun _=>jgH T) (fun _=>hr.mono (by decide)) (fun _=>rfl) (fun _=>T.sf) (fun _=>T.v9.kp) (fun _=>T.se) (jd (jn 0) (jd (jn 2) (jd (jn 1) jt))))))) jB))))))
theorem ZG (T:Txt K mg A):FnOk P w K mg base JT 5 A.uo A.ui ["fleet","thing"] (@spS ⟨K⟩ zL):=
 zq (m:=QD) T.uu jcP rfl rfl fun cdv Ar outer s H E hr=>
  (jf ‹"bl"›
   (jo (ze (jbk (ZE (eg (jQ (fun _=>jhT T) ‹"b"› (fun _=>rfl) (fun _=>T.sF) (fun _=>T.wK.kp) (fun _=>T.sJ) (jd (jn 0) (jd (jn 1) jt))))))
   (jo jhh) j7)))
theorem jcl (T:Txt K mg A):FnOk P w K mg base JT 3 A.vn A.vx ["fleet"] (@spO ⟨K⟩ Zh):=
 QK (m:=ZA) T.vm vT rfl rfl fun cdv Ar outer s H E hr=>
  (jf (jD (i:=1) ‹"a2"› (fun _=>vT.nd) rfl ‹"i"› ‹"a"›)
   (jo (JF (JL (sc:=je qY) (Lc:=["ship"]) (Fn:=["spans"]) (ix:=[1]) (fun _=>rfl) (show LcOk (je qY) ["fleet","spans"] _ ["spans"] [1] from by decide +kernel) (j9 (jc 0)) (j4 (i:=0) (fun _=>show List.Nodup (["ship","spans"]:List Str) from by decide +kernel) rfl (by decide) (fun _=>Or.inr rfl) (fun _=>Or.inl rfl)) jU (WO.toE (joE (sc:=je qY) (Lc:=["span"]) (Fn:=["ship"]) (ix:=[0]) (fun _=>rfl) (show LcOk (jjr (je qY) _) ["ship","spans"] _ ["ship"] [0] from by decide +kernel) (j9 (jc 1)) (j4 (i:=0) (fun _=>show List.Nodup (["span","ship"]:List Str) from by decide +kernel) rfl (by decide) (fun _=>Or.inl rfl) (fun _=>Or.inr rfl)) jU (jQ (fun _=>jjA T) (fun _=>hr.mono (by decide)) (fun _=>rfl) (fun _=>T.sV) (fun _=>T.rP.kp) (fun _=>T.sO) (jd (jn 1) (jd (jn 0) jt)))))))))
theorem jaK (T:Txt K mg A):FnOk P w K mg base JT 3 A.uO A.uI ["fleet"] (@spO ⟨K⟩ Ja):=
 QK (m:=Qq) T.uJ jez rfl rfl fun cdv Ar outer s H E hr=>(jo (JF (JL (sc:=je qU) (Lc:=["span"]) (Fn:=[]) (ix:=[]) (fun _=>rfl) (show LcOk (je qU) ["fleet"] _ [] [] from by decide +kernel) (j9 (eg ‹"a2"›)) (j4 (i:=0) (fun _=>show List.Nodup (["span"]:List Str) from by decide +kernel) rfl (by decide) ‹"a"› ‹"i"›) jU (jQ (fun _=>je3 T) ‹"b"› (fun _=>rfl) (fun _=>T.rC) (fun _=>T.wG.kp) (fun _=>T.rK) (jd (jn 0) jt)))))
theorem jdP (T:Txt K mg A):FnOk P w K mg base JT 1 A.wQ A.wN ["plan","place"] (@spS ⟨K⟩ Zu):=
 zq (m:=jf0) T.vV jmy rfl rfl fun cdv Ar outer s H E hr=>(jo (jX (qH tO (fun _=>rfl) (fun _=>T.tO) KP (jl (eg (WO.toE (JL (sc:=je QO) (Lc:=["share"]) (Fn:=["place"]) (ix:=[1]) (fun _=>rfl) (show LcOk (je QO) ["plan","place"] _ ["place"] [1] from by decide +kernel) (j9 (jc 0)) (j4 (i:=0) (fun _=>show List.Nodup (["share","place"]:List Str) from by decide +kernel) rfl (by decide) ‹"a"› ‹"i"›) jU (jP (jc 0) (jc 1))))) jB))))
theorem jlx (T:Txt K mg A):FnOk P w K mg base JT 1 A.wX A.wY ["rooms","part","off","on"] (@spS ⟨K⟩ Zp):=
 zq (m:=jfm) T.sv v8 rfl rfl fun cdv Ar outer s H E hr=>
  (jf (zC (jc4 (fun _=>rfl) (fun _=>T.uy) (jd (jn 1) jt)) (jad (qC (jW (i:=4) (fun _=>v8.nd) rfl ‹"a"› ‹"a"›) (qC (jW (i:=5) (fun _=>v8.nd) rfl ‹"a"› ‹"a"›) ZY)))
   (jo (ze (WW.toC (jgj (za jqV (eg (jP (jc 5) (jc 2))) (eg jx)) (jfY (za jfk (eg (jP (jc 5) (jc 3))) (eg (jP (eg (jP (jc 0) (jc 4))) (jc 3)))))))
   (jo (jX (jn 4))) j7)))
   (jo (jX jg7)))
theorem jhr (T:Txt K mg A):FnOk P w K mg base JT 2 A.wW A.wV ["rooms","part","begun"] (@spS ⟨K⟩ jav):=
 zq (m:=jfp) T.rm uc rfl rfl fun cdv Ar outer s H E hr=>
  (jf (jjC (i:=3) (jnM (fun _=>rfl) (fun _=>T.mB) (jl (jc 2) jB)) (fun _=>uc.nd) rfl ‹"a"› ‹"a"›)
   (jf (QP (i:=4) (jdd jmT (fun _=>rfl) (fun _=>T.tN) Ko (jl (jc 2) jB)) (fun _=>uc.nd) rfl ‹"a"› ‹"a"›)
   (jf (jD (i:=5) jx (fun _=>uc.nd) rfl ‹"a"› ‹"a"›)
   (jf (jek (za jfk (jc 5) (eg (qH tH (fun _=>rfl) (fun _=>T.tH) YN (jl (jc 4) jB))))
   (jf (jD (i:=6) (jP (jc 4) (jc 5)) (fun _=>uc.nd) rfl ‹"a"› ‹"a"›)
   (jf (zC (zZ (fun _=>rfl) (fun _=>T.tV) (jl (eg (qH tH (fun _=>rfl) (fun _=>T.tH) YN (jl (eg (jP (jc 0) (eg jx))) jB))) jB)) (jW (i:=7) (fun _=>uc.nd) rfl ‹"a"› ‹"a"›)
   (jf (jD (i:=8) (jr6 (za (joM fun _=>hr.units) (jc 7) (jc 3)) jg7 (jQ (fun _=>jlx T) ‹"b"› (fun _=>rfl) (fun _=>T.mj) (fun _=>T.sv.kp) (fun _=>T.mm) (jd (jn 0) (jd (jn 1) (jd (jn 6) (jd (jn 7) jt)))))) (fun _=>uc.nd) rfl ‹"a"› ‹"a"›)
   (jo (ze (jfv (jc 8))
   (jf (jjy (i:=3) (fun _=>hr.units) rfl ‹"a"› (jn 7) (jeE (jd (jn 8) (jd (jn 6) (jd (jn 7) jt)))))
   (jo (QR (i:=4) rfl (fun _=>Or.inl rfl) (jn 7)))) j7))))
   (jo (jpq (i:=5) joQ jx (fun _=>uc.nd) rfl (fun _=>Or.inl rfl) (fun _=>Or.inl rfl))))))
   (jo (jji 3))))))
theorem je1 (T:Txt K mg A):FnOk P w K mg base JT 1 A.we A.wA ["moves","end"] (@spO ⟨K⟩ Q6):=
 QK (m:=jdv) T.vY vg rfl rfl fun cdv Ar outer s H E hr=>
  (jf (QP (i:=2) (JG jt) (fun _=>vg.nd) rfl ‹"a"› ‹"a"›)
   (jf (jD (i:=3) (jqv (fun _=>hr.units) (jc 0) (jc 1)) (fun _=>vg.nd) rfl ‹"a"› ‹"a"›)
   (jf (jek (jfv (jc 3))
   (jf (QR (i:=2) rfl ‹"a"› (jn 3))
   (jo (jD (i:=3) (jnR (fun _=>hr.units) (jc 0) (eg (jP (jc 3) (eg (qE (fun _=>rfl) (fun _=>T.mC)))))) (fun _=>vg.nd) rfl (fun _=>Or.inl rfl) (fun _=>Or.inl rfl)))))
   (jo (JF (jrq (fun _=>rfl) (fun _=>T.tN) (fun _=>rfl) (fun _=>T.rT) (jl (jc 2) jB)))))))
theorem jlG (T:Txt K mg A):FnOk P w K mg base JT 6 A.ra A.rf ["fleet","plan"] (@spS ⟨K⟩ jbl):=
 zq (m:=jfs) T.sy tY rfl rfl fun cdv Ar outer s H E hr=>
  (jf ‹"bf"›
   (jf (jD (i:=2) (WO.toE (qd (fun _=>jcl T) ‹"b"› (fun _=>rfl) (fun _=>T.vZ) (fun _=>T.vm.kp) (fun _=>T.wa) (jd (jn 0) jt))) (fun _=>tY.nd) rfl ‹"a"› ‹"a"›)
   (jf (jD (i:=3) (WO.toE (qd (fun _=>jaK T) ‹"b"› (fun _=>rfl) (fun _=>T.vI) (fun _=>T.uJ.kp) (fun _=>T.vG) (jd (jn 0) jt))) (fun _=>tY.nd) rfl ‹"a"› ‹"a"›)
   (jf (jef (i:=4) (fun _=>tY.nd) rfl (fun _=>rfl) (sc:=je zE) (Lc:=["place"]) (Fn:=["plan"]) (ix:=[1]) (fun _=>rfl) (show LcOk (je zE) ["fleet","plan","rooms","hours","totals","least","greatest","off","moves","ends"] _ ["plan"] [1] from by decide +kernel) (WI.toT ‹"aJ"›) (j4 (i:=0) (fun _=>show List.Nodup (["place","plan"]:List Str) from by decide +kernel) rfl (by decide) ‹"a"› ‹"i"›) jU ‹"bk"›)
   (jf (jD (i:=5) (WO.toE (JL (sc:=je zE) (Lc:=["many","length"]) (Fn:=[]) (ix:=[]) (fun _=>rfl) (show LcOk (je zE) ["fleet","plan","rooms","hours","totals","least","greatest","off","moves","ends"] _ [] [] from by decide +kernel) (Ql (fun _=>rfl) (fun _=>T.vi) (jl (jc 4) (jl (jc 3) jB))) ‹"bh"› jU (Q1 (jc 0) (jc 1)))) (fun _=>tY.nd) rfl ‹"i"› ‹"a"›)
   (jf (jD (i:=6) (WO.toE (JL (sc:=je zE) (Lc:=["many","length"]) (Fn:=[]) (ix:=[]) (fun _=>rfl) (show LcOk (je zE) ["fleet","plan","rooms","hours","totals","least","greatest","off","moves","ends"] _ [] [] from by decide +kernel) (Ql (fun _=>rfl) (fun _=>T.vi) (jl (jc 4) (jl (jc 3) jB))) ‹"bh"› jU (Q1 (eg (Jh (eg (zF (jc 0) (jc 1))) (eg jx))) (jc 1)))) (fun _=>tY.nd) rfl ‹"i"› ‹"a"›)
   (jf (zC ‹"aJ"› (jW (i:=7) (fun _=>tY.nd) rfl ‹"i"› ‹"a"›)
   (jf (jD (i:=8) (jQ (fun _=>jhr T) ‹"b"› (fun _=>rfl) (fun _=>T.sr) (fun _=>T.rm.kp) (fun _=>T.su) (jd (jn 2) (jd (jn 1) (jd (WD.toE (jqN (jn 7) jg7)) jt)))) (fun _=>tY.nd) rfl ‹"a"› ‹"a"›)
   (jf (jef (i:=9) (fun _=>tY.nd) rfl (fun _=>rfl) (sc:=je zE) (Lc:=["on"]) (Fn:=["greatest","off","least"]) (ix:=[6,7,5]) (fun _=>rfl) (show LcOk (je zE) ["fleet","plan","rooms","hours","totals","least","greatest","off","moves","ends"] _ ["greatest","off","least"] [6,7,5] from by decide +kernel) (WI.toT (jmK (jn 8))) (j4 (i:=0) (fun _=>show List.Nodup (["on","greatest","off","least"]:List Str) from by decide +kernel) rfl (by decide) ‹"a"› ‹"i"›) (jbB (za jpQ (eg (Jh (eg (jP (jc 1) (jc 2))) (eg (jP (jc 3) (jc 0))))) (eg jx))) (jn 0))
   (jo (ze (za (jlY fun _=>hr.units) (jc 9) (eg (WO.toE (JG jt))))
   (jo (jX (WO.toE (qd (fun _=>je1 T) (fun _=>hr.mono (by decide)) (fun _=>rfl) (fun _=>T.rp) (fun _=>T.vY.kp) (fun _=>T.rO) (jd (jn 8) (jd (jP (jc 9) (eg jx)) jt)))))) j7)))))
   (jo (jX jg7)))))))))
theorem jeF (T:Txt K mg A):FnOk P w K mg base JT 1 A.wm A.wz ["part","way","many"] (@spS ⟨K⟩ ZO):=
 zq (m:=jdk) T.v5 uE rfl rfl fun cdv Ar outer s H E hr=>
  (jf (jm8 (i:=3) (fun _=>uE.nd) rfl (fun _=>rfl) (sc:=je J1) (Lc:=["share"]) (Fn:=[]) (ix:=[]) (fun _=>rfl) (show LcOk (je J1) ["part","way","many","told","ship","off","on"] _ [] [] from by decide +kernel) (j9 (jc 0)) ‹"bp"› jU ‹"aL"›)
   (jf (zC (jbq (jn 1)) (jad (qC (jW (i:=4) (fun _=>uE.nd) rfl ‹"a"› ‹"a"›) (qC (jW (i:=5) (fun _=>uE.nd) rfl ‹"a"› ‹"a"›) (qC (jW (i:=6) (fun _=>uE.nd) rfl ‹"a"› ‹"a"›) ZY))))
   (jf (ze (jfv (jc 5))
   (jo (jjD (i:=3) jr1 rfl (fun _=>Or.inl rfl) (jc 4) (jn 5) (jn 2))) j7)
   (jo (jjD (i:=3) joQ rfl (fun _=>Or.inl rfl) (jc 4) (jn 6) (jn 2)))))
   (jo (jfK 3 (jX (jn 3))))))
theorem jl6 (T:Txt K mg A):FnOk P w K mg base JT 6 A.wR A.rb ["fleet","plan","moves"] (@spS ⟨K⟩ jcZ):=
 zq (m:=jfF) T.sx jlI rfl rfl fun cdv Ar outer s H E hr=>
  (jf ‹"bf"›
   (jo (jX (jQ (fun _=>jeF T) (fun _=>hr.mono (by decide)) (fun _=>rfl) (fun _=>T.rD) (fun _=>T.v5.kp) (fun _=>T.rM) (jd (jn 1) (jd (jn 2) (jd jx jt)))))))
theorem jhq (T:Txt K mg A):FnOk P w K mg base JT 1 A.vt A.vy ["need","rooms","marks"] (@spS ⟨K⟩ jba):=
 zq (m:=Zj) T.wH vU rfl rfl fun cdv Ar outer s H E hr=>
  (jf (jD (i:=3) (qH tO (fun _=>rfl) (fun _=>T.tO) KP (jl (eg (WO.toE (JL (sc:=je zT) (Lc:=["many","mark"]) (Fn:=[]) (ix:=[]) (fun _=>rfl) (show LcOk (je zT) ["need","rooms","marks","elsewhere"] _ [] [] from by decide +kernel) (Ql (fun _=>rfl) (fun _=>T.vi) (jl (jc 1) (jl (jc 2) jB))) (Zr (qO (i:=0) (fun _=>show List.Nodup (["many","mark"]:List Str) from by decide +kernel) rfl (by decide) ‹"a"› ‹"i"› (qO (i:=1) (fun _=>show List.Nodup (["many","mark"]:List Str) from by decide +kernel) rfl (by decide) ‹"a"› ‹"i"› Zx))) (jbB (jbk (ZE (jc 1)))) (jn 0)))) jB)) (fun _=>vU.nd) rfl ‹"a"› ‹"a"›)
   (jo (jX (qH jk7 (fun _=>rfl) (fun _=>T.mr) boot_max (jl (eg (Jh (jc 0) (jc 3))) (jl (eg jx) jB))))))
theorem jcY (T:Txt K mg A):FnOk P w K mg base JT 1 A.rS A.r8 ["numbers","marks","mark"] (@spO ⟨K⟩ Zw):=
 QK (m:=jh1) T.wu jnk rfl rfl fun cdv Ar outer s H E hr=>(jo (JF (JL (sc:=je ZQ) (Lc:=["number","other"]) (Fn:=["mark"]) (ix:=[2]) (fun _=>rfl) (show LcOk (je ZQ) ["numbers","marks","mark"] _ ["mark"] [2] from by decide +kernel) (Ql (fun _=>rfl) (fun _=>T.vi) (jl (jc 0) (jl (jc 1) jB))) (Zr (qO (i:=0) (fun _=>show List.Nodup (["number","other","mark"]:List Str) from by decide +kernel) rfl (by decide) ‹"a"› ‹"i"› (qO (i:=1) (fun _=>show List.Nodup (["number","other","mark"]:List Str) from by decide +kernel) rfl (by decide) ‹"a"› ‹"i"› Zx))) (jbB (za (jjM fun _=>hr.units) (jc 1) (jc 2))) (jn 0))))
theorem jj7 (T:Txt K mg A):FnOk P w K mg base JT 1 A.wk A.wy ["marked","others","marks"] (@spO ⟨K⟩ jbG):=
 QK (m:=jdB) T.rL uD rfl rfl fun cdv Ar outer s H E hr=>
  (jf (QP (i:=3) (JG jt) (fun _=>uD.nd) rfl ‹"a"› ‹"a"›)
   (jf (zC (jc4 (fun _=>rfl) (fun _=>T.uy) (jd (jn 2) jt)) (jad (qC (jW (i:=4) (fun _=>uD.nd) rfl ‹"a"› ‹"a"›) (qC (jW (i:=5) (fun _=>uD.nd) rfl ‹"a"› ‹"a"›) ZY)))
   (jf (jD (i:=6) (jn1 (eg (WO.toE (jqA (jc 2) joC (jiY (jc 4))))) (jn 5)) (fun _=>uD.nd) rfl ‹"a"› ‹"a"›)
   (jo (QR (i:=3) rfl (fun _=>Or.inl rfl) (jr6 (ZE (jc 5)) (jP (jc 0) (jc 6)) (jP (jc 1) (jc 6)))))))
   (jo (jf2 3))))
theorem jj2 (T:Txt K mg A):FnOk P w K mg base JT 1 A.wD A.wx ["needs","rooms","part"] (@spS ⟨K⟩ jbS):=
 zq (m:=jdq) T.rz ua rfl rfl fun cdv Ar outer s H E hr=>
  (jf (jjC (i:=3) jp9 (fun _=>ua.nd) rfl ‹"a"› ‹"a"›)
   (jf (zC (jc4 (fun _=>rfl) (fun _=>T.uy) (jd (jn 2) jt)) (jad (qC (jW (i:=4) (fun _=>ua.nd) rfl ‹"a"› ‹"a"›) (qC (jW (i:=5) (fun _=>ua.nd) rfl ‹"a"› ‹"a"›) ZY)))
   (jf (jD (i:=6) (jhv jfk (eg (qH tO (fun _=>rfl) (fun _=>T.tO) KP (jl (jc 5) jB))) (eg (jP (jc 0) (jc 4)))) (fun _=>ua.nd) rfl ‹"a"› ‹"a"›)
   (jo (zC (jc4 (fun _=>rfl) (fun _=>T.uy) (jd (jn 5) jt)) (jad (qC (jW (i:=7) (fun _=>ua.nd) rfl ‹"a"› ‹"a"›) (qC (jW (i:=8) (fun _=>ua.nd) rfl ‹"a"› ‹"a"›) ZY)))
   (jo (ze (WW.toC (jgj (ZE (jc 6)) (jgj (za jfk (jc 8) (eg (jP (eg (jP (jc 1) (jc 4))) (jc 7)))) (jfY (za (jls fun _=>hr.units) (jc 7) (jc 3))))))
   (jo (jjy (i:=3) (fun _=>hr.units) rfl (fun _=>Or.inl rfl) (jn 7) (jeE (jd (jn 4) (jd jg7 (jd (jn 7) jt)))))) j7))))))
   (jo (jji 3))))
theorem jeA (T:Txt K mg A):FnOk P w K mg base JT 1 A.uP A.uN ["needs","rooms","part","way"] (@spS ⟨K⟩ Qj):=
 zq (m:=Zf) T.vJ tQ rfl rfl fun cdv Ar outer s H E hr=>
  (jf (jD (i:=4) (jP (eg (jP (jc 3) (eg jx))) (eg (qE (fun _=>rfl) (fun _=>T.mx)))) (fun _=>tQ.nd) rfl ‹"a"› ‹"a"›)
   (jf (QP (i:=5) (JG (jd (Jh (eg (jP (jc 0) (jc 4))) (eg (qH tO (fun _=>rfl) (fun _=>T.tO) KP (jl (eg (jP (jc 2) (jc 4))) jB)))) jt)) (fun _=>tQ.nd) rfl ‹"a"› ‹"a"›)
   (jf (zC (jbq (jn 3)) (jad (qC (jW (i:=6) (fun _=>tQ.nd) rfl ‹"a"› ‹"a"›) (qC (jW (i:=7) (fun _=>tQ.nd) rfl ‹"a"› ‹"a"›) (qC (jW (i:=8) (fun _=>tQ.nd) rfl ‹"a"› ‹"a"›) ZY))))
   (jf (QR (i:=5) rfl ‹"a"› (Jh (eg (jP (eg (jP (jc 1) (jc 6))) (jc 8))) (eg (jP (eg (jP (jc 2) (jc 6))) (jc 8)))))
   (jo (ze (jfv (jc 7))
   (jo (QR (i:=5) rfl (fun _=>Or.inl rfl) (jP (eg (jP (jc 2) (jc 6))) (jc 7)))) j7))))
   (jo (jX (qH jqq (fun _=>rfl) (fun _=>T.wL) boot_min (jl (jc 5) jB)))))))
theorem je6 (T:Txt K mg A):FnOk P w K mg base JT 3 A.vX A.wg ["needs","rooms","tops","part"] (@spS ⟨K⟩ jaa):=
 zq (m:=jdL) T.v7 tZ rfl rfl fun cdv Ar outer s H E hr=>
  (jo (jek (ZE (eg jay))
   (jf (jD (i:=4) (jQ (fun _=>jhr T) ‹"b"› (fun _=>rfl) (fun _=>T.sr) (fun _=>T.rm.kp) (fun _=>T.su) (jd (jn 1) (jd (jn 3) (jd (jQ (fun _=>jj2 T) ‹"b"› (fun _=>rfl) (fun _=>T.sW) (fun _=>T.rz.kp) (fun _=>T.sU) (jd (jn 0) (jd (jn 1) (jd (jn 3) jt)))) jt)))) (fun _=>tZ.nd) rfl ‹"i"› ‹"a"›)
   (jf (jef (i:=5) (fun _=>tZ.nd) rfl (fun _=>rfl) (sc:=je zu) (Lc:=["place"]) (Fn:=["part","tops"]) (ix:=[3,2]) (fun _=>rfl) (show LcOk (je zu) ["needs","rooms","tops","part","moves","free","many","way","spare"] _ ["part","tops"] [3,2] from by decide +kernel) (WI.toT (jmK (jn 4))) (j4 (i:=0) (fun _=>show List.Nodup (["place","part","tops"]:List Str) from by decide +kernel) rfl (by decide) ‹"a"› ‹"i"›) (jbB (za jfk (eg ‹"bk"›) (eg (jP (jc 2) (jc 0))))) (jn 0))
   (jf (ze (za (jjM fun _=>hr.units) (jc 5) (eg (WO.toE (JG jt))))
   (jf (jD (i:=6) (qH tO (fun _=>rfl) (fun _=>T.tO) KP (jl (eg (WO.toE (JL (sc:=je zu) (Lc:=["share"]) (Fn:=[]) (ix:=[]) (fun _=>rfl) (show LcOk (je zu) ["needs","rooms","tops","part","moves","free","many","way","spare"] _ [] [] from by decide +kernel) (j9 (jc 3)) ‹"bp"› jU ‹"aP"›))) jB)) (fun _=>tZ.nd) rfl ‹"a"› ‹"a"›)
   (jo (jX (jeE (jd (jn 6) (jd (jn 3) (jd (WO.toE (JL (sc:=je zu) (Lc:=["place"]) (Fn:=["moves"]) (ix:=[4]) (fun _=>rfl) (show LcOk (je zu) ["needs","rooms","tops","part","moves","free","many","way","spare"] _ ["moves"] [4] from by decide +kernel) (WI.toT (zZ (fun _=>rfl) (fun _=>T.tV) (jl (eg (qH tH (fun _=>rfl) (fun _=>T.tH) YN (jl (jc 2) jB))) jB))) (j4 (i:=0) (fun _=>show List.Nodup (["place","moves"]:List Str) from by decide +kernel) rfl (by decide) (fun _=>Or.inl rfl) (fun _=>Or.inr rfl)) jU (jhv (joM fun _=>hr.units) (jc 0) (jc 1)))) jt))))))) j7)
   (jf (jD (i:=7) (WO.toE (qd (fun _=>je1 T) ‹"b"› (fun _=>rfl) (fun _=>T.rp) (fun _=>T.vY.kp) (fun _=>T.rO) (jd (jn 4) (jd (jP (jc 5) (eg jx)) jt)))) (fun _=>tZ.nd) rfl ‹"a"› ‹"a"›)
   (jf (jD (i:=8) (Jh (eg (jP (jc 2) (eg (jP (jc 5) (eg jx))))) (eg (jQ (fun _=>jdP T) ‹"b"› (fun _=>rfl) (fun _=>T.w6) (fun _=>T.vV.kp) (fun _=>T.rj) (jd (jn 3) (jd (jP (jc 5) (eg jx)) jt))))) (fun _=>tZ.nd) rfl ‹"a"› ‹"a"›)
   (jo (jD (i:=3) (jQ (fun _=>jeF T) (fun _=>hr.mono (by decide)) (fun _=>rfl) (fun _=>T.rD) (fun _=>T.v5.kp) (fun _=>T.rM) (jd (jn 3) (jd (jn 7) (jd (qH jfJ (fun _=>rfl) (fun _=>T.wL) boot_min (jl (jc 8) (jl (eg (jQ (fun _=>jeA T) (fun _=>hr.mono (by decide)) (fun _=>rfl) (fun _=>T.rh) (fun _=>T.vJ.kp) (fun _=>T.rg) (jd (jn 0) (jd (jn 1) (jd (jn 3) (jd (jn 7) jt)))))) jB))) jt)))) (fun _=>tZ.nd) rfl (fun _=>Or.inr rfl) (fun _=>Or.inl rfl))))))))))
theorem jfW (T:Txt K mg A):FnOk P w K mg base JT 1 A.vd A.uW ["rooms"] (@spO ⟨K⟩ QH):=
 QK (m:=Z7) T.vQ jf4 rfl rfl fun cdv Ar outer s H E hr=>(jo (JF (JL (sc:=je zr) (Lc:=["share"]) (Fn:=[]) (ix:=[]) (fun _=>rfl) (show LcOk (je zr) ["rooms"] _ [] [] from by decide +kernel) (j9 (jc 0)) ‹"bp"› jU (WO.toE (jso (eg (WO.toE (JG (jd jx jt)))) ‹"n"›)))))
theorem ZF (T:Txt K mg A) (k:Nat) (h:FnOk P w K mg base JT (3+2*k) A.u3 A.uT ["needs","rooms","hours"] (@spS ⟨K⟩ (zU k))):FnOk P w K mg base JT (3+2*k+1) A.uw A.ur ["needs","rooms","hours","marks"] (@spO ⟨K⟩ (Jq 4 8 (qN (zU k)))):=
 QK (m:=qN (zU k)) T.um tP rfl rfl fun cdv Ar outer s H E hr=>
  (jf (jef (i:=4) (fun _=>tP.nd) rfl (fun _=>rfl) (sc:=je jN) (Lc:=["need","share"]) (Fn:=["marks"]) (ix:=[3]) (fun _=>rfl) (show LcOk (je jN) ["needs","rooms","hours","marks","inside","outside","high","low"] _ ["marks"] [3] from by decide +kernel) (Ql (fun _=>rfl) (fun _=>T.vi) (jl (jc 0) (jl (jc 1) jB))) (Zr (qO (i:=0) (fun _=>show List.Nodup (["need","share","marks"]:List Str) from by decide +kernel) rfl (by decide) ‹"a"› ‹"i"› (qO (i:=1) (fun _=>show List.Nodup (["need","share","marks"]:List Str) from by decide +kernel) rfl (by decide) ‹"a"› ‹"i"› Zx))) jU (jQ (fun _=>jhq T) ‹"T"› (fun _=>rfl) (fun _=>T.sk) (fun _=>T.wH.kp) (fun _=>T.rZ) (jd (jn 0) (jd (jn 1) (jd (jn 2) jt)))))
   (jf (jef (i:=5) (fun _=>tP.nd) rfl (fun _=>rfl) (sc:=je jN) (Lc:=["need","many"]) (Fn:=[]) (ix:=[]) (fun _=>rfl) (show LcOk (je jN) ["needs","rooms","hours","marks","inside","outside","high","low"] _ [] [] from by decide +kernel) (Ql (fun _=>rfl) (fun _=>T.vi) (jl (jc 0) (jl (jc 4) jB))) (Zr (qO (i:=0) (fun _=>show List.Nodup (["need","many"]:List Str) from by decide +kernel) rfl (by decide) ‹"a"› ‹"i"› (qO (i:=1) (fun _=>show List.Nodup (["need","many"]:List Str) from by decide +kernel) rfl (by decide) ‹"a"› ‹"i"› Zx))) jU (Jh (jc 0) (jc 1)))
   (jf (jD (i:=6) (jQ (fun _=>h) ‹"T"› (fun _=>rfl) (fun _=>T.wC) (fun _=>T.vD.kp) (fun _=>T.wt) (jd (jn 4) ‹"aZ"›)) (fun _=>tP.nd) rfl ‹"a"› ‹"a"›)
   (jf (jD (i:=7) (jQ (fun _=>h) ‹"T"› (fun _=>rfl) (fun _=>T.wC) (fun _=>T.vD.kp) (fun _=>T.wt) (jd (jn 5) ‹"aZ"›)) (fun _=>tP.nd) rfl ‹"a"› ‹"a"›)
   (jo (JF (JL (sc:=je jN) (Lc:=["marked","others"]) (Fn:=["marks"]) (ix:=[3]) (fun _=>rfl) (show LcOk (je jN) ["needs","rooms","hours","marks","inside","outside","high","low"] _ ["marks"] [3] from by decide +kernel) (Ql (fun _=>rfl) (fun _=>T.vi) (jl (jc 6) (jl (jc 7) jB))) (Zr (qO (i:=0) (fun _=>show List.Nodup (["marked","others","marks"]:List Str) from by decide +kernel) rfl (by decide) (fun _=>Or.inl rfl) (fun _=>Or.inr rfl) (qO (i:=1) (fun _=>show List.Nodup (["marked","others","marks"]:List Str) from by decide +kernel) rfl (by decide) (fun _=>Or.inl rfl) (fun _=>Or.inr rfl) Zx))) jU (WO.toE (qd (fun _=>jj7 T) (fun _=>hr.mono (by omega)) (fun _=>rfl) (fun _=>T.sT) (fun _=>T.rL.kp) (fun _=>T.sR) (jd (jn 0) (jd (jn 1) (jd (jn 2) jt))))))))))))
theorem jaj (T:Txt K mg A):∀k,FnOk P w K mg base JT (3+2*k) A.u3 A.uT ["needs","rooms","hours"] (@spS ⟨K⟩ (zU k))
 | 0=>jqH
 | k+1=>FnOk.mono (j:=3+2*k+1+1) (zq (m:=jbJ (Jq 4 8 (qN (zU k)))) T.vD vf rfl rfl fun cdv Ar outer s H E hr=>
   (jf (jD (i:=3) (Q1 (eg ‹"aP"›) (eg (qH tO (fun _=>rfl) (fun _=>T.tO) KP (jl (jc 2) jB)))) (fun _=>vf.nd) rfl ‹"i"› ‹"a"›)
     (jf (jD (i:=4) (jQ (fun _=>je6 T) ‹"T"› (fun _=>rfl) (fun _=>T.rG) (fun _=>T.v7.kp) (fun _=>T.rn) (jd (jn 0) (jd (jn 1) (jd (WO.toE (JL (sc:=je Jn) (Lc:=["many"]) (Fn:=["level"]) (ix:=[3]) (fun _=>rfl) (show LcOk (je Jn) ["needs","rooms","hours","level","floor","full"] _ ["level"] [3] from by decide +kernel) (j9 (jc 2)) ‹"bg"› jU (zO (jc 1) (jc 0)))) (jd (WO.toE (qd (fun _=>jfW T) ‹"T"› (fun _=>rfl) (fun _=>T.rE) (fun _=>T.vQ.kp) (fun _=>T.rJ) (jd (jn 1) jt))) jt))))) (fun _=>vf.nd) rfl ‹"a"› ‹"a"›)
     (jf (ze (za jfk (eg (jP (jc 4) (eg (qE (fun _=>rfl) (fun _=>T.sX))))) (eg (zO (jc 3) (eg (qH tO (fun _=>rfl) (fun _=>T.tO) KP (jl (jc 2) jB))))))
     (jo (jX (WO.toE (qd (fun _=>ZF T k (jaj T k)) (fun _=>hr.mono (by omega)) (fun _=>rfl) (fun _=>T.u6) (fun _=>T.um.kp) (fun _=>T.va) (jd (jn 0) (jd (jn 1) (jd (jn 2) (jd (jP (jc 4) (eg (qE (fun _=>rfl) (fun _=>T.sC)))) jt)))))))) j7)
     (jf (jD (i:=5) (jQ (fun _=>je6 T) ‹"T"› (fun _=>rfl) (fun _=>T.rG) (fun _=>T.v7.kp) (fun _=>T.rn) (jd (jn 0) (jd (jn 1) (jd (WO.toE (JL (sc:=je Jn) (Lc:=["many"]) (Fn:=["level"]) (ix:=[3]) (fun _=>rfl) (show LcOk (je Jn) ["needs","rooms","hours","level","floor","full"] _ ["level"] [3] from by decide +kernel) (j9 (jc 2)) ‹"bg"› jU (zO (eg (zF (jc 1) (eg jx))) (jc 0)))) (jd (jP (jc 4) (eg (qE (fun _=>rfl) (fun _=>T.sN)))) jt))))) (fun _=>vf.nd) rfl ‹"a"› ‹"a"›)
     (jf (ze (za jfk (eg (jP (jc 5) (eg (qE (fun _=>rfl) (fun _=>T.sX))))) (eg ‹"aP"›))
     (jo (jX (WO.toE (qd (fun _=>ZF T k (jaj T k)) (fun _=>hr.mono (by omega)) (fun _=>rfl) (fun _=>T.u6) (fun _=>T.um.kp) (fun _=>T.va) (jd (jn 0) (jd (jn 1) (jd (jn 2) (jd (jP (jc 5) (eg (qE (fun _=>rfl) (fun _=>T.sC)))) jt)))))))) j7)
     (jo (jX (jP (jc 5) (eg (qE (fun _=>rfl) (fun _=>T.sN)))))))))))) (by omega)
theorem jjT (T:Txt K mg A):FnOk P w K mg base JT (37) A.u3 A.uT ["needs","rooms","hours"] (@spS ⟨K⟩ f_evened):=jaj T 17
theorem jg6 (T:Txt K mg A):FnOk P w K mg base JT 1 A.vC A.vv ["fleet"] (@spO ⟨K⟩ ZC):=
 QK (m:=Ze) T.wj jhp rfl rfl fun cdv Ar outer s H E hr=>(jo (JF (JL (sc:=je zK) (Lc:=["ship"]) (Fn:=[]) (ix:=[]) (fun _=>rfl) (show LcOk (je zK) ["fleet"] _ [] [] from by decide +kernel) (j9 (jc 0)) ‹"a1"› jU (jP (jc 0) (eg (qE (fun _=>rfl) (fun _=>T.rW)))))))
theorem jnT (T:Txt K mg A):FnOk P w K mg base JT 38 A.rR A.rY ["fleet"] (@spS ⟨K⟩ jds):=
 zq (m:=jhO) T.sM jnE rfl rfl fun cdv Ar outer s H E hr=>
  (jf ‹"bl"›
   (jf (ze (za (jjM fun _=>hr.units) (jc 0) (eg (WO.toE (JG jt))))
   (jo (jX (WO.toE (JG jt)))) j7)
   (jo (jX (jQ (fun _=>jjT T) (fun _=>hr.mono (by decide)) (fun _=>rfl) (fun _=>T.wC) (fun _=>T.vD.kp) (fun _=>T.wt) (jd (WO.toE (qd (fun _=>jg6 T) (fun _=>hr.mono (by decide)) (fun _=>rfl) (fun _=>T.sj) (fun _=>T.wj.kp) (fun _=>T.rU) (jd (jn 0) jt))) (jd (WO.toE (qd (fun _=>jcl T) (fun _=>hr.mono (by decide)) (fun _=>rfl) (fun _=>T.vZ) (fun _=>T.vm.kp) (fun _=>T.wa) (jd (jn 0) jt))) (jd (WO.toE (qd (fun _=>jaK T) (fun _=>hr.mono (by decide)) (fun _=>rfl) (fun _=>T.vI) (fun _=>T.uJ.kp) (fun _=>T.vG) (jd (jn 0) jt))) jt))))))))
theorem Z8 (T:Txt K mg A):FnOk P w K mg base JT 1 A.uA A.uB ["parts","plan"] (@spO ⟨K⟩ JY):=
 QK (m:=QT) T.uC jeb rfl rfl fun cdv Ar outer s H E hr=>(jo (JF (JL (sc:=je qk) (Lc:=["s"]) (Fn:=["plan"]) (ix:=[1]) (fun _=>rfl) (show LcOk (je qk) ["parts","plan"] _ ["plan"] [1] from by decide +kernel) (WI.toT ‹"be"›) (j4 (i:=0) (fun _=>show List.Nodup (["s","plan"]:List Str) from by decide +kernel) rfl (by decide) ‹"i"› ‹"a"›) jU (qH tO (fun _=>rfl) (fun _=>T.tO) KP (jl (eg (WO.toE (joE (sc:=je qk) (Lc:=["row"]) (Fn:=["s"]) (ix:=[0]) (fun _=>rfl) (show LcOk (jjr (je qk) _) ["s","plan"] _ ["s"] [0] from by decide +kernel) (j9 (jc 1)) (j4 (i:=0) (fun _=>show List.Nodup (["row","s"]:List Str) from by decide +kernel) rfl (by decide) ‹"a"› ‹"i"›) jU (jP (jc 0) (jc 1))))) jB)))))
theorem ZI (T:Txt K mg A):FnOk P w K mg base JT 2 A.uq A.uk ["parts","plan"] (@spS ⟨K⟩ zJ):=
 zq (m:=Qw) T.uv tK rfl rfl fun cdv Ar outer s H E hr=>
  (jf (jD (i:=2) jx (fun _=>tK.nd) rfl ‹"a"› ‹"a"›)
   (jf (jD (i:=3) ‹"bi"› (fun _=>tK.nd) rfl ‹"a"› ‹"a"›)
   (jf (zC ‹"be"› (jW (i:=4) (fun _=>tK.nd) rfl ‹"a"› ‹"a"›)
   (jf (jD (i:=5) (Jh (eg (jP (eg (jP (jc 0) (jc 4))) (eg jx))) (eg (jP (eg (jP (jc 0) (jc 4))) (eg jx)))) (fun _=>tK.nd) rfl ‹"a"› ‹"a"›)
   (jf (jD (i:=6) (Q1 (eg (jP (jc 3) (jc 4))) (jc 5)) (fun _=>tK.nd) rfl ‹"a"› ‹"a"›)
   (jf (jD (i:=7) (zN (eg (jP (jc 3) (jc 4))) (jc 5)) (fun _=>tK.nd) rfl ‹"a"› ‹"a"›)
   (jo (jD (i:=2) (zF (eg (zF (jc 2) (eg (zO (eg (zO (jc 7) (eg (zF (jc 6) (eg jx))))) (eg (zF (jc 6) (eg jx))))))) (eg (zO (eg (zO (eg (Jh (jc 5) (jc 7))) (jc 6))) (jc 6)))) (fun _=>tK.nd) rfl (fun _=>Or.inl rfl) (fun _=>Or.inl rfl)))))))
   (jo (jX (jn 2))))))
theorem JX (T:Txt K mg A):FnOk P w K mg base JT 2 A.uM A.uF ["parts","plan","k"] (@spS ⟨K⟩ qX):=
 zq (m:=Qo) T.tX tW rfl rfl fun cdv Ar outer s H E hr=>
  (jf (jD (i:=3) jx (fun _=>tW.nd) rfl ‹"a"› ‹"a"›)
   (jf (jD (i:=4) ‹"bi"› (fun _=>tW.nd) rfl ‹"a"› ‹"a"›)
   (jf (zC ‹"be"› (jW (i:=5) (fun _=>tW.nd) rfl ‹"a"› ‹"a"›)
   (jo (jD (i:=3) (zF (jc 3) (eg (qH jk7 (fun _=>rfl) (fun _=>T.mr) boot_max (jl (eg jx) (jl (eg (Jh (eg (jP (jc 4) (jc 5))) (eg (zO (jc 2) (eg (Jh (eg (jP (eg (jP (jc 0) (jc 5))) (eg jx))) (eg (jP (eg (jP (jc 0) (jc 5))) (eg jx))))))))) jB))))) (fun _=>tW.nd) rfl (fun _=>Or.inl rfl) (fun _=>Or.inl rfl))))
   (jo (jX (jn 3))))))
theorem jqL (T:Txt K mg A):FnOk P w K mg base JT 39 A.sA A.sq ["script"] (@spS ⟨K⟩ jo1):=
 zq (m:=jiM) T.mE tR rfl rfl fun cdv Ar outer s H E hr=>
  (jf (jD (i:=1) ‹"bo"› (fun _=>tR.nd) rfl ‹"a"› ‹"a"›)
   (jf (QP (i:=2) (JG jt) (fun _=>tR.nd) rfl ‹"a"› ‹"a"›)
   (jf (zC (zZ (fun _=>rfl) (fun _=>T.tV) (jl (eg (jP (eg (WO.toE (JG (jd jx (jd jx (jd jx (jd jx (jd jx (jd jx jt))))))))) (eg (zN (jc 1) (eg jx))))) jB)) (jW (i:=3) (fun _=>tR.nd) rfl ‹"a"› ‹"a"›)
   (jf (jqU (jQ (fun _=>jfX T) ‹"b"› (fun _=>rfl) (fun _=>T.rH) (fun _=>T.vS.kp) (fun _=>T.rF) (jd ‹"a7"› (jd ‹"a7"› (jd jx jt)))) (jad (qC (jW (i:=4) (fun _=>tR.nd) rfl ‹"a"› ‹"a"›) (qC (jW (i:=5) (fun _=>tR.nd) rfl ‹"a"› ‹"a"›) (qC (jW (i:=6) (fun _=>tR.nd) rfl ‹"a"› ‹"a"›) (qC (jW (i:=7) (fun _=>tR.nd) rfl ‹"a"› ‹"a"›) ZY))))))
   (jo (QR (i:=2) rfl (fun _=>Or.inl rfl) (jeE (jd (jn 4) (jd (jn 5) (jd (qH jfJ (fun _=>rfl) (fun _=>T.wL) boot_min (jl (jc 6) (jl (eg (zN (eg (Q1 (eg (jQ (fun _=>zB T) (fun _=>hr.mono (by decide)) (fun _=>rfl) (fun _=>T.tT) (fun _=>T.tM.kp) (fun _=>T.tS) (jd (jn 0) (jd (zF (eg jx) (eg (zO (eg jx) (jc 3)))) jt)))) (eg jx))) (eg jx))) jB))) (jd (jn 7) jt)))))))))
   (jf (jfK 2 (jD (i:=8) (WO.toE (qd (fun _=>jaW T) ‹"b"› (fun _=>rfl) (fun _=>T.vE) (fun _=>T.uG.kp) (fun _=>T.vF) (jd (jn 2) jt))) (fun _=>tR.nd) rfl ‹"a"› ‹"a"›))
   (jf (jfK 2 (jD (i:=9) (WO.toE (qd (fun _=>jff T) ‹"b"› (fun _=>rfl) (fun _=>T.rA) (fun _=>T.vR.kp) (fun _=>T.rB) (jd (jn 2) (jd (WO.toE (jja (eg (WO.toE (jqA (jc 0) (jiY (eg jx)) (jiY (eg jx))))) (eg (WO.toE (JG (jd jx jt)))))) jt)))) (fun _=>tR.nd) rfl ‹"a"› ‹"a"›))
   (jf (jD (i:=10) (WO.toE (JG (jd jx (jd jx (jd (zN (eg ‹"bo"›) (eg jx)) jt))))) (fun _=>tR.nd) rfl ‹"a"› ‹"a"›)
   (jf (zC (zZ (fun _=>rfl) (fun _=>T.tV) (jl (eg jx) jB)) (jW (i:=3) (fun _=>tR.nd) rfl ‹"a"› ‹"a"›)
   (jf (jD (i:=11) (jQ (fun _=>jlG T) ‹"b"› (fun _=>rfl) (fun _=>T.me) (fun _=>T.sy.kp) (fun _=>T.mi) (jd ‹"al"› (jd ‹"a0"› jt))) (fun _=>tR.nd) rfl ‹"a"› ‹"a"›)
   (jf (ze (jrX (jc 11))
   (jf (jD (i:=12) (jQ (fun _=>jnT T) ‹"b"› (fun _=>rfl) (fun _=>T.mz) (fun _=>T.sM.kp) (fun _=>T.mw) (jd ‹"al"› jt)) (fun _=>tR.nd) rfl ‹"a"› ‹"a"›)
   (jf (zC (jbq (WO.toE (jja (jc 10) (eg (WO.toE (JG (jd jx (jd jx (jd jx (jd jx (jd jx jt))))))))))) (jW (i:=13) (fun _=>tR.nd) rfl ‹"a"› ‹"a"›)
   (jo (ze (za (jlY fun _=>hr.units) ‹"bd"› (eg (jQ (fun _=>JX T) ‹"b"› (fun _=>rfl) (fun _=>T.ug) (fun _=>T.tX.kp) (fun _=>T.uh) (jd (jn 8) (jd (jn 12) (jd (jn 13) jt))))))
   (jo (jX jay)) j7)))
   (jo (jX jay)))) j7)
   (jf (jD (i:=14) (jQ (fun _=>jl6 T) ‹"b"› (fun _=>rfl) (fun _=>T.md) (fun _=>T.sx.kp) (fun _=>T.mf) (jd ‹"al"› (jd ‹"a0"› (jd (jn 11) jt)))) (fun _=>tR.nd) rfl ‹"a"› ‹"a"›)
   (jf (ze (za jpQ (eg (jQ (fun _=>ZI T) ‹"b"› (fun _=>rfl) (fun _=>T.u5) (fun _=>T.uv.kp) (fun _=>T.uX) (jd (jn 8) (jd (jn 14) jt)))) (eg (jQ (fun _=>ZI T) ‹"b"› (fun _=>rfl) (fun _=>T.u5) (fun _=>T.uv.kp) (fun _=>T.uX) (jd (jn 8) (jd (jn 9) jt)))))
   (jo (jX jay)) j7)
   (jf (zC (jbq (jn 10)) (jW (i:=13) (fun _=>tR.nd) rfl ‹"a"› ‹"a"›)
   (jo (ze (za jqV (eg (jQ (fun _=>JX T) ‹"b"› (fun _=>rfl) (fun _=>T.ug) (fun _=>T.tX.kp) (fun _=>T.uh) (jd (jn 8) (jd (jn 14) (jd (jn 13) jt))))) ‹"bd"›)
   (jo (jX jay)) j7)))
   (jo (jD (i:=9) (jn 14) (fun _=>tR.nd) rfl (fun _=>Or.inl rfl) (fun _=>Or.inl rfl)))))))))
   (jo (jX jay)))))))))
end
def jiG (K:PySem.W.Frag):Sp:=fun vs H Q _=>∃(a:Addr) (ns:List Int),vs=[.ref a]/\J6 K H a (ns.map V.int)/\ns.length<=63/\∀H',Q (.bl true) H'
theorem jnI {P:Program} {w:World} {K:PySem.W.Frag} {mg:Str → Option Value} {base:Heap} {A:Adr} (T:Txt K mg A):FnOk P w K mg base JT 39 A.sA A.sq ["script"] (jiG K):=by
 letI:Fr:=⟨K⟩
 refine (jqL T).imp fun vs H Q E h=>?_;obtain ⟨a,ns,rfl,hs,hl,q⟩:=h;exact ⟨H,[.scr ns],.bl true,.refl _,.cons (.scr hs) .nil,jmF ns hl,fun v G' H' x r=>by cases r;exact q _⟩
set_option maxHeartbeats 4000000 in
abbrev ya (K:PySem.W.Frag) (x:Str) (f:Addr):Prop:=PySem.W.nsIn K mainGlobals x=some (some (.ref f))
abbrev yb (K:PySem.W.Frag) (x:Str) (st:Stmt) (f:Addr) (oc) (od) (kV) (dc) (pm) (an) (cd) (ct) (sl):=K.lookup f=some ⟨oc,od,.func (PySem.W.fnOf x x (jK st) (jI st) (je st) .none kV dc pm an cd ct),sl⟩
abbrev yc (K:PySem.W.Frag) (cd) (x:Str):=PySem.W.codeIn K cd x=true
abbrev yd (K:PySem.W.Frag) (f:Addr):Prop:=PySem.W.keepIn K (.ref f)=true
theorem jqG {l:PySem.W.OpenLaw} {w:World} {K:PySem.W.Frag} {h:Heap} {mg:Str → Option Value} {fa:Addr} (X:K.In h) (G:h.Ns mainGlobals mg) (hfa:mg "law"=some (.ref fa))
 {f0 f1 f2 f3 f4 f5 f6 f7 f8 f9 f10 f11 f12 f13 f14 f15 f16 f17 f18 f19 f20 f21 f22 f23 f24 f25 f26 f27 f28 f29 f30 f31 f32 f33 f34 f35 f36 f37 f38 f39:Addr}
 {od0 od1 od2 od3 od4 od5 od6 od7 od8 od9 od10 od11 od12 od13 od14 od15 od16 od17 od18 od19 od20 od21 od22 od23 od24 od25 od26 od27 od28 od29 od30 od31 od32 od33 od34 od35 od36 od37 od38 od39:Option Addr}
 {an0 an1 an2 an3 an4 an5 an6 an7 an8 an9 an10 an11 an12 an13 an14 an15 an16 an17 an18 an19 an20 an21 an22 an23 an24 an25 an26 an27 an28 an29 an30 an31 an32 an33 an34 an35 an36 an37 an38 an39:Option Addr}
 {sl0 sl1 sl2 sl3 sl4 sl5 sl6 sl7 sl8 sl9 sl10 sl11 sl12 sl13 sl14 sl15 sl16 sl17 sl18 sl19 sl20 sl21 sl22 sl23 sl24 sl25 sl26 sl27 sl28 sl29 sl30 sl31 sl32 sl33 sl34 sl35 sl36 sl37 sl38 sl39:Array (Option Value)}
 {oc0 oc1 oc2 oc3 oc4 oc5 oc6 oc7 oc8 oc9 oc10 oc11 oc12 oc13 oc14 oc15 oc16 oc17 oc18 oc19 oc20 oc21 oc22 oc23 oc24 oc25 oc26 oc27 oc28 oc29 oc30 oc31 oc32 oc33 oc34 oc35 oc36 oc37 oc38 oc39:Value}
 {kV0 kV1 kV2 kV3 kV4 kV5 kV6 kV7 kV8 kV9 kV10 kV11 kV12 kV13 kV14 kV15 kV16 kV17 kV18 kV19 kV20 kV21 kV22 kV23 kV24 kV25 kV26 kV27 kV28 kV29 kV30 kV31 kV32 kV33 kV34 kV35 kV36 kV37 kV38 kV39:Value}
 {dc0 dc1 dc2 dc3 dc4 dc5 dc6 dc7 dc8 dc9 dc10 dc11 dc12 dc13 dc14 dc15 dc16 dc17 dc18 dc19 dc20 dc21 dc22 dc23 dc24 dc25 dc26 dc27 dc28 dc29 dc30 dc31 dc32 dc33 dc34 dc35 dc36 dc37 dc38 dc39:Value}
 {pm0 pm1 pm2 pm3 pm4 pm5 pm6 pm7 pm8 pm9 pm10 pm11 pm12 pm13 pm14 pm15 pm16 pm17 pm18 pm19 pm20 pm21 pm22 pm23 pm24 pm25 pm26 pm27 pm28 pm29 pm30 pm31 pm32 pm33 pm34 pm35 pm36 pm37 pm38 pm39:Value}
 {cd0 cd1 cd2 cd3 cd4 cd5 cd6 cd7 cd8 cd9 cd10 cd11 cd12 cd13 cd14 cd15 cd16 cd17 cd18 cd19 cd20 cd21 cd22 cd23 cd24 cd25 cd26 cd27 cd28 cd29 cd30 cd31 cd32 cd33 cd34 cd35 cd36 cd37 cd38 cd39:Value}
 {ct0 ct1 ct2 ct3 ct4 ct5 ct6 ct7 ct8 ct9 ct10 ct11 ct12 ct13 ct14 ct15 ct16 ct17 ct18 ct19 ct20 ct21 ct22 ct23 ct24 ct25 ct26 ct27 ct28 ct29 ct30 ct31 ct32 ct33 ct34 ct35 ct36 ct37 ct38 ct39:Value}
 {t0:Tok}
 {t1:Tok}
 {t2:Tok}
 {t3:Tok}
 {t4:Tok}
 {t5:Tok}
 {t6:Tok}
 {t7:Tok}
 {t8:Tok}
 {t9:Tok}
 {t10:Tok}
 (a0:ya K "_law_cell_at" f0) (l0:yb K "_law_cell_at" zd f0 oc0 od0 kV0 dc0 pm0 an0 cd0 ct0 sl0) (c0:yc K cd0 "_law_cell_at") (k0:yd K f0)
 (a1:ya K "_law_parts" f1) (l1:yb K "_law_parts" qe f1 oc1 od1 kV1 dc1 pm1 an1 cd1 ct1 sl1) (c1:yc K cd1 "_law_parts") (k1:yd K f1)
 (a2:ya K "_law_rooms" f2) (l2:yb K "_law_rooms" Jb f2 oc2 od2 kV2 dc2 pm2 an2 cd2 ct2 sl2) (c2:yc K cd2 "_law_rooms") (k2:yd K f2)
 (a3:ya K "_law_plan" f3) (l3:yb K "_law_plan" Js f3 oc3 od3 kV3 dc3 pm3 an3 cd3 ct3 sl3) (c3:yc K cd3 "_law_plan") (k3:yd K f3)
 (a4:ya K "_law_ship" f4) (l4:yb K "_law_ship" Ju f4 oc4 od4 kV4 dc4 pm4 an4 cd4 ct4 sl4) (c4:yc K cd4 "_law_ship") (k4:yd K f4)
 (a5:ya K "is_whole" f5) (l5:yb K "is_whole" JO f5 oc5 od5 kV5 dc5 pm5 an5 cd5 ct5 sl5) (c5:yc K cd5 "is_whole") (k5:yd K f5)
 (a6:ya K "is_ship" f6) (l6:yb K "is_ship" Jr f6 oc6 od6 kV6 dc6 pm6 an6 cd6 ct6 sl6) (c6:yc K cd6 "is_ship") (k6:yd K f6)
 (a7:ya K "is_fleet" f7) (l7:yb K "is_fleet" zM f7 oc7 od7 kV7 dc7 pm7 an7 cd7 ct7 sl7) (c7:yc K cd7 "is_fleet") (k7:yd K f7)
 (a8:ya K "must_be_fleet" f8) (l8:yb K "must_be_fleet" qT f8 oc8 od8 kV8 dc8 pm8 an8 cd8 ct8 sl8) (c8:yc K cd8 "must_be_fleet") (k8:yd K f8)
 (a9:ya K "bounds" f9) (l9:yb K "bounds" Jl f9 oc9 od9 kV9 dc9 pm9 an9 cd9 ct9 sl9) (c9:yc K cd9 "bounds") (k9:yd K f9)
 (a10:ya K "stretches" f10) (l10:yb K "stretches" Jv f10 oc10 od10 kV10 dc10 pm10 an10 cd10 ct10 sl10) (c10:yc K cd10 "stretches") (k10:yd K f10)
 (a11:ya K "length" f11) (l11:yb K "length" Q2 f11 oc11 od11 kV11 dc11 pm11 an11 cd11 ct11 sl11) (c11:yc K cd11 "length") (k11:yd K f11)
 (a12:ya K "room" f12) (l12:yb K "room" jb8 f12 oc12 od12 kV12 dc12 pm12 an12 cd12 ct12 sl12) (c12:yc K cd12 "room") (k12:yd K f12)
 (a13:ya K "is_share" f13) (l13:yb K "is_share" qZ f13 oc13 od13 kV13 dc13 pm13 an13 cd13 ct13 sl13) (c13:yc K cd13 "is_share") (k13:yd K f13)
 (a14:ya K "is_plan" f14) (l14:yb K "is_plan" Jw f14 oc14 od14 kV14 dc14 pm14 an14 cd14 ct14 sl14) (c14:yc K cd14 "is_plan") (k14:yd K f14)
 (a15:ya K "must_be_plan" f15) (l15:yb K "must_be_plan" zg f15 oc15 od15 kV15 dc15 pm15 an15 cd15 ct15 sl15) (c15:yc K cd15 "must_be_plan") (k15:yd K f15)
 (a16:ya K "rooms_of" f16) (l16:yb K "rooms_of" qY f16 oc16 od16 kV16 dc16 pm16 an16 cd16 ct16 sl16) (c16:yc K cd16 "rooms_of") (k16:yd K f16)
 (a17:ya K "lengths_of" f17) (l17:yb K "lengths_of" qU f17 oc17 od17 kV17 dc17 pm17 an17 cd17 ct17 sl17) (c17:yc K cd17 "lengths_of") (k17:yd K f17)
 (a18:ya K "total" f18) (l18:yb K "total" QO f18 oc18 od18 kV18 dc18 pm18 an18 cd18 ct18 sl18) (c18:yc K cd18 "total") (k18:yd K f18)
 (a19:ya K "mover" f19) (l19:yb K "mover" jam f19 oc19 od19 kV19 dc19 pm19 an19 cd19 ct19 sl19) (c19:yc K cd19 "mover") (k19:yd K f19)
 (a20:ya K "reach" f20) (l20:yb K "reach" jao f20 oc20 od20 kV20 dc20 pm20 an20 cd20 ct20 sl20) (c20:yc K cd20 "reach") (k20:yd K f20)
 (a21:ya K "way_to" f21) (l21:yb K "way_to" Q5 f21 oc21 od21 kV21 dc21 pm21 an21 cd21 ct21 sl21) (c21:yc K cd21 "way_to") (k21:yd K f21)
 (a22:ya K "chain" f22) (l22:yb K "chain" zE f22 oc22 od22 kV22 dc22 pm22 an22 cd22 ct22 sl22) (c22:yc K cd22 "chain") (k22:yd K f22)
 (a23:ya K "behind" f23) (l23:yb K "behind" J1 f23 oc23 od23 kV23 dc23 pm23 an23 cd23 ct23 sl23) (c23:yc K cd23 "behind") (k23:yd K f23)
 (a24:ya K "moved" f24) (l24:yb K "moved" jat f24 oc24 od24 kV24 dc24 pm24 an24 cd24 ct24 sl24) (c24:yc K cd24 "moved") (k24:yd K f24)
 (a25:ya K "bound_in" f25) (l25:yb K "bound_in" zT f25 oc25 od25 kV25 dc25 pm25 an25 cd25 ct25 sl25) (c25:yc K cd25 "bound_in") (k25:yd K f25)
 (a26:ya K "kept" f26) (l26:yb K "kept" ZQ f26 oc26 od26 kV26 dc26 pm26 an26 cd26 ct26 sl26) (c26:yc K cd26 "kept") (k26:yd K f26)
 (a27:ya K "joined" f27) (l27:yb K "joined" QZ f27 oc27 od27 kV27 dc27 pm27 an27 cd27 ct27 sl27) (c27:yc K cd27 "joined") (k27:yd K f27)
 (a28:ya K "put_in" f28) (l28:yb K "put_in" Zc f28 oc28 od28 kV28 dc28 pm28 an28 cd28 ct28 sl28) (c28:yc K cd28 "put_in") (k28:yd K f28)
 (a29:ya K "most_along" f29) (l29:yb K "most_along" Je f29 oc29 od29 kV29 dc29 pm29 an29 cd29 ct29 sl29) (c29:yc K cd29 "most_along") (k29:yd K f29)
 (a30:ya K "filled" f30) (l30:yb K "filled" zu f30 oc30 od30 kV30 dc30 pm30 an30 cd30 ct30 sl30) (c30:yc K cd30 "filled") (k30:yd K f30)
 (a31:ya K "no_cranes" f31) (l31:yb K "no_cranes" zr f31 oc31 od31 kV31 dc31 pm31 an31 cd31 ct31 sl31) (c31:yc K cd31 "no_cranes") (k31:yd K f31)
 (a32:ya K "evened_apart" f32) (l32:yb K "evened_apart" jN f32 oc32 od32 kV32 dc32 pm32 an32 cd32 ct32 sl32) (c32:yc K cd32 "evened_apart") (k32:yd K f32)
 (a33:ya K "evened" f33) (l33:yb K "evened" Jn f33 oc33 od33 kV33 dc33 pm33 an33 cd33 ct33 sl33) (c33:yc K cd33 "evened") (k33:yd K f33)
 (a34:ya K "needs_of" f34) (l34:yb K "needs_of" zK f34 oc34 od34 kV34 dc34 pm34 an34 cd34 ct34 sl34) (c34:yc K cd34 "needs_of") (k34:yd K f34)
 (a35:ya K "even" f35) (l35:yb K "even" jb0 f35 oc35 od35 kV35 dc35 pm35 an35 cd35 ct35 sl35) (c35:yc K cd35 "even") (k35:yd K f35)
 (a36:ya K "_law_totals" f36) (l36:yb K "_law_totals" qk f36 oc36 od36 kV36 dc36 pm36 an36 cd36 ct36 sl36) (c36:yc K cd36 "_law_totals") (k36:yd K f36)
 (a37:ya K "_law_squares" f37) (l37:yb K "_law_squares" zm f37 oc37 od37 kV37 dc37 pm37 an37 cd37 ct37 sl37) (c37:yc K cd37 "_law_squares") (k37:yd K f37)
 (a38:ya K "_law_above" f38) (l38:yb K "_law_above" Jc f38 oc38 od38 kV38 dc38 pm38 an38 cd38 ct38 sl38) (c38:yc K cd38 "_law_above") (k38:yd K f38)
 (a39:ya K "law" f39) (l39:yb K "law" jaT f39 oc39 od39 kV39 dc39 pm39 an39 cd39 ct39 sl39) (c39:yc K cd39 "law") (k39:yd K f39)
 (cst0:PySem.W.nsIn K mainGlobals "NEED"=some (some (.int 2 t0)))
 (cst1:PySem.W.nsIn K mainGlobals "MOST"=some (some (.int 3 t1)))
 (cst2:PySem.W.nsIn K mainGlobals "END"=some (some (.int 1 t2)))
 (cst3:PySem.W.nsIn K mainGlobals "BEGIN"=some (some (.int 0 t3)))
 (cst4:PySem.W.nsIn K mainGlobals "TO"=some (some (.int 1 t4)))
 (cst5:PySem.W.nsIn K mainGlobals "FROM"=some (some (.int 0 t5)))
 (cst6:PySem.W.nsIn K mainGlobals "OFF"=some (some (.int 1 t6)))
 (cst7:PySem.W.nsIn K mainGlobals "SHIP"=some (some (.int 0 t7)))
 (cst8:PySem.W.nsIn K mainGlobals "PART"=some (some (.int 1 t8)))
 (cst9:PySem.W.nsIn K mainGlobals "MANY"=some (some (.int 0 t9)))
 (cst10:PySem.W.nsIn K mainGlobals "MARKS"=some (some (.int 2 t10)))
 (z0:PySem.W.nsIn K mainGlobals "len"=some none)
 (z1:PySem.W.nsIn K mainGlobals "range"=some none)
 (z2:PySem.W.nsIn K mainGlobals "sorted"=some none)
 (z3:PySem.W.nsIn K mainGlobals "min"=some none)
 (z4:PySem.W.nsIn K mainGlobals "isinstance"=some none)
 (z5:PySem.W.nsIn K mainGlobals "bool"=some none)
 (z6:PySem.W.nsIn K mainGlobals "int"=some none)
 (z7:PySem.W.nsIn K mainGlobals "all"=some none)
 (z8:PySem.W.nsIn K mainGlobals "tuple"=some none)
 (z9:PySem.W.nsIn K mainGlobals "list"=some none)
 (z10:PySem.W.nsIn K mainGlobals "set"=some none)
 (z11:PySem.W.nsIn K mainGlobals "zip"=some none)
 (z12:PySem.W.nsIn K mainGlobals "sum"=some none)
 (z13:PySem.W.nsIn K mainGlobals "enumerate"=some none)
 (z14:PySem.W.nsIn K mainGlobals "dict"=some none)
 (z15:PySem.W.nsIn K mainGlobals "reversed"=some none)
 (z16:PySem.W.nsIn K mainGlobals "max"=some none) :
 ∃fd:FuncData,(∀(s:Shared) (v:Value),BindsTo s fd ⟨[v],[]⟩ [("script",v)]) ∧ ∀base:Heap,K.In base → base.Ns mainGlobals mg → FnOk l.prog w K mg base JT 39 fa fd ["script"] (jiG K):=by
 have e:=hfa.symm.trans (Yp X G a39);have e':f39=fa:=by injection (Option.some.inj e) with z;exact z.symm
 subst e';have F0:=jV (st:=zd) l0 c0 k0;have b0:=F0.binds (ps:=["script","k"]) fun _ _ _ _ _ _=>ar2 fun _ _=>rfl;have F1:=jV (st:=qe) l1 c1 k1;have b1:=F1.binds (ps:=["fleet"]) fun _ _ _ _ _ _=>ar1 fun _=>rfl;have F2:=jV (st:=Jb) l2 c2 k2;have b2:=F2.binds (ps:=["ship","parts"]) fun _ _ _ _ _ _=>ar2 fun _ _=>rfl;have F3:=jV (st:=Js) l3 c3 k3;have b3:=F3.binds (ps:=["fleet","cells"]) fun _ _ _ _ _ _=>ar2 fun _ _=>rfl;have F4:=jV (st:=Ju) l4 c4 k4;have b4:=F4.binds (ps:=["one","two","kind"]) fun _ _ _ _ _ _=>ar3 fun _ _ _=>rfl;have F5:=jV (st:=JO) l5 c5 k5;have b5:=F5.binds (ps:=["thing"]) fun _ _ _ _ _ _=>ar1 fun _=>rfl;have F6:=jV (st:=Jr) l6 c6 k6;have b6:=F6.binds (ps:=["thing"]) fun _ _ _ _ _ _=>ar1 fun _=>rfl;have F7:=jV (st:=zM) l7 c7 k7;have b7:=F7.binds (ps:=["thing"]) fun _ _ _ _ _ _=>ar1 fun _=>rfl;have F8:=jV (st:=qT) l8 c8 k8;have b8:=F8.binds (ps:=["thing"]) fun _ _ _ _ _ _=>ar1 fun _=>rfl;have F9:=jV (st:=Jl) l9 c9 k9;have b9:=F9.binds (ps:=["fleet"]) fun _ _ _ _ _ _=>ar1 fun _=>rfl;have F10:=jV (st:=Jv) l10 c10 k10;have b10:=F10.binds (ps:=["fleet"]) fun _ _ _ _ _ _=>ar1 fun _=>rfl;have F11:=jV (st:=Q2) l11 c11 k11;have b11:=F11.binds (ps:=["stretch"]) fun _ _ _ _ _ _=>ar1 fun _=>rfl;have F12:=jV (st:=jb8) l12 c12 k12;have b12:=F12.binds (ps:=["ship","stretch"]) fun _ _ _ _ _ _=>ar2 fun _ _=>rfl;have F13:=jV (st:=qZ) l13 c13 k13;have b13:=F13.binds (ps:=["ship","spans","thing"]) fun _ _ _ _ _ _=>ar3 fun _ _ _=>rfl;have F14:=jV (st:=Jw) l14 c14 k14;have b14:=F14.binds (ps:=["fleet","thing"]) fun _ _ _ _ _ _=>ar2 fun _ _=>rfl;have F15:=jV (st:=zg) l15 c15 k15;have b15:=F15.binds (ps:=["fleet","thing"]) fun _ _ _ _ _ _=>ar2 fun _ _=>rfl;have F16:=jV (st:=qY) l16 c16 k16;have b16:=F16.binds (ps:=["fleet"]) fun _ _ _ _ _ _=>ar1 fun _=>rfl;have F17:=jV (st:=qU) l17 c17 k17;have b17:=F17.binds (ps:=["fleet"]) fun _ _ _ _ _ _=>ar1 fun _=>rfl;have F18:=jV (st:=QO) l18 c18 k18;have b18:=F18.binds (ps:=["plan","place"]) fun _ _ _ _ _ _=>ar2 fun _ _=>rfl;have F19:=jV (st:=jam) l19 c19 k19;have b19:=F19.binds (ps:=["rooms","part","off","on"]) fun _ _ _ _ _ _=>ar4 fun _ _ _ _=>rfl;have F20:=jV (st:=jao) l20 c20 k20;have b20:=F20.binds (ps:=["rooms","part","begun"]) fun _ _ _ _ _ _=>ar3 fun _ _ _=>rfl;have F21:=jV (st:=Q5) l21 c21 k21;have b21:=F21.binds (ps:=["moves","end"]) fun _ _ _ _ _ _=>ar2 fun _ _=>rfl;have F22:=jV (st:=zE) l22 c22 k22;have b22:=F22.binds (ps:=["fleet","plan"]) fun _ _ _ _ _ _=>ar2 fun _ _=>rfl;have F23:=jV (st:=J1) l23 c23 k23;have b23:=F23.binds (ps:=["part","way","many"]) fun _ _ _ _ _ _=>ar3 fun _ _ _=>rfl;have F24:=jV (st:=jat) l24 c24 k24;have b24:=F24.binds (ps:=["fleet","plan","moves"]) fun _ _ _ _ _ _=>ar3 fun _ _ _=>rfl;have F25:=jV (st:=zT) l25 c25 k25;have b25:=F25.binds (ps:=["need","rooms","marks"]) fun _ _ _ _ _ _=>ar3 fun _ _ _=>rfl;have F26:=jV (st:=ZQ) l26 c26 k26;have b26:=F26.binds (ps:=["numbers","marks","mark"]) fun _ _ _ _ _ _=>ar3 fun _ _ _=>rfl;have F27:=jV (st:=QZ) l27 c27 k27;have b27:=F27.binds (ps:=["marked","others","marks"]) fun _ _ _ _ _ _=>ar3 fun _ _ _=>rfl;have F28:=jV (st:=Zc) l28 c28 k28;have b28:=F28.binds (ps:=["needs","rooms","part"]) fun _ _ _ _ _ _=>ar3 fun _ _ _=>rfl;have F29:=jV (st:=Je) l29 c29 k29;have b29:=F29.binds (ps:=["needs","rooms","part","way"]) fun _ _ _ _ _ _=>ar4 fun _ _ _ _=>rfl;have F30:=jV (st:=zu) l30 c30 k30;have b30:=F30.binds (ps:=["needs","rooms","tops","part"]) fun _ _ _ _ _ _=>ar4 fun _ _ _ _=>rfl;have F31:=jV (st:=zr) l31 c31 k31;have b31:=F31.binds (ps:=["rooms"]) fun _ _ _ _ _ _=>ar1 fun _=>rfl;have F32:=jV (st:=jN) l32 c32 k32;have b32:=F32.binds (ps:=["needs","rooms","hours","marks"]) fun _ _ _ _ _ _=>ar4 fun _ _ _ _=>rfl;have F33:=jV (st:=Jn) l33 c33 k33;have b33:=F33.binds (ps:=["needs","rooms","hours"]) fun _ _ _ _ _ _=>ar3 fun _ _ _=>rfl;have F34:=jV (st:=zK) l34 c34 k34;have b34:=F34.binds (ps:=["fleet"]) fun _ _ _ _ _ _=>ar1 fun _=>rfl;have F35:=jV (st:=jb0) l35 c35 k35;have b35:=F35.binds (ps:=["fleet"]) fun _ _ _ _ _ _=>ar1 fun _=>rfl;have F36:=jV (st:=qk) l36 c36 k36;have b36:=F36.binds (ps:=["parts","plan"]) fun _ _ _ _ _ _=>ar2 fun _ _=>rfl;have F37:=jV (st:=zm) l37 c37 k37;have b37:=F37.binds (ps:=["parts","plan"]) fun _ _ _ _ _ _=>ar2 fun _ _=>rfl;have F38:=jV (st:=Jc) l38 c38 k38;have b38:=F38.binds (ps:=["parts","plan","k"]) fun _ _ _ _ _ _=>ar3 fun _ _ _=>rfl;have F39:=jV (st:=jaT) l39 c39 k39;have b39:=F39.binds (ps:=["script"]) fun _ _ _ _ _ _=>ar1 fun _=>rfl;have T:Txt K mg ⟨f0,_,f1,_,f2,_,f3,_,f4,_,f5,_,f6,_,f7,_,f8,_,f9,_,f10,_,f11,_,f12,_,f13,_,f14,_,f15,_,f16,_,f17,_,f18,_,f19,_,f20,_,f21,_,f22,_,f23,_,f24,_,f25,_,f26,_,f27,_,f28,_,f29,_,f30,_,f31,_,f32,_,f33,_,f34,_,f35,_,f36,_,f37,_,f38,_,f39,_,t0,t1,t2,t3,t4,t5,t6,t7,t8,t9,t10⟩:=⟨F0,b0,Yp X G a0,F1,b1,Yp X G a1,F2,b2,Yp X G a2,F3,b3,Yp X G a3,F4,b4,Yp X G a4,F5,b5,Yp X G a5,F6,b6,Yp X G a6,F7,b7,Yp X G a7,F8,b8,Yp X G a8,F9,b9,Yp X G a9,F10,b10,Yp X G a10,F11,b11,Yp X G a11,F12,b12,Yp X G a12,F13,b13,Yp X G a13,F14,b14,Yp X G a14,F15,b15,Yp X G a15,F16,b16,Yp X G a16,F17,b17,Yp X G a17,F18,b18,Yp X G a18,F19,b19,Yp X G a19,F20,b20,Yp X G a20,F21,b21,Yp X G a21,F22,b22,Yp X G a22,F23,b23,Yp X G a23,F24,b24,Yp X G a24,F25,b25,Yp X G a25,F26,b26,Yp X G a26,F27,b27,Yp X G a27,F28,b28,Yp X G a28,F29,b29,Yp X G a29,F30,b30,Yp X G a30,F31,b31,Yp X G a31,F32,b32,Yp X G a32,F33,b33,Yp X G a33,F34,b34,Yp X G a34,F35,b35,Yp X G a35,F36,b36,Yp X G a36,F37,b37,Yp X G a37,F38,b38,Yp X G a38,F39,b39,Yp X G a39,Yp X G cst0,Yp X G cst1,Yp X G cst2,Yp X G cst3,Yp X G cst4,Yp X G cst5,Yp X G cst6,Yp X G cst7,Yp X G cst8,Yp X G cst9,Yp X G cst10,YM X G z0,YM X G z1,YM X G z2,YM X G z3,YM X G z4,YM X G z5,YM X G z6,YM X G z7,YM X G z8,YM X G z9,YM X G z10,YM X G z11,YM X G z12,YM X G z13,YM X G z14,YM X G z15,YM X G z16⟩;exact ⟨_,fun s v=>.of_eq rfl,fun base _ _=>jnI T⟩
theorem jta {l:PySem.W.OpenLaw} {q:Program} {loose:List Str} {XP:(Str->Option Value)->Heap->Prop} {YP:World->Heap->Prop} {d:DefRec} {K:Params->PySem.W.Frag} (hn:l.most=some 63) (hdf:d.params.defaults=[])
 (hY:∀(w:World) (h:Heap),YP w h->(K w.params).In h)
 (F:∀(w:World) (mg:Str->Option Value) (fa:Addr) (h:Heap),(K w.params).In h->h.Ns mainGlobals mg->mg d.name=some (.ref fa)->
  ∃fd:FuncData,(∀(s:Shared) (u:Value),BindsTo s fd ⟨[u],[]⟩ [("script",u)]) ∧ ∀base:Heap,(K w.params).In base → base.Ns mainGlobals mg → FnOk l.prog w (K w.params) mg base JT 39 fa fd ["script"] (jiG (K w.params))) :
 PySem.W.WalkO q loose XP YP l.row.toRowW d [] (fun f vs=>PySem.call f vs):=
 L2.jnC (n:=63) (k:=39) (x := "script") (CX:=fun _=>JT) (sp:=fun w=>jiG (K w.params)) hn (by decide) hdf ⟨rfl,by decide,by decide⟩ hY F (fun _ _ a ns hl _ hS=>⟨a,ns,rfl,hS,hl,fun _=>rfl⟩) fun _ _ _ _ _ z=>z
end Q
end
open PySem PySem.W PyProof.Rows
set_option maxRecDepth 100000 in
set_option maxHeartbeats 0 in
theorem PySem.Challenge.cw_evenquay_k91_whole_chains_lead_to_even_holds : PySem.Challenge.rw_evenquay_k91_whole_chains_lead_to_even.Holds := by
 w_on;o_law;k_head;(case hw=>w_witness2)
 k_fill
 refine Q.jta (l:=PySem.Challenge.rw_evenquay_k91_whole_chains_lead_to_even) rfl rfl (fun w h Y=>PySem.W.kIn_of Y) ?F
 case F=>
  intro w mg fa h KX G hmg
  refine' Q.jqG KX G hmg ?a0 ?l0 ?c0 ?k0 ?a1 ?l1 ?c1 ?k1 ?a2 ?l2 ?c2 ?k2 ?a3 ?l3 ?c3 ?k3 ?a4 ?l4 ?c4 ?k4 ?a5 ?l5 ?c5 ?k5 ?a6 ?l6 ?c6 ?k6 ?a7 ?l7 ?c7 ?k7 ?a8 ?l8 ?c8 ?k8 ?a9 ?l9 ?c9 ?k9 ?a10 ?l10 ?c10 ?k10 ?a11 ?l11 ?c11 ?k11 ?a12 ?l12 ?c12 ?k12 ?a13 ?l13 ?c13 ?k13 ?a14 ?l14 ?c14 ?k14 ?a15 ?l15 ?c15 ?k15 ?a16 ?l16 ?c16 ?k16 ?a17 ?l17 ?c17 ?k17 ?a18 ?l18 ?c18 ?k18 ?a19 ?l19 ?c19 ?k19 ?a20 ?l20 ?c20 ?k20 ?a21 ?l21 ?c21 ?k21 ?a22 ?l22 ?c22 ?k22 ?a23 ?l23 ?c23 ?k23 ?a24 ?l24 ?c24 ?k24 ?a25 ?l25 ?c25 ?k25 ?a26 ?l26 ?c26 ?k26 ?a27 ?l27 ?c27 ?k27 ?a28 ?l28 ?c28 ?k28 ?a29 ?l29 ?c29 ?k29 ?a30 ?l30 ?c30 ?k30 ?a31 ?l31 ?c31 ?k31 ?a32 ?l32 ?c32 ?k32 ?a33 ?l33 ?c33 ?k33 ?a34 ?l34 ?c34 ?k34 ?a35 ?l35 ?c35 ?k35 ?a36 ?l36 ?c36 ?k36 ?a37 ?l37 ?c37 ?k37 ?a38 ?l38 ?c38 ?k38 ?a39 ?l39 ?c39 ?k39 ?cst0 ?cst1 ?cst2 ?cst3 ?cst4 ?cst5 ?cst6 ?cst7 ?cst8 ?cst9 ?cst10 ?z0 ?z1 ?z2 ?z3 ?z4 ?z5 ?z6 ?z7 ?z8 ?z9 ?z10 ?z11 ?z12 ?z13 ?z14 ?z15 ?z16
  any_goals (show _=_;k_is)
