import PyProof.Rows.All
import Wide.All
import OpenK.AllK
import Wide.FinOn
import PyProof.EqAt
import PyProof.EqKinds
import PyProof.TupleCall
import KE.BitLaws
import Open.SpecLaws
import KE.OsHead
import KE.OsGo
import PySem.Challenge.RW_fractioncode_s01_answers
import VaunihSpec
import KE.IntBitsLaws
import PyVaunih
import Open.Tops
set_option Elab.async false
set_option linter.all false
set_option maxRecDepth 100000
set_option maxHeartbeats 0
universe u
theorem Y{α:Sort u}{a:α}:a=a:=rfl
def BF:=@PyProof.Rows.slot_tupleiter_next
def Br:=@PySem.pushCells_keeps
def C2:=@List.all_map
def C3:=@List.drop_nil
def C4:=@List.filterMap_cons
def C5:=@List.findSome?_cons
def C6:=@List.flatten_cons
def C7:=@List.getElem?_replicate
def C8:=@List.map_congr_left
def C9:=@List.mem_map_of_mem
def CA:=@PySem.F.entry_str_split
def CB:=@PySem.F.entry_tuple_mul
def CC:=@PySem.F.plainAttrs_str
def CD:=@PySem.F.slot_str_isdigit
def CF:=@PySem.F.type_str_isdigit
def CL:=@Int.add_mul
def CM:=@Int.fmod_eq_emod_of_nonneg
def CN:=@Int.le_total
def CO:=@Int.mul_le_mul
def CP:=@Int.mul_le_mul_of_nonneg_left
def CQ:=@Int.mul_pow
def CS:=@Int.mul_sub
def CT:=@Int.natCast_ediv
def CU:=@Int.natCast_pow
def CV:=@Int.toNat_of_nonneg
def CW:=@Int.zero_add
def C_:=@List.mem_of_mem_take
def Cd:=@PySem.wpAny_loadName_local
def Ce:=@PySem.wpAny_onRaise
def Cf:=@PySem.wpAny_typeOf
def Cg:=@PySem.wpAny_with_toks
def Cj:=@Array.getElem?_toList
def Ck:=@PySem.AutoSeq1.idx_int
def Cm:=@Bool.and_eq_true_iff
def Cn:=@Bool.and_false
def Co:=@Bool.false_and
def Cp:=@Bool.not_true
def Cy:=@PySem.F.args_str_split_2
def Cz:=@PySem.F.args_tuple_mul_2
def DH:=@PySem.F.args_tuple_add_2
def DI:=@PySem.F.entry_tuple_add
def DJ:=@PySem.F.slot_tuple_add
def DK:=@PySem.W.any_some
def DL:=@PySem.W.cellsFrom_some
def DM:=@PySem.W.looks_clsIn
def DN:=@PySem.W.plainGet_of
def DO:=@PySem.boot_len
def DV:=@PySem.Str.cps_append
def DW:=@PySem.StrLaws.glued_eq_join
def Dc:=@List.mem_range
def Dd:=@List.mem_reverse
def De:=@List.reverse_nil
def Df:=@List.reverse_reverse
def Dg:=@List.sum_append
def Dh:=@List.take_append_drop
def Di:=@Nat.add_comm
def Dj:=@Nat.add_mul
def Dk:=@Nat.gcd_comm
def Dl:=@Nat.gcd_pos_of_pos_right
def Dm:=@Nat.le_of_ble_eq_true
def Dn:=@Nat.lt_or_eq_of_le
def Dq:=@Nat.pow_le_pow_left
def Dr:=@Nat.two_mul
def Dv:=@PySem.Obj.cls_mapFields
def Dy:=@Option.map_eq_none_iff
def EH:=@PySem.codeAny_call_builtin
def EI:=@PySem.codeAny_forLoop_any
def Ec:=@PySem.arm_exec_Raise
def Ef:=@beq_self_eq_true
def GU:=@ne_true_of_eq_false
def GW:=@PySem.noFill_tuple_add
def IY:=@PySem.seq_tuple_add
def K0:=@Int.fmod_nonneg_of_pos
def K1:=@Int.lt_of_mul_lt_mul_right
def K2:=@Int.mul_ediv_mul_of_pos_left
def K3:=@Int.mul_lt_mul_of_pos_right
def K4:=@Int.mul_neg_of_neg_of_pos
def K5:=@Int.mul_nonneg_of_nonpos_of_nonpos
def K6:=@Int.natAbs_add_le
def K7:=@Int.ofNat_dvd_left
def K8:=@Int.sub_eq_add_neg
def KA:=@Array.getElem?_eq_none
def KC:=@Array.mem_toList_iff
def KJ:=@PySem.Calls.Name_function_global
def KN:=@Decidable.not_not
def KY:=@Int.dvd_mul_right
def KZ:=@Int.fmod_lt_of_pos
def K_:=@List.any_eq_false
def Kk:=@PySem.wpAny_Assign_Name
def Kl:=@PySem.wpAny_attempt
def Km:=@PySem.wpAny_madeBy_exc
def Kn:=@PySem.wpAny_pyIter_list
def Ko:=@PySem.wpAny_pyIter_revIter
def Kq:=@PySem.wpAny_specialOf
def Kz:=@Array.empty_append
def L4:=@UInt8.toNat_ofNat'
def LB:=@PyProof.noPylong_small
def LC:=@PySem.F.excAttr_ValueError
def LD:=@PySem.F.slot_list_pop
def LF:=@PySem.F.type_list_pop
def LG:=@PySem.W.KIN.signs_num
def LH:=@PySem.W.check_slot
def LI:=@PySem.W.codeRec_of
def LJ:=@PySem.W.findObj_own
def LK:=@PySem.W.kitx_dict
def LL:=@PySem.W.kitx_list
def LM:=@PySem.W.length_le_weightAllW
def LN:=@PySem.W.looks_typeIn
def LO:=@PySem.W.set_plain
def LP:=@PySem.evalArgs_none
def LQ:=@PySem.wpAt_of_wpAny
def La:=@List.dropWhile_suffix
def Lb:=@List.drop_eq_nil_iff
def Lc:=@List.find?_eq_none
def Ld:=@List.getElem?_append_left
def Le:=@List.isEmpty_reverse
def Lf:=@List.length_filter_le
def Lg:=@List.length_singleton
def Lh:=@List.map_replicate
def Li:=@List.mem_append_left
def Lj:=@List.mem_filterMap
def Lk:=@List.replicate_succ
def Ll:=@List.take_of_length_le
def Lm:=@List.toList_toArray
def Lo:=@Nat.div_lt_iff_lt_mul
def Lp:=@Nat.dvd_mul_right
def Lq:=@Nat.mul_div_cancel_left
def Lr:=@Nat.mul_le_mul_left
def Ls:=@Nat.mul_mul_mul_comm
def Lv:=@Option.isSome_some
def MR:=@PySem.codeAny_call_builtin_at
def MS:=@PySem.codeAny_call_builtin_code
def Uq:=@PySem.plainObj_wpAny_Assign_Attribute
def YV:=@PySem.wpAny_FormattedValue_plain
def YW:=@PySem.wpAny_check_type_call_sub
def YX:=@PySem.wpAny_newFunctionEnv_cells
def aI:=@Nat.le_refl
abbrev aP:=@Vaunih.Value
def aW:=@decide_eq_false
def aZ:=@PySem.wpAny_pure
def aa:=@if_neg
def af:=@if_pos
abbrev ag:=@PySem.W.Frag
def ak:=@PySem.wpAny_bind
def bA:=@PySem.Heap.get?_push_of_some
def bC:=@decide_eq_true
def bL:=@List.length_append
def bM:=@PySem.Heap.lt_size
def bO:=@Nat.zero_le
def bQ:=@of_decide_eq_true
def bS:=@List.getElem?_eq_getElem
def bU:=@Bool.and_eq_true
def bX:=@List.mem_cons_self
def b_:=@PySem.Paired.length
def bh:=@List.length_map
def bp:=@List.length_cons
def br:=@PySem.sizeLine_eq
def bu:=@List.mem_cons
def cC:=@List.append_nil
abbrev cM:=@Vaunih.Block
abbrev cQ:=@Vaunih.Toks
def cR:=@decide_eq_true_eq
def cW:=@PySem.Heap.get?_push_size
def cX:=@List.mem_singleton
def cY:=@Nat.lt_of_lt_of_le
def cg:=@List.mem_cons_of_mem
def cj:=@List.size_toArray
def cn:=@Nat.le_trans
def cq:=@of_decide_eq_false
def d7:=@Bool.false_ne_true
def d8:=@List.append_assoc
def d9:=@List.map_cons
abbrev dH:=@Vaunih.Code
def dZ:=@congrArg
def dj:=@Nat.ne_of_lt
def dy:=@List.length_reverse
def eD:=@Option.some.inj
def eN:=@List.getElem?_eq_some_iff
def eO:=@Nat.ne_of_gt
def eQ:=@Ne.symm
def eU:=@Bool.not_eq_true
def eX:=@List.length_take
def eY:=@PySem.F.plainAttrs_list
def fH:=@Nat.pow_le_pow_right
def fP:=@PySem.wpAny_field
def fQ:=@Int.mul_assoc
def fR:=@Int.mul_left_comm
def fS:=@List.flatMap_cons
def fT:=@List.map_append
def f_:=@PySem.wpAny_mono
def fk:=@Int.mul_comm
def fo:=@List.map_map
abbrev ft:=@Vaunih.Q
def gE:=@List.getElem?_map
def gF:=@PySem.W.mg_of
def gT:=@PySem.wpAny_passesOwn
def gV:=@List.mem_append
def gW:=@Nat.mul_comm
def gk:=@PySem.Heap.size_push
abbrev gn:=@Vaunih.Call
def hH:=@PySem.mem_of_lookup
def i0:=@Int.toNat_natCast
def i4:=@List.getD_eq_getElem?_getD
def i6:=@Nat.pow_add
def iB:=@List.mem_append_right
def iC:=@List.mem_map
def iD:=@List.take_length
def iE:=@List.take_succ
def iF:=@Nat.lt_irrefl
def iG:=@Nat.zero_add
def iJ:=@PySem.F.slot_list_append
def iK:=@PySem.F.type_list_append
def iN:=@decide_eq_decide
def j3:=@Bool.eq_iff_iff
def j4:=@Int.natAbs_mul
def j6:=@Int.natAbs_natCast
def j7:=@List.all_eq_true
def j9:=@Option.map_eq_some_iff
def jB:=@Int.natCast_mul
def jC:=@List.nil_append
def jY:=@PySem.wpAny_Call_Name_kw
def jd:=@if_true
def ju:=@PySem.wpAny_holding
def jv:=@Bool.true_and
def jz:=@PySem.Heap.get?_update_other
def kT:=@List.all_cons
def kU:=@List.length_drop
def kW:=@List.reverse_cons
def kb:=@PySem.W.kia_one
def kg:=@beq_iff_eq
def kl:=@PySem.call_meets
def lF:=@PySem.wpAny_truthy_bool
def lG:=@Bool.or_eq_true
def lL:=@Int.fdiv_eq_ediv_of_nonneg
def lN:=@List.length_replicate
def lO:=@List.mem_of_getElem?
def lQ:=@Nat.lt_of_le_of_lt
def lR:=@Nat.mul_pos
def lS:=@Nat.pow_pos
def lT:=@Nat.sub_self
def lg:=@beq_eq_false_iff_ne
def lp:=@if_false
def nG:=@PySem.Heap.get?_update_self
def nH:=@List.lookup_cons
def nI:=@Nat.le_of_lt
def nJ:=@Nat.mul_le_mul
def nM:=@PySem.Obj.data_mapFields
def nP:=@PyProof.Rows.callWith_type1
def nQ:=@PySem.Str.length_append
def nq:=@PySem.typeIs_str
def pE:=@PySem.wpAny_call
def pF:=@PySem.wpAny_execs_nil
def pG:=@PySem.wpAny_loadPart_at
def pH:=@PySem.wpAny_newObj_type
def pI:=@PySem.wpAny_seqItems
def pJ:=@PySem.wpAny_standAt
def pL:=@Bool.false_eq_true
def pM:=@Bool.or_eq_false_iff
def pT:=@Int.mul_nonneg
def pU:=@Int.natAbs_neg
def pV:=@List.flatMap_append
def pW:=@List.getElem?_eq_none
def pX:=@List.length_set
def pY:=@List.mem_filter
def pZ:=@List.mem_singleton_self
def p_:=@List.nodup_cons
def qa:=@Nat.div_le_self
def qb:=@Nat.le_succ
def qc:=@Nat.min_eq_left
def qd:=@Nat.pow_mul
def qf:=@Nat.sub_zero
def qj:=@PySem.F.excBase_Exception
def qk:=@PySem.W.Looks.here
def ql:=@PySem.W.callWith_K
def qm:=@PySem.W.mg_none_of
def qt:=@PySem.codeAny_mono
def r9:=@List.contains_cons
def rE:=@Array.length_toList
def rG:=@Bool.or_true
def rH:=@PySem.Calls.callWith_builtin
def rW:=@Int.le_of_lt
def rX:=@Int.mul_one
def rY:=@Int.neg_mul
def r_:=@List.drop_zero
def sA:=@PySem.F.type_list_extend
def sC:=@PySem.W.Looks.ld
def se:=@List.flatten_append
def sg:=@Nat.le_of_eq
def sh:=@Nat.lt_succ_of_lt
def si:=@Nat.lt_succ_self
def sj:=@Nat.mul_assoc
def sk:=@Nat.not_lt
def sm:=@Nat.pos_of_ne_zero
def sr:=@Nat.pow_succ
def sx:=@PyProof.Rows.slot_tuple_getitem
def sy:=@PySem.F.slot_list_extend
def u9:=@PySem.wpAny_Name
def u_:=@PySem.wpAny_callSpecial?_slot
def vA:=@Int.sign_eq_neg_one_of_neg
def vB:=@Int.sign_eq_one_of_pos
def vD:=@List.dropWhile_cons
def vE:=@List.forIn_nil
def vF:=@List.length_eq_zero_iff
def vG:=@List.map_eq_nil_iff
def vH:=@List.not_mem_nil
def vI:=@List.takeWhile_cons
def vJ:=@List.zipIdx_cons
def vL:=@Nat.gcd_dvd_right
def vM:=@Nat.le_div_iff_mul_le
def vN:=@Nat.le_of_not_lt
def vO:=@Nat.one_mul
def vP:=@Nat.pow_two
def vS:=@Option.isSome_iff_exists
def vW:=@PySem.W.callWith_K0
def vX:=@PySem.W.looks_findIn
def vY:=@PySem.W.looks_mroIn
def vZ:=@PySem.W.methodCall_KW
def vb:=@PySem.wpAny_call_entry
def vd:=@PySem.wpAny_setField
def ve:=@Array.toList_append
def vi:=@PySem.Calls.spliced_cons
def vm:=@PySem.F.slot_tuple_mul
def vt:=@Iff.rfl
def vx:=@Int.lt_trichotomy
def vy:=@Int.pow_succ
def vz:=@Int.pow_zero
def xw:=@or_false
def y4:=@List.any_cons
def y6:=@List.drop_eq_getElem_cons
def y8:=@List.drop_length
def y9:=@List.filter_append
def yA:=@Bool.false_or
def yC:=@PySem.Calls.evalArgs_plain
def yD:=@PySem.Calls.spliced_nil
def yH:=@PySem.Code.quiet_builtin
def yI:=@Eq.symm
def yK:=@PySem.F.slot_str_split
def yL:=@PySem.F.slot_zip_next
def yW:=@Int.mul_neg
def yX:=@Int.natCast_dvd_natCast
def yY:=@Int.not_le
def yZ:=@Int.one_mul
def y_:=@List.filter_cons
def yg:=@PySem.wpAny_execs_cons
def yh:=@PySem.wpAny_isSubtype_exc
def yi:=@PySem.wpAny_ite_false
def yj:=@PySem.wpAny_rule
def yk:=@PySem.wpAny_setField_rec
def yo:=@Array.getElem?_eq_getElem
def yp:=@Array.getElem?_eq_some_iff
def yq:=@PySem.AutoSeq1.sub_tuple_tuple
def yz:=@Bool.eq_false_iff
def zA:=@PySem.Obj.isFreed_of_fields
def zC:=@Option.bind_eq_some_iff
def zG:=@PySem.intBits_le_iff
def zH:=@Rat.mkRat_eq_iff
def za:=@List.find?_cons
def zb:=@List.flatMap_assoc
def zc:=@List.foldl_cons
def zd:=@List.forIn_cons
def ze:=@List.getElem?_append_right
def zf:=@List.getElem?_set_ne
def zg:=@List.getElem?_set_self
def zh:=@List.length_nil
def zi:=@List.mem_flatMap
def zj:=@List.of_mem_zip
def zl:=@Nat.add_sub_cancel
def zm:=@Nat.div_div_eq_div_mul
def zo:=@Nat.gcd_dvd_left
def zp:=@Nat.le_add_right
def zq:=@Nat.le_of_succ_le
def zr:=@Nat.le_zero
def zt:=@Nat.mul_le_mul_right
def zu:=@Nat.mul_left_comm
def zw:=@Nat.pow_lt_pow_right
def zx:=@Nat.pow_zero
set_option hygiene false
section
open Lean
def mq0(x:MacroM Term)(a b c d e f g h i j k l m n:Term):Array (MacroM Term):=#[`(false),`(Txt P w K mg),`($a=true),`(.ju .gz),`(pv 1),`(λH Q E nd W M h=> ?_),`(List Addr),`((_,_,Y)),`(.jl 0),`((_,Y,_,Y)),`(.jq s),`(some o),`((($a :Nat):Int)),`(aa (by decide)),`((.h,Y)),`(pv 2),`(List .aw),`(xs.length),`(List V),x,`(s.heap.objs.size),x,`(.ref C),`(ai P w),`(aI _),`(i+1),`(PE X $a $b),`(.ref a),`(t.length),`(.hF Addr Obj),`(.cq .aw),`(pv 0),`(s.heap),`(List Str),`(some (.ref $a)),`(ah $a $b $c mg base $d $e $f $g $h $i),`(($a).length<= $b),`(U.heap.objs.size),`(af rfl),`(List L2.V),`(.so $a $b (some $c)),`(below),`(List aP),`(.f2 H),`(X.env),`(.jl 1),`((.f0,aj $a)),`(some u),`(sizeLine),`(aV _ _ $a),`(eval $a .S),`((n:Int))]
def mq10(x:MacroM Term)(a b c d e f g h i j k l m n:Term):Array (MacroM Term):=#[`(outer),`(($a)[i]?),`(λz=> ?_),`(pv 3),`(.ref x),`(.int ($a :Nat)),`(X.prog),`(some (.lst $a)),`(us.length),`(decide ($a= $b)),`(some x),`(bO _),`((_,Y,?_)),`((?_,?_)),`(some c),`(List VV),`(s.toks),`(ws.length),`(.ref f),`(P.given.tree),`(b.code.length),`(bx $a $b (by intro z;cases z)),`(List Int),`(q.den),`(.inl Y),`($a->Prop),`(if .c $a then $b else $c),`(some ($a,$b)),x,x,x,`(List α),`(Value),`((_,.dz $a,?_)),`((d:Int)),`(c.length),`(($a).length= $b),`(ae H $a),`(Z (aG $a $b $c) $d),x,`(some (.tup $a)),`(pv 4),`(($a).length+1),`(cg _ $a),`(Option Int),`((.aR,?_)),`(.ref p),`(.int i),`(h'.get? b),`(aN h $a),`(g.toArray),`(q.num),`(some v),`((Y,_,Y)),`(bX ..),`(.K $a .W),`(Option Addr),`(ps.length),`(List cx),`(.int 0),`($a≠[]),`(($a).same kp)]
def mq11(x:MacroM Term)(a b c d e f g h i j k l m n:Term):Array (MacroM Term):=#[`((($a).trans $b).trans $c),`(starEach $a .S),`((_,Y,.o)),`(M.mono (by decide)),`(H' x),`(cK $a (bK $b) $c),`(.ref (bK $a)),`(.u+1),`(r.height),`((.hZ,cl,s,a_,T.bI.a,_,.sg $a,($b).bI.k,Y,Y,fin Y rfl $c)),`(aD L H),`(Vaunih.step st $a),`(.ref t),`(if $a then some $b else $c),x,`(Array .aw),`(dw K mg),`(some .local),`(c.toNat),`(stN c $a $b),`($a-> .ap $b),x,`(items.size),`(W.passes),`(True.intro),`(by rw[aC $a];exact $b),`((k:Int)),`(.int n),`(txt "block"),`(.b1 [$a]),`(x==("__debug__":Str)),`(X.stack),`(rC n),`(wpAny (model $a $b) $c $d $e $f $g),x,`(ao (pv $a)),`(($a).2.2),`(O (bb $a)),`(Z $a (.dz $b)),`(h.objs.size),`(x.obj),`((G,_,Y)),`(stx t),`(X.env.locals),`(List ax),`(.bd $a $b none),`(List Expr),`(some r),`(Option Reach),`(.ea H'),`((.cR,g1)),`((Y,.jz $a)),`(.ref c),`(Gl X x),`(dW K mg),`($a-> .f1),`(False),`(Q (.ref $a) $b),`(.bX $a G $b),`(some (.ins $a $b $c)),`(.gy c),`(upd $a $b (.lst $c))]
def mq12(x:MacroM Term)(a b c d e f g h i j k l m n:Term):Array (MacroM Term):=#[`(z.length),`($a->Bool),`(H' l),`([.ref $a]),`(splitBy c $a),`(z.symm),`(.hI V),`(I.ok.hd B),`((aY,λl s=> ?_)),`(cZ I q (by simp)),`(X.base),`(ah P w K mg base .x 1 $a $b $c $d),`((h1,h2)),`(Instr),`(aJ $a $b $c $d (.bz $e)),`(ls.length),`(.ok ($a,$b)),`(.jx b),`(takes c x),`(.d8 $a H'),`(h.get? b),`(I.tuple $a),`(PA X $a $b),`((_,Y,p)),`(bA _ $a),`(r.locals),`($a-> .ap Shared),`((($a).length:Int)),`((.f0,?_)),`(places),`(.a7 xs),`(.aG r),`(l.length),`(.ni $a H),`(.so $a $b none),`(.bx prog w A $a Q E s),`(.fB v),`(∀H' x G,.R-> $a-> .mL),`(($a).map (·.1)),`(X.mg x),`(aZ ?_),`(ee w),`(.pair a b),`(some .cell),`((_,Y,ca)),`(.hI Addr),`((_,.fO)),`(.ej σ $a $b),`($a ::rest),`((_,Y,j)),`(stx x),`(aQ $a (O $b) a0),`(r.length),`((_,Y,a,_,G,.h)),`((_,.h)),`((_,_,_)),`((.eZ,y,_,Y)),`($a<10^100),`([.B]),`([.str $a]),`(List Nat),`(a.length)]
def mq13(x:MacroM Term)(a b c d e f g h i j k l m n:Term):Array (MacroM Term):=#[`(K.In h),`(.str "number"),`(some true),`(some y),`(List Itm),`(shownValue x),`(List Env),`((.lj,c,cl,s,a_,T.cv.a,_,.sg $a,($b).cv.k,Y,Y,.cK)),`(SameBut $a H $b),`(($a).take i),`($a :: .b1 $b),`(if $a<0 then $b else $c),`(w.params),`(aQ $a (.dz $b) a0),`(dB x),`(($a).same s),`(H' b),`(ae F $a),`(fD t),`(aa (λz=> $a)),`(List .cd),`(Pv (i+1)),`(wipe σ vs),`((_,Y,T.bJ.a,_,Y,.inr T.bJ.k.sq,Y,.aR,aj $a)),x,`((_,Y,fw (one (by decide+kernel) Y))),`(.error q),`(Q (.int $a) H),`(trivial),`(inClass (top $a) $b),`(λz=>(by cases z)),`(.wb a),`(code.length),`(rK n i),`(rM n),`(O (aA $a)),`((($a).2 $b $c).trans $d),`((_,Y,.pE $a)),`(.Y e),`((eN.mp $a).1),`(.cons $a .nil),`((.j,a,_,G,.h,g1)),`(T.gi.ins.cl),`(Option L2.V),`(.eW l),`(nat i),x,`(Q $a H'),`(at_+1),`(s'.heap),`(.c X.calm),`(aa h),`(N.heap),`(.go $a $b s),`(.bp (aN $a $b) $c),x,`(s' _ _ $a),`((by show $a;decide,?_)),`((_,Y,tk)),`({s with heap:=h'}),`(Vaunih.takes c x),`((_,.aC 2 nd $a $b,?_))]
def mq14(x:MacroM Term)(a b c d e f g h i j k l m n:Term):Array (MacroM Term):=#[`(some k),`(aL $a (aL $b $c $d) $e),`(List Stmt),`(sgn .bi),`(.ref .u),`(.s->Hp-> .ap VK),`(rK n (i+1)),`(k.natAbs),`(.hF Addr Addr),`(fI T L $a p u tl c b C $b $c),`(Q .au $a),`((H,I.tok $a)),`(λ_=>rfl),`(Nat-> $a),`(cW _ Y),`(longest c),`(m.calls),`(.c ($a== $b)),`((by rw[c6];decide,?_)),`(Inv X pins $a $b $c),`((.j,p)),`(h.get? $a=some $b),`(calls),`(.aC 3 nd $a $b),`(Z $a (.aC $b $c $d $e)),`(.jl 3),`(aM K H a xs),`((i:Int)),`(upd H $a o),`(ah P w K mg base .x 3 $a $b $c $d),`(.n8 t),`(.bl b),`((m:Int)),`((_,Y,Y)),`(b.code),`(List WData),`(.el a $a),`(.A e te),`(X.env.scope.names.lookup $a),`(h.lst),`(names),`(cD X (compareOp $a) $b),`(.ne xs),`(.jo a),`(X.outer),`(ps.flatten.length),`((_,.pC $a,bG $b)),`(upd $a $b (.ins $c $d $e)),`(decide ($a<= $b)),`(T.tokens.cl),`(.co e),`((.o,.ac)),`(.X h4),`(eU _),`(xs.drop $a),`(.ah+1),`(aJ $a $b M W (bj $c $d)),`((_,A,.h)),`(.bV $a H'),`((_,.aC 1 nd $a $b,?_)),`(g.toArray.size),`((_,Y,r,_))]
def mq15(x:MacroM Term)(a b c d e f g h i j k l m n:Term):Array (MacroM Term):=#[`((_,Y,.aR)),`(.ap Hp),`(ae $a H'),`(T.fr.bf.cl),`([.ref $a,$b]),`(decide ($a< $b)),`((Y,Y,Y)),`(.gC $a $b (.hT $c)),`(eT .ef $a),`(.s9 $a $b ($c :: $d) $e),`(ax×Nat),`((_,Y,x)),`(.jw wt),`($a->Option $b),`(λb S=> ?_),`(cD X (binaryOp $a) $b),`((us,[])),`(ay K H a xs),`(.fN .e),`(.c b),`(PySem.W.fnOf $a $b $c $d $e $f kV $g $h $i $j $k),`(.da (.a,.dC) es),`(.b1 (e::es)),x,`(wpAny _ _ $a _ _ $b),`(.ref z),`(Value.none),`(fY (.gq $a) $b),`(((m,us)::r,true)),`(List Reach),`(d4 st),`(d.names.lookup $a),`((by decide,by decide)),`(s3.heap.objs.size),`(.fields vs),`(.pu x),`((_,Y,c)),`(RelV $a u),`(cz $a $b H H'),`(.pb ($a= .l) $b),`(d.names),`(($a).map λx=> $b),`(sgn ($a).toNat),`(.ref i),`(some (.type $a)),`(dQ T $a c $b),`((.o,_,Y)),`(λi j=>.int $a),`((af $a).mpr $b),`(bz cF $a aq),`((_,.cS)),`(T.gi.ins.n "word"),`((.po T,.ei)),`(.a9 (L2.V.str $a) (L2.V.str $b)),`(ks.length),`((j:Int)),`((.eZ,y,.h)),`(.int b),`(m.over),`(bw C F n $a $b),`(.a7 us),`(fq T L $a r R c g $b bl)]
def mq16(x:MacroM Term)(a b c d e f g h i j k l m n:Term):Array (MacroM Term):=#[`(decide ($a∈$b)),`(q.num.natAbs),`(aW (by omega)),`(done.length),`(Paired.gr $a λ_ _ z=> $b),`(.pn H $a $b),`([.fH,.bc]),`(.cm (e::es) t),`(aT .bm 0 lo),`(.gu i),`((by omega,by omega)),`(pastBlanks t),`(t σ H $a),`(eval $a env),`(.cq Unit),`(rR n (rM n)),`((0:Int)< $a),`((_,Y,hd,_,v,.h,.bE,cl)),`(I.list $a),`(z.names.lookup $a),`((_,Y,t,_,.o,aM.of V,bG (j:= $a) Y)),`(.ref b),`($a+($b).length),`(.bZ $a D []),`(.lo $a $b X.xe $c),x,`(bV [] $a),`(.bT St),`(.n9 H $a),`(λh=>(by cases h)),`(Pv $a σ H),`(.go $a (EP X pins σ Q) $b),`(Q (.str $a) $b),`(.seq ($a).toArray),`(⟨#[$a]⟩),`(Option .aw),`(fH (by decide) $a),`({cls:=.type $a,data:= $b}),`(.zB (aS (pv 0) $a) $b $c),`((T.fr.bf.n "places",gD)),`(.m ($a- $b)),`(.jl 2),`(($a).trans B),`(.I l),`(ah P w K mg base .x 4 $a $b $c $d),`(aa (by omega)),`(.a7 acc),`(aJ $a $b M W (ao $c)),`(.C<=10000),`((by rw[$a:term];decide,?_)),`(.c (($a).all $b)),`(λ_ _=>.bU),`(.nl $a .bi),`(txt k),`(.str a),`(dq .e $a $b $c M.m W),`(x.length),`(.int at_),`(λc=> ?_),`(ae.refl H),`(.aE xs),`(o.data)]
def mq17(x:MacroM Term)(a b c d e f g h i j k l m n:Term):Array (MacroM Term):=#[`(Bool.noConfusion (show .sB from p)),`(.ne vs),`(.type "tuple"),`(Vals xs $a),`(λvs H Q E=>∃(i t:Addr) (k n val:V) (us: .s),$a),`(Given T H i t k n val us),`(g_ .dc),`(cb k X.A),`(.cb T.f T.fd $a $b),`(.m (aT $a $b $c)),`(.pi H),`(.dA W $a $b $c),`(.sk I),`(pos.line),`(c≠32),`(h.pos),`(2* .ef+2),`(.eT+1),`(r.flatMap λx=> $a),`(X.N[i]?),`(gT hp (aE $a $b)),`(I.ok.kind),`({s with toks:=.ag+1}),`(.l8 aP),`(mkRat n d),`(Is q m e),`(x.sF _ _ $a),`(T.calls.cl),`(.eS j),`(wpAny M A $a Q E $b),`(RelV x v),`(some j),`(ah .a6 X.w X.K X.mg .ca CX k f fd ps sp),`(X.ey.heap.objs.size),`(x.map (λb=>.E4 b)),`(kL .dc),`(.E5+1),`(cN $a (cN $b $c)),`(.w6 .c0),`(bw T.vc $a n $b $c),`(cP T $a tk t ts),`(List ($a×$b)),`(m.toNat),`($a=Value.ref $b),`(.hF Str $a),`(λo d=>t _ _ d $a),`(.sF $a (some $b)),`(mainGlobals),`(model prog w),`(Value.ref $a :: $b),`(.Call (.Name $a $b) $c $d $e),`(($a).getD $b .a),`(.jA tp rf),`(λp hp=> ?_),`(.Ed (.seq $a)),`(O (aS (pv 0) $a)),`(.i1 $a $b (.dz $c)),`(bF (ao $a)),`(absurd $a (by simp)),`(.int $a t),`(.bW C $a),`((_,Y,i,.eV,hi))]
def mq18(x:MacroM Term)(a b c d e f g h i j k l m n:Term):Array (MacroM Term):=#[`(I.free),`(Z $a (Z $b $c)),`((a,G,.l2)),`(O (.pA $a $b $c)),`(.ref r),`(.sc $a i),`(λi σ H'=> $a/\ $b),`(T.cA .i),`(by show $a= $b;rw[$c:term]),`((.b2,_,Y)),`(.cj r),`(bF dO),`(rest.length),`((.ln $a,_,Y)),`((.mP,N)),x,`(some (.int $a)),`(.ref pl),`(.pe H $a),`(∀H' l,.R-> $a),`((.an:Int)),`(.zg $a d),`((by decide+kernel: .jB $a $b)),x,`(($a :: $b).length),`(.jv $a L2.V.int),`(instr e $a $b r),`(take e $a $b),x,`((by omega,Y)),`(acc.length),`(($a).stop i H),`(($a).cps.toList= $b),`(($a).map λy=> $b),`((.j,i,.eV)),`(Vaunia.digitsVal x),`((.h,h2)),`(m≠0),`(($a).get? b),`(.str x),`(.l3 H h),`(jU .dc os),`(.w9 es),`(.bV x $a),`(T.F.az $a $b),`(.ea (.eL H p C G $a)),`(.hY []),`([.aK]),`(aT .bm .bm hi),`(.a1 xs),`(IsPair $a TO $b $c),`(y▸j),`(.ref e),`(EP X pins σ Q $a $b),`(stx (txt k)),`(Is q n d),`(.gq r),`(.c (tellable $a)),`(.t .jp),`(FC.arr i next bD j),`(Passes CX X E),`(envOfC $a $b .u $c $d)]
def mq19(x:MacroM Term)(a b c d e f g h i j k l m n:Term):Array (MacroM Term):=#[`(K.In .G),`(.Constant (.str " ") $a $b),`(I.cell $a $b $c),`(t2≠0),`(.zw $a $b (.zw $c $d $e)),`(dA T F $a hd st),`((.int $a,.eb _)),`(.DZ σ H (λx H1=> $a)),`(.vT b),`(k _ _ .ao e),`(gF $a $b (v:=.ref $c) (by kernel_rfl)),`(dU T.num.c H $a $b $c $d),`(iz K mg),`(.nk .e),`({s with heap:=h',toks:= $a}),`(.type "BaseException"),`(($a).heap.push (.gB $b $c)),`((y,c8,.o)),`(fO bN $a $b),`(some (.I $a)),`(.aq b $a $b),`(J (pv $a)),`(aC (aN $a $b)),`((.j,_,Y)),`(.A $a ta),`(txt ", "),`(.cL H $a),`(.aA $a .aV),`(gR $a $b λx=> $c),`(.eL (upd H $a (.own $b)) $c $d $e []),`(Str-> $a),`(.a7 (($a).map $b)),`(.num q $a),`(.sF $a .l),`(advance c $a),`((_,ay.of $a)),`(cw bl $a lf dn oc $b rs mk),`(bootBuiltins $a= $b),`(.aZ I),`((T.fr.bf.n "at",iu)),`(bS (by omega)),`(($a).map .py),`(gH $a $b $c $d $e $f bl dn mk),`(.fN .aF),`(if $a then _ else $b),`(.int d),`(.mM l),`((i:Nat)),`(aj ?_),`(.hD $a $b v),`((.cn,_,.bF)),`(.aB X),`([$a,.int $b]),`(J .i),`(.aE us),`((VX $a $b $c $d).1 $e),`(.aA $a ($b).length),`(.str .bY),`(λX w2 k=> ?_),`(.hE H),`(bC (by omega)),`(some n)]
def mq20(x:MacroM Term)(a b c d e f g h i j k l m n:Term):Array (MacroM Term):=#[`(($a).flatMap fF),`(h $a (.aH $b)),`(one (by decide)),`((r,dS,_,Y)),`(.aq c $a $b),`(($a).same U),`(($a).map (λx=> $b)),`(jF K mg),`(some (.aD $a $b)),`((_,Y,f,_)),`(.A (.kY $a $b apos $c [] pos) $d),`(.A (.hO $a $b $c [] pos) $d),`(.da $a []),`(Catch K $a $b),`(($a).map λp=> $b),`(aE (N pos pins $a σ H _ $b $c) $d),`(k $a (by simp) $b $c),`(pure .a),`(some b),`(D.length),`(List Bool),`(aE (N pins s σ H $a $b $c) $d),`(.A b tb),`(if $a=32 then $b else $c),`(texts r),`(shortNumbers x),`(.mK j),`(.hF Nat Reach),`(jM $a tk),`(∀b∈fp,H' b=none),`(Vals dvs ds),`(.sw ds),`((.i0,I.fX)),`(bP p v n d),`(q.num.toNat),`(Is p n d),`(shownValues ws.reverse),`(ah.ex λL=> $a),`(MC T $a $b hd ca nl xs $c st),`(jw T $a ca nl xs $b),`(((0:Nat):Int)),`(.DY I .ag $a $b f1 f3 $c $d),`($a= .free),`(.sv s'),`(some .free),`(.hI .sC),`(.fB x),`(.pw dx fs),`(V->Hp-> .ap VK),`(some (.own $a)),`((.cn,_,dp,_,Y)),`(cI T F H n j ol es s k),`((.mY,.l5)),`((.j,fin Y)),`((h,.kX)),`(r.data),`(d6 c a at_ r x),`((.nf,.aR,aj $a)),`(.bA (.bA $a)),`((g,d,t,os)),`(.Call (.Attribute $a $b $c) $d $e $f),`(.aq $a _ $b)]
def mq21(x:MacroM Term)(a b c d e f g h i j k l m n:Term):Array (MacroM Term):=#[`(leaves x),`(Kinds c m .P b i d ls ws $a),`((_,_,_,_)),`(cU P w $a $b),`(aa (by rw[$a:term];decide)),`(eA (by decide)),`(bY C F n $a $b),`(aL $a .T $b),`(Except Nat $a),`(X.env.scope),`(λ_ h=>(by cases h)),`(.bV $a (.bZ $b $c $d)),`(I.aw $a _ $b),`(.dd (aU bN $a $b) $c),`(.bW $a (dF $b $c $d)),`(.dV (1<1000)),`(($a).imp λvs H Q E h=> ?_),`(bj (pv $a) $b),`(b.kept),`((_,Y,i,.eV)),`(ofList es),`(decide ($a=32)),`(aL $a .i $b),`((_,Y,.inl $a)),`(.bx .a6 X.w X.A $a $b $c $d),`((.aZ $a,.aZ $b)),`((($a).fr.ff.n "coming",kR)),`(.m ($a+1)),`((.sg $a,($b).fB.k,Y,Y,.cK)),`((_,Y,t,.eV,hi1,cl,nw,a_,($a).fB.a)),`(dP $a (bS $b)),`(.nr (aM.of $a)),`(aJ $a $b M.m W (bj $c $d)),`(.ref ro),`(x.code),`(.func $a kept),`(List β),`(m.frames),`(64*nm),`((.bj $a $b).over),`(.c (.nm $a $b $c)),`((.bC $a $b,?_)),`(.hI L2.V),`(Nat.gcd m $a),`(n≠0),`(by rw[$a:term];exact bX ..),`(.bT Nat),`(nat b.self),`(nat .li),`((32:: $a)++ $b),`(ts.length),`(T.gi.ins),`(h.Ns .hL mg),`(∀a∈A,iY $a $b $c),`(.Ed (.gx vs)),`(.Ee (.gx vs)),`(($a).map f),`(Sem Bool),`(.str "value"),`(FuncData),`(λq o e=> ?_),`(.jt $a $b $c T.c $d)]
def mq22(x:MacroM Term)(a b c d e f g h i j k l m n:Term):Array (MacroM Term):=#[`(du v0 v1 $a $b v4 $c),`((.ek,T.c,.bF,aB,T.cl,T.n $a,.lf)),`(V.typeIs),`(hd $a $b (by decide)),`(.gB "tuple_iterator" (.fields #[$a,.int $b $c])),`(.bool .a),`(.wa $a $b $c $d $e (ak $f)),`(Heap.SameBut $a .G $b),`(($a).extBut $b $c $d (($e).extBut $f $g $h $i)),`(.ref L),`((_,.ee,Y,Y)),`(.cq Result),`(List.replicate m $a),`(attributeBase $a $b .S (.Y $c)),`(.c (PySem.W.keepIn $a .ai)),`(hR $a .P),`(List Ent),`(Option ($a×$b)),`(shownValue $a++ $b),`(codeFault c),`(faultAt c $a $b $c $d $e),`(List .bM),`(aE (g pins $a σ $b $c $d $e) $f),`(start $a vs),`(λ_ _ q=>q),`(I.aw b $a $b),`((dX $a).toNat),`(($a).held.n "run"),`((.C:Int)),`(gm bl ck rn),`(.na .c0 .c0),`(.jq .dX),`(.sq $a σ $b (.w1 $c $d σ2 H2)),`(cenv.cells.lookup y),x,`(.pD (N pins $a σ $b $c $d $e) $f),`(S pins $a σ H1 $b $c $d),`(Sem .aw),`(.int $a u),`(vs[1]?),`(.n3 $a ?_),`(PySem.W.Looks M $a $b $c),`(X.gS $a xe),`((_,Y,b,_,d,.h,S,T.num.cl)),`((j_,_,Y,u,.eK $a $b)),`((.n4,hp,cl)),`(.ng a $a),`(.eW x),`(.c ($a).isList),`(.Name x $a),`(.pp $a ls $b d),`((.h,h1)),`(dj (cY (bM $a) $b)),`(I.ok.above),`(.dict #[]),`((.w7,.vV)),`((.o,aM.of $a)),`(aU bN $a bq),`(($a : .N)),`(eR (v:= $a) $b .a2 $c),`((_,Y,h1)),`(IsTup .G $a $b)]
def mq23(x:MacroM Term)(a b c d e f g h i j k l m n:Term):Array (MacroM Term):=#[`(.dd $a (.zA $b $c)),`(gz (ig $a)),`(fun σ H Q=>t σ $a $b),`(ak (($a).here $b)),`((.cn,_,dp,.h)),`((R $a).mpr $b),`(($a+ $b).toNat),`((.aR,aR $a)),`(.str (stx $a)),`((ae.refl $a).upd $b),`(HT.aT $a $b hi),`(ak (fP $a $b (x:= $c) $d $e)),`((t,($a).fr.ff.n $b)),`((.ek,T.c,.bF,aB,T.cl,T.n $a,.dV $b)),`(Vals $a us),`((.hZ,cl,s,a_)),`(.zc ($a).1 $b),`(fA eY $a $b $c $d (ao $e)),`(Q (.bl $a) $b),`(dG $a pins $b $c),`(bz c7 .i $a),`(($a).map λc=> $b),`(dm (.ins $a $b $c)),`(q.of es $a $b $c $d $e),x,`(T.run.cl),`(some (.ps $a)),`((_,Y,.inr $a)),`(.ref o),`(aJ $a $b $c $d (cG .F $e $f)),`(.px (.wc $a $b ($c).kept)),`(ws.reverse),`((dr,.h)),`(List.length c),`(.l7 c9 aq),`(dv $a .ba .az $b $c),`((aB,Y,?_)),`(.fJ .ba bl),`(jn (eJ $a)),`(ie $a (.dE $b)),`(if $a then $b else[]),`(.cM fr),`(.bk α β),`(λt V=> ?_),`(.zp br),`((wt:Int)),`(.sl H'),`(.jy (.bj $a $b)),`(.l6 $a us),`((splitBy $a $b).map $c),`(($a).take ($b+1)),`(some (.n8 $a)),`((.dW,.ss,.w4 $a $b)),`(λ_ _=>True),`(some G),`(some (xo $a .w $b $c)),`(jk $a (by rfl) $b $c (ao $d)),`(wt<=200),`(∀H' x,.R-> $a),`(bY T.vc $a $b $c us),`(List Block),`(ns.map $a)]
def mq24(x:MacroM Term)(a b c d e f g h i j k l m n:Term):Array (MacroM Term):=#[`((by simp,.ab)),`(ai .a6 X.w),`((_,Y,T.bJ.a,_,Y,.inr T.bJ.k.sq,Y,.n7 $a)),`(j (two $a (by decide+kernel) $b)),`(by rw[bp];omega),`(.pow k),`(vs.map toV),`(.type "list"),`((.h,N,cl)),`(pure (.sj us)),`(eL X.K $a),`(ay X.K $a $b $c),`(some (.str $a $b)),`((.cn,T.c,.bF,hp,T.cl,T.n $a,.dV (0<1000))),`(($a).F.az ["self"] $b),x,`((.ek,T.c,.bF,aB,T.cl,T.n $a,.dV (2<1000))),`(.w6 .r),`(.co (.co $a)),`([.B,.gl]),x,`(Turn $a $b $c $d $e $f $g (λi h=> $h)),`(.wa $a (field $b $c>>= $d) $e $f $g (.nb $h $i $j $k $l)),x,`(P.objs.size),x,`(x.cps.size),x,`(by rw[$a:term];exact hz),`(.pb ($a≠$b) $c),`(.ref l),`(.A $a to),`(valuesAt n $a $b),`(s.want),`(shortNumbers $a&& $b),`(.ok rs),`(checkBlock c $a $b),`(.inl h),`(jY (iR $a $b $c ?_ $d)),`(A.frames),`(λb o e n S W=> ?_),`((I.ok,.wd $a)),`((_,Y,hd,_,dh,.h,.bE,cl)),`(aa (cq $a)),`(iN.mpr $a),`(call (.builtin $a) $b),`(some ($a).2),`(.hF κ $a),`(X.d_ s3 H3 $a ce fp),`(I.fX $a c $b),`(.bk Hp $a),`(.hN $a us),`(.Attribute $a f $b),`(PySem.W.instObj C $a),`($a∉X.fs),`(.c (X.fn $a)),`(I.base.free $a $b $c $d $e),`(.fD .ck $a),`(($a).trans (ae.fu $b)),`(fJ T $a c pl ps pt),`(.d9 us),`(.bX $a dp $b)]
def mq25(x:MacroM Term)(a b c d e f g h i j k l m n:Term):Array (MacroM Term):=#[`(λh=>(by omega)),`(T.truth),`((.sm,h5)),`(.fI "type"),`(.zo dN),`(U.T.num),`((.w7,T.num.cl)),`(∀us: .av,$a),`(.ap .av),`(.fold f left l d $a),`(some (.str $a)),`(∀b o,$a-> $b),`(y.code),`(.ed .gr),`(de T $a x $b),`(.mN pos),`(dq .F $a $b $c M.m W),`(some none),`(D.nx σ $a),`(aU bN $a aq),`(.J $a $b $c .x 2 $d $e $f $g),`(h'.get? $a= $b),`((_,_,val)),`(upd $a $b (.tup $c)),`(($a).run.n "topmost"),`(.block b $a $b $c $d),`(($a).length<=10000),`((by omega,?_)),`(some (.builtin $a)),`((N,($a).run.n $b)),`(X.env.cells.lookup $a),`(Z (aS (pv 0) $a) $b),`(.bX C $a $b),`(($a).getD 0),`(L2.V.str),`((($a).push $b).push $c),`(aQ $a (.bB $b) $c),x,`((.o,ay.of $a)),`(aE $a λv U ⟨x,H1,n,i,R⟩=> $b),`(.inl (ay.of $a)),`((.j,.jn,.Ea (∃j,$a) $b)),`(.get j),`(($a).same C),`(($a).same (($b).trans $c)),`((_,Y,.sg (aM.of $a))),`(aJ $a $b $c $d (.lh $e $f)),`(.mO $a ws),`((.o,?_)),`(.ze $a ?_),`(bY T.vc .ba $a $b $c),`((.fK,.E9 $a $b)),`((.sa,dS)),`(.J $a $b $c .x 5 $d $e ["run","frame","row","instruction","taken"] $f),`(.cons $a (.dE $b)),`(λz=>absurd $a $b),`(.bX .sp $a $b),`((_,Y,aY,λt1 A=> $a)),`(some 1),`(pf .F $a $b),`(.int j),`(.vQ xs ys)]
def mq26(x:MacroM Term)(a b c d e f g h i j k l m n:Term):Array (MacroM Term):=#[`(λ_=>.bo),`(.ref R),`((λ_ _ z=>z,?_)),`(($a).trans C),`(.bj m0 $a),`(.ref g),`((VX $a $b $c $d).2 us),`(‹_›),`((($a).lookup $b).isSome),`(.gn H1),`(nW (by kernel_rfl)),`(some (.a5 $a)),`(.cj tk),`((tk,t,ts)),`(ps.map $a),`(some (.m $a)),`((g:Int)),`(Vaunih.ofList xs),`(⟨($a).toArray⟩),`(.bZ $a $b (acc++ $c)),`(wipe σ2 vs),`(.bB (.nh $a $b $c $d $e)),`(Vaunia.joined 32 $a),`(cn $a (by decide)),`(gA (eK $a)),`(b.code.flatMap $a),`(eG [txt $a,$b]),`(vs.length),`(.eU $a $b .e $c),`(mU $a $b M.m $c $d $e .nil .bn $f),`(.d8 tk $a),`(c5 .F $a $b $c M.m $d (ao $e)),`(absurd z $a),`(.str "skip"),`((λh=> $a,λh=> $b)),`(jO .dQ $a),`(.so $a $b .l),`(($a).heap.Ns $b m),`(vs.toArray),`(.c (jm $a)),`(WellAll $a $b $c ds),`(∀u∈vs,iH $a $b),`(ih (($a).enc $b)),`(g.toList),`(.O .hQ $a $b),`(Array.mk []),`(boot_heap .dc),`(.Y (.kY $a $b apos $c [] pos)),`(∀(kV z pm:Value) (q: .aU) (G ct:Value) (us: .q),$a),`(.bW T.c $a),`(.O $a $b v0),`((fr,_,Y,hp)),`(.pk $a $b $c T.f T.fd ["self"] (m_ $d $e)),`(.aI->Hp-> .ap VK),`(λt=>S (by simp[t])),`(.je tk),`(.sn .bD),`(.pl $a .l),`(Draws prog $a $b $c $d $e $f $g),`(($a).frame $b $c $d $e λq j o e=> $f),`(ak (aZ $a)),`(hit.typeIs)]
def mq27(x:MacroM Term)(a b c d e f g h i j k l m n:Term):Array (MacroM Term):=#[`(X.A.in1),`(dj (bM $a)),`(pl.isList),`(.pl $a (some $b)),`(vals1 r),`(r.append $a),`(.sE $a (.builtin $b) $c),`(g.length),`(.eh apos.endLine $a),`(tokensFrom ($a+1) $b $c),`(.aq ($a).isEmpty $b $c),`(af (by omega)),`((($a).map $b).sum),`(λz=>by cases z),`(valueAt $a d $b),`(($a).all .Ec),`((.cp:Int)),`(List.replicate $a none),`(.c ($a).isSome),`((.gt,λ_ ws h=> ?_,λ_ tk X h U=> ?_,λ_ _ tk X h U=> ?_,.la)),`(swapsWith $a (some $b) $c .S),`(SP $a pins $b $c $d),`(eF $a body $b),`(.E6 .bY++(" ":Str)),`(($a).sameBut L $b),`(cU .a6 X.w $a $b),`(lS (by decide)),`(q.zpow $a),`(z.natAbs),`(m.natAbs),`((mc.c,hz)),`((.mY,iZ (by decide),ca,nl,xs)),x,`(oW $a .pc),`((eW,.ac)),`(.n0 (.n1 .i) "NO_RUN" (-3)),`(($a).map L2.V.int),`((.bb $a).2),`(jX (ij {} cs)),`(Builtin.Str.strSliceIndices $a $b 1 $c),`(.vR ys),`(I.bare),`(I.aw.fresh $a),`(.pb ($a∉ch) $b),`(Value.int i $a),`(λ_=>none),`(.hI .aw),`(cb ($a+1) X.A),`(gX $a $b $c (.type $d)),`(.E7 .E8),`(.sf $a $b .ph),`(.c (PySem.W.hasDictIn K $a)),`(codeAny .hM $a (.call $b $c) $d $e),`(PySem.W.typeIn K $a),`((Sum.inr $a :Key)),`(.fC $a pl),`($a+1<=20000),`((.cN,.eV,h1,cl)),`(Addr×Addr),`((.pm,_,Y)),`(some (.ok $a)),`(findIn $a $b $c= $d)]
def mq28(x:MacroM Term)(a b c d e f g h i j k l m n:Term):Array (MacroM Term):=#[`(some .none),`(vs.size),`(.str name $a),`(.c (.zv $a "Exception")),`(.hP $a at_),`(.A $a t1),`(Option V),`(fg ($a+1) (.ll $b) $c),`(λz=>nomatch z),`(if $a= $b then $c else $d),`(T.gi.ins.n "number"),`(.ok {m with frames:= $a}),`(some (($a)[$b])),`(cellsFrom $a ($b).names $c),`(.error e),`(.vZ $a .w $b $c),`((.inr $a,_,Y)),`(.sz cT),`(λb S=>($a).1),`(ps.zip $a),`(($a).aw.fresh (aI _)),`(Out r R H $a),`((.cc,h3,h4)),`(.ref ($a+1)),`(($a).lookup $b= $c),`(T.run.c),`(g $a $b $c fun σ2 H2=> $d),`(digitsUpTo 100 $a),`((_,G,.h,h1)),`(.pz $a (fE $b) (g0 $c .bD)),`(.BoolOp $a $b pos),`(.cL H' $a),`(Binds X.K fd ps $a),`(($a).length=1),`(ak (pJ $a)),`(by rw[$a:term,br];omega),`(E (.ref $a) none $b),`(.c .a),`(NameKind),`(if $a=0 then $b else $c),`(gU $a $b (λxs H Q=> $c)),`(s.heap.get? $a= $b),`(T.fr.ff.cl),`(qc (by omega)),`(($a).fr.bf.n "row"),`(ws.drop $a),`((($a)[$b]:cM).kept),`(Vaunih.instruct $a $b $c $d ($e+1) $f $g $h $i),`((eD $a).symm),`(.eR▸C),`(($a).bind λx=> $b),`(T.block.cl),`(.c (dm $a)),`((_,Y,t,_,.mU $a)),`(bw T.vc .ba .az $a $b),`(λx=>∃k,$a),`(λH1 U k1=> ?_),`(T.fr.bf.c),`(.eX $a (.aC $b $c $d $e)),`(m.frames.reverse),`(∀a∈L,H $a≠none),`(.a5 ($a+1))]
def mq29(x:MacroM Term)(a b c d e f g h i j k l m n:Term):Array (MacroM Term):=#[`(w2 $a $b $c (.al $d $e)),`(λe=> ?_),`(.fD (H $a) $b),`(FC.aD L $a),`((VX.aD $a $b).1 $c $d),`(λ_ h=>h),`((.j,.sh)),`(.pg .eN $a $b),`(.zz $a (L2.V.int $b)),`(.cb $a $b ["self"] $c),`(.m (.zg $a $b)),`(cD $a (binaryOp .FloorDiv) $b),`(.Eg ($a≠0) $b),`(d4 (top $a)),`(.gw (bR $a) $b),`(Vaunia.shownQ q),`((Builtin.Int.intBits $a :Int)),`((.j,.o)),`((.dB $a,.eP)),`(.zt $a (some (Vaunia.Q.of $b $c))),`(instrs e $a $b $c),`(B.iX $a $b $c H'),`(Str.ofString k),`(txt "pow"),x,`(Except.ok ($a++ $b)),`(by rw[z];exact $a),`(gj.but g $a),`(($a).elim (λz=> $b) $c),`(hZ $a (.mW $b)),`(.str "part"),`(.str "unless"),`(.c (kn $a)),`(.inr (.inr $a)),x,`((.o,.j)),`(ws.toArray),`(BindsTo $a $b $c (.sj $d)),`(.bk $a Heap),`(AllBare ($a).gens),`(.ok (.ret $a)),`(x≠"__name__"),`(($a).mpr (.inl $b)),`(λa m=>.hW $a),`(h.get? $a= .l),`(aO "blocks" $a $b),`((VX.same s $a).1 $b $c),`(List String),`(.vU .pf $a),`(some (.hX $a)),`(.ref ($a).fh.f),`((1:Int)==1),`(u_ (name:=Str.ofString $a) $b $c $d),`(.vS .pd ((∃m,W $a $b $c $d)/\∀i m σ H,$e)),`(∃N: .gr,(∀σ' H',$a)/\∀x H',$b),`(W .z $a σ' $b),`((.ad,.ad)),`((ny U.heap $a $b).get? $c),`(.ref .L),`(by rw[cj,<- $a:term];exact $b),`(ys.length),`(A.handled)]
def mq30(x:MacroM Term)(a b c d e f g h i j k l m n:Term):Array (MacroM Term):=#[`((.eY:Int)),`(by rw[cj];omega),`(Array .gz),`(p.isList),`(ql (h₀:=.ca) ($a).ok.mod.kin $b $c $d $e),`(.Subscript $a $b pos),`((splitBy $a $b).filter $c),`((($a).toNat,by omega)),x,`(($a).foldl $b n),`(Txt.split $a .bY),`(.bd ($a=0) $b (gN $c $d $e)),`(give $a $b .P),`((.em,none)),`(.c (d5 $a)),`(List T8),`(expand t),`((.JE,λ_=> $a)),`(($a).takeWhile atomSign),`((.JE,.ec)),`(fits len $a $b),`(.t [93]),`(.t [91]),`(List.replicate ($a+1) $b),`((λ_ ws h=>(by cases h),λ_ tk X h k=>(by cases len0 h;cases k))),x,`(∀b∈fp,.nj $a $b $c),`(.E0 $a $b .eO),`(∀vs H Q E,sp vs $a $b $c-> .jr $d),`(.Name "text" $a),`(SP $a pins $b),`(.dA $a $b (.mQ $c .mR) $d),`(I.base.keep $a $b $c $d $e $f),`(λ_ q=>q),`(($a- $b).toNat),`((.sg $a,($b).ir.k,Y,Y,.cK)),`(.J $a $b $c .x 5 $d $e ["a","b"] $f),`((?_,by omega,.vW)),`(mN $a h.w2 $b k.w2),`((e:Int)),`(Nat.log2 ($a * $b)),`(by have:=($a).pos;omega),`((x.lf a $a).1),`(λz=>lq (x:="numbers") (by rw[$a:term];rfl) $b $c),`(.lb $a $b $c [.int $d]),`(mc.js w2 $a),`(λX w2 C=> ?_),`(aL $a (.hV $b) $c),`(frameNumbers),`(($a).flatMap m7),`((_,Y,hd,_,v,.h)),`(eR $a .a2 .a2),`(loading $a t),`(T.calls.c),`(($a).flatMap mw),`(Z $a (.bB $b)),`(Txt.split a $a),`(($a).trans ($b).symm),`(.si (N $a $b)),`(.jq (.je $a)),`((.bA $a).2.1),`(.hI Nat)]
def mq31(x:MacroM Term)(a b c d e f g h i j k l m n:Term):Array (MacroM Term):=#[`(own.map (·.2)),`(.ListComp $a $b $c pos),`(⟨$a,iter,$b,0⟩),`(∀(s:Shared) (H:Hp) (C:Addr) (cl: .hI Addr) (fp: .g),$a),`(.ref it),`(.sd $a $b (e8 .zf .fE $c)),`(λ_ _ h'=>h'),`(.bx prog w A $a $b (notedBy (model prog $c) $d env λe s'=>R .se $e) $f),`(I.ok.kj),`(.jg $a "dict" .mS),`(I.ok.frames),`(I.ok.glob),`(NameKind.free),`(($a).under (.builtin "type.__call__" $b)),`(s.heap.FunFrames $a $b),`(.nq "object.__setattr__"),`(ak (qk (s:= $a) $b $c)),`(.Compare $a $b $c pos),`(behindInMarks op $a),`(.w8 (.hX $a) $b (.int $c $d)),`(∀p∈ .w0,$a),`(∃σ' H',.zh/\ $a),`(Loc .l9 $a),`(PW $a (.su $b $c) $d),`(some .bH),`(X.env.frame),`((VaunihNeutral.text? $a).map $b),`(q2 (λz=> $a) $b $c),`(($a).length<=8000),`((_,Y,h2,.l5,_,Y)),`(bb (c5 .F $a T.ko (qY $b) $c $d (ao $e))),`((($a).map (λe=>L2.V.ref $b)).reverse),`(T.opened.c),`((($a).gi.fh.F.kp,($b).gi.fh.F.b,.j,fin $c)),`(ah $a $b $c mg base .x 3 $d $e ["instruction","taken"] (.js $f $g $h)),`(λH' x G s W=>g $a .a4 $b $c),`(.cb $a $b ["instruction","taken"] $c),`(qm $a $b (by kernel_rfl)),`(mroIn K $a $b),`(.c (keepIn $a $b)),`(.type "type"),`((sC $a).andThen $b),`(.zi $a .jf),`(.st $a rest $b),`(rawInt L),`((_,Y,b,_,d,.h,S,.vV,B,dM)),`((_,Y,b,_,d,.h,S,.vV,.jh)),`((.mT,B,dM)),`(($a).bW.n "instructions"),`(($a).bW.n "reached"),`(localsAtStart y $a),`(Nat×Nat),`(Paired R $a $b),`(($a).map V.str),`(∃W: .ed $a,$b),`($a≠ .bH),`(.A $a (tC $b)),`(U.T.num.cl),`(by have:=h.w1;omega),`((x.lf a $a).2),`(PW.pt (kH $a (kI (aU $b $c $d)))),`(PySem.W.findIn $a $b $c= $d)]
def mq32(x:MacroM Term)(a b c d e f g h i j k l m n:Term):Array (MacroM Term):=#[`(X.pn++pins),`(tb {D with nx:= $a,ct:= $b,bk:=D.nx} $c $d),`((dJ $a $b).bind $c),`(some ⟨0,$a⟩),`((cl,($a).tokens.n $b)),`(.Name "mark" $a),`(HT.aT $a 0 lo),`((_,Y,a,_,l,.h,N)),`(.fields #[$a,$b,$c]),`(.zy pos $a),`(show wpAny _ $a $b $c $d $e from $f),`(partsUpTo most $a),`(.fF (($a)[$b]?) $c),`((I.os,($a).bare)),`(λ_ H'=>.bN),`(backTo $a (.b1 $b)),`(.nc $a "held"),`(dE (ao $a)),`(aU bN $a (T.bE $b $c)),`(.free j),`(s.trans $a),`(.c (fM $a ls $b)),`(T.dI.raises $a),`(T.dI.F.b),`(uI T.dI),`(.c (kJ $a $b)),`(by have:=cq $a;omega),`(by have:=bQ $a;omega),`(decide (.K $a $b)),`(by show $a= $b;rw[$c:term];rfl),`(($a).reverse++ $b),`(($a).same s.kp),`(.int .eg),`(λV x e s R=> ?_),`((ae.but (r:= $a) $b).trans $c),`(.pt $a "outcome"),`(aR (($a).hB.raises $b)),`(hA (.pj $a) $b $c),`(.cP (aU $a $b (T.bE $c $d)) $e),`(T.gi.ex.U.T.num.cl),`(au λo h=> $a),`(.pt $a "marks"),`(.dV (0<1000)),`(.bC (mZ $a $b $c) $d),`(.c (.bj $a $b).over.isSome),`(by rw[bL];show $a;omega),`(.pv $a (.hT $b)),`(if .c $a then 0 else 1),`(λb o e=>.dS $a $b (.dU $c)),`(bC (($a).mpr $b)),`(match splitBy c r with|[]=>[$a]|p::ps=> $b),`(aW (λz=>h $a)),`(.ref ($a).c_.c),`(∀cls G H',$a-> $b),`(n6 (k:= $a) $b (by decide)),`(by have:=bQ $a;injection this with this;omega),`(lL $a (by omega)),`(T.gc.L.g),`(jT $a (by rfl) (T.gb $b) $c $d),`(.fL (($a).fdiv $b)),`(.sA ($a).gc.L.c $b),`(um $a (by omega))]
def mq33(x:MacroM Term)(a b c d e f g h i j k l m n:Term):Array (MacroM Term):=#[`(.c (fy $a)),`(aU $a (T.cA $b) $c),`(2*($a).natAbs),`(Vaunia.allDigits t),`(Vaunia.digitsVal t),`(.zn (q $a $b (.gs $c) $d)),`(.le ($a).chain $b $c $d),`(λy q=>∃acc,$a),`(($a).block.n "made_with"),`(∀{l: .av},$a),`(txt "num"),`(($a).length<=3),`(i.natAbs),x,`(.str (bR $a)),`(by rw[$a:term,e]),`(.hU (.ld $a $b $c) $d $e),`(txt "fn"),`(λa N=> ?_),`(aW (show $a by omega)),`(Paired (de $a $b) $c $d),`(.inr .ao),`(show $a= $b by omega),`(λ_ _ _=>.bU),`(Value.type "list"),`(.c (ih $a)),`(by rw[$a:term];exact h1),`(.hF Key $a),`(fj $a "__init__" $b $c $d $e),`(aO "kind" (V.str $a) $b),`((fun σ' H' d=> $a,λx H' y=> $b)),`(λi m σ H=> $a/\ $b),`(cW $a (o:= $b) Y),`(.cL $a {s with heap:= $b,toks:= $c}),`(IsTupIter $a $b $c i),`(IsZip $a $b TI $c .none),`(yk $a (by simp) $b),`(($a).extBut _ $b $c $d),`(IsZip $a $b TI $c .ellipsis),`(Builtin.SmallTypes.nextOf (.ref $a)),`(.a1 ($a).cps),`(.zu $a (.seq $b)),`(($a).laid (t':= $b) $c .y $d),`(($a).tok _),`(toString i),`(mQ λ_ _ _ _ _ _ _ B q=> $a),`(valueAt $a k),`(.l8 ($a×Toks)),`(plainWord $a= $b),`(if $a then $b else .s7 $c $d $e),`(a.reverse),`(∀c∈t,.JF $a),`(($a).map (λp=> $b)),`((($a).emod $b).toNat),`(t.natAbs),`(aa (key $a $b)),`(Option IS),`(.gm $a $b<=8000),`(checkFrom $a $b $c 0 (.w3 $d) $e $f),`(Pass $a $b code $c $d),`(gh $a $b (.hP $c $d)),`(gives x)]
def mq34(x:MacroM Term)(a b c d e f g h i j k l m n:Term):Array (MacroM Term):=#[`(∀(pins: .D) (s:Shared) (σ:St) (H:Hp) (D:Ends),$a),`(.dR (.Y $a) $b),`(λv z=>by rw[$a:term]at z;cases z),`(.pa (g $a)),`(Txt.replace $a .bY $b),`(.FormattedValue (.w5 $a) (-1) none $b),`(model $a X.w),`(λ_ e=>nomatch e),`(X.env.kindOf $a),`($a= .function),`(X.env.scope.kind),`((.m $a).toNat),`(λr=> ?_),`(gM h.bt k.dz),`(by have:=($a).den;omega),`(λa N z=> ?_),`(id mc.m),`(fs.length),`((($a).now,y.bZ)),`(List Call),`((by decide,Y)),`(List .am),`(max .hC $a),`(.db $a (.n6 $b $c) (min ($d).toNat $e)),`(-(2^62)),`(k $a $b (λz=> $c) $d),`((.kW $a).1),`(f_ $a $b λ_ _ x=> $c),`(Value.str $a t),`(.c ((ku $a $b).is $c $d)),`(pushCells (.jg $a "dict" $b) $c),`(.bT Bool),`(cenv.locals),`(cenv.kindOf y),`(I.ok.blt),`(I.ok.mod),`(($a).kind== .function),`(cellsFrom $a $b acc),`(e8 cells $a $b),`(List PyData),`(($a++ $b).toArray),`(Vals ys $a),`(U.length),`(($a).any (gZ $b)),`(.c (mx $a)),`(vZ (pl:=pl) $a $b),`(show dk .a6 X.w $a $b $c $d from .lc $e $f),`(PS X (.Assign $a $b pos) $c),`(.c (PySem.W.plainGet $a $b $c)),`(PySem.W.InstAt $a x $b $c $d),`(λi j=>.bl $a),`(.Constant $a j $b),`(some .aQ),`((I.aw,I.len)),`((($a).base,($b).loc,($c).cell)),`(Array GenState),`(X.base.get? b),`(PyVaunih.whole c),`(dZ (λz=>[L2.V.ref $a,$b]) $c),`(L2.V.str z),`((dx',.h)),`(.a7 (i9 $a))]
def mq35(x:MacroM Term)(a b c d e f g h i j k l m n:Term):Array (MacroM Term):=#[`(($a).map λc:UInt8=> $b),`((h.mO,h.lA)),`(stx (jJ $a $b)),`(($a).cy.n "wanting"),`(PySem.W.Looks (model prog $a) $b $c $d),`(jD (dG $a pins $b) $c $d cls $e $f),`(.ap Addr),`(.ref ea),`(rawInt .bH),`(($a).T.num.n "bottom"),`(($a).T.num.n "top"),`(.zc $a at_),`(($a).getD $b none),`(PassesOwn (model .a6 X.w) X.A .S $a),`(cE (λt=> $a) (λt=> $b)),`(X.env.cells),`(Nat.gcd ($a).natAbs $b),`(.ej σ' H' s'),`(PySem.W.mroIn K $a $b),`(($a).imp λ_ z=> $b),`(.zq .aO $a),`(show $a= $b from rfl),`(show $a<= $b by omega),`((aY,λl R=> $a)),`(.lm $a .T),`((by rw[$a:term];omega,?_)),`(.Ee (.seq $a $b)),`(λx W=> ?_),`(λx=>.Ef $a),`(.sD $a none $b),`(.jg $a "list" $b),`(($a).contains (.type $b)),`(IntMulOk $a $b/\ $c),`(.builtin "object.__class__"),`((.wf $a $b).any (·.1)),`(.a9 (L2.V.int $a) $b),`(.hV (T.bE $a $b)),`(.i1 $a (aS (pv 0) $b) $c),`((run.same $a,B)),`(Vaunih.callWith c $a $b $c $d $e $f),`(Vaunih.work c $a),`((X,($a).gi.so.chain.n $b)),`(($a).mpr ?_),`(by rw[$a:term];show $b<= $c;omega),`(.pt $a "blocks"),`(aQ $a (O (aS (pv 0) $b)) $c),`(.result z),`(.p9 hand),`(D.m.frames),`(D.c.length),`(T.cA .F),`(.m ($a).length),`(($a).block.n "instructions"),`(.vY (.mV $a) $b $c $d),`(by rw[B];exact $a),`(.pt $a "result"),`(($a :Int)-1),`(Vaunih.MOSTDEPTH),`(∃a C G fs,$a/\ $b),`((($a).gi.so.chain.cl,($b).gi.so.chain.n $c)),`(SameBut p $a $b),`(.pt $a "refusal")]
def mq36(x:MacroM Term)(a b c d e f g h i j k l m n:Term):Array (MacroM Term):=#[`(.pt $a "done"),`(.dV (2<1000)),`(.pt $a "left"),`(T.gb "list"),`(xs.reverse),`(by rw[eX];omega),`(ms.length),`(($a).run.n "done"),`((.l4 $a).mpr $b),`(Option Over),`(htp.same kp),`(.error k),`((λv ⟨a,G,e,h⟩=> $a,λ_ h=> $b)),`(.fF $a (V.str $b)),`(List.map _ $a),`(λi H' hi h=>ay.of $a),`(($a).filter (.zs $b)),`(λD m=> ?_),`(T.tokens.c),`(DecidableEq α),`(by rw[h]),`(by have:= $a;rw[$b:term]at this;exact this),`(.bi≠63),`(.E3 (.fG $a)),`(λb o h=>G $a $b $c (.aN $d)),`(.cb $a $b ["text"] $c),`(.a7 (.fF $a $b)),`(Vaunia.shownInt .aP),`(jk $a (by rfl) $b $c (.bz $d)),`(.fI "str"),`(T.gb "str"),`(Vaunia.digitsVal a),`(by rw[cT];omega),`(splitBy 47 $a),`(T.gi.ex.U.T.num),`(T.gb "int"),`(PW.pt (xF $a (xG $b))),`(Vaunia.Q.of $a n),`(.C<=20000),`(.C<=100),`(T.lC .F),`(Vaunia.cut c $a),`((cl,($a).fr.ff.n $b)),`(g $a $b $c fun σ2 X=> $d),`((good $a $b).words),`(ay.of (($a).1 $b $c $d)),`(ug (xs:= $a) $b $c (λi σ H' _ h=> $d) $e $f),`(Vaunih.shownCode c),`(($a).length<=202),`(∀t∈$a,$b<=202),`(.ak<=300),`(Vaunia.shownInt i),`(L2.V.str a),`(($a).mpr (by omega)),`(λvs H Q _=>∃(i:L2.V) (x:Instr),$a),`(Vaunih.tokensFrom 0 $a $b),`(Except.ok ($a,$b)),`(lB (.ji $a $b) (kF $c)),`(.str "free"),`(.fM $a (λX B s=> $b)),`(T.gi.ins.c),`(.bT L2.V)]
def mq37(x:MacroM Term)(a b c d e f g h i j k l m n:Term):Array (MacroM Term):=#[`(hZ (.str $a) (.mW $b)),`(Option Nat),`((S,($a).T.fr.bf.n $b)),`(∀(s:Shared) (us: .q),$a),`(Codec.encAll cs $a),`(N.heap.get? b),`(Option Obj),`(($a).toArray.toList.map toV),`(Vaunih.Value.cons x $a),`(λ_=>.bU),`(looseW q0 $a),`(Str.ofString),`(($a).F.binds S),`(gi.ex.U.T.R),`(.type "object"),`(.O $a ("kind":Str) (V.str $b)),`(.nd $a (3<1000)),`(λvs H Q _=>∃(p G:Addr) (v0 v1 f:V),$a),`(∀(l:List $a) (H:Hp) (s:Shared) (e:Value) (s':Shared),$b),`(k_ $a $b "number"),`(IsPart $a hi),`(IsPart $a lo),`(($a).heap.IsSliceOf $b $c $d .none),`(.mZ $a items),`(by rw[e];exact $a),`(($a).kept (t':=($b).toks) $c),`(.cL $a {U with heap:= $b}),`(.jg $a "tuple_iterator" (.E1 $b $c $d)),`(some (.hS $a)),`(#[.none,.none]),`(($a).objs.size= $b),`(λv q=>nomatch q),`(IsPair $a $b (.ref $c) (.ref $d)),`(h'.objs.size),`(IsZip $a $b TI $c (rawInt $d)),x,`(($a).heap.push (revObj $b $c)),`(.hO "reversed" $a $b $c $d),`({s with heap:=.jg $a $b $c}),`({cls:= $a,dict:= $b,data:=.seq $c $d,slots:= $e}),`(typeLookup $a $b= $c),`(pure (.ps $a)),`(V.toArray.size),`($a==sysModules),`(Vaunih.blocks e $a $b $c $d),`(.truth .a),`(by show $a= $b;rw[$c:term,$d:term]),`(absurd rfl $a),`(λz=>h (.aH $a)),`(Nat.gcd a $a),`(by show $a<= $b;omega),`(Except.ok M),`(by have: $a<=999:= $b;omega),`(match c[k]? with|none=>_|some d_=> $a),`(.l1 (.sb $a)),`(.hG≠63),`(splitBy m $a),`(inputsOf t),`(absurd h $a),`((.w2 $a $b $c).bind $d),`(($a).dropWhile atomSign),`(λv g z=> ?_)]
def mq38(x:MacroM Term)(a b c d e f g h i j k l m n:Term):Array (MacroM Term):=#[`(.ar (ofList $a) $b),`(.c (atomSign $a)),`(($a).cH.length<=40),`(shownAs .a $a),`(wt (ofList $a)),`(shownValue v),`(partsUpTo ($a- $b) $c),`(aa (by intro z;cases z)),`(checkFrom $a $b $c $d next $e $f),`(λz=>.inr $a),`(handsFar c $a $b $c),`(.n5 $a (.inr $b)),`(decide ($a≠$b)),`((.la,λ_ _ tk h U=> $a)),`({D with nx:=u $a}),`(.dR (exec $a $b) $c),`(again $a n7),`(∃i σ' H',$a/\ $b),`(foldedSetIterable iter $a $b),`(.zd X.xe),`(n.iO $a (.sk $b)),`(.gv (call $a $b) $c),`({nx:=.we,rt:= $a}),`(λb o e=>(F.bs $a $b $c).1),`(some .a0),`(.c (PySem.W.codeIn $a $b $c)),`(($a).turned (λb o S e=> $b) $c $d $e $f $g),`(.JoinedStr $a p9),`(.ej (σ.set $a $b) $c $d),`({s with toks:=k}),`(λy c e=> ?_),`((($a).base.jt,($b).base.iP,($c).base.jr)),`(xg (by omega)),`(intBits (.m $a)),`(.gA (by omega)),`(T.gi.ex.U.T),`((λU H' x s W=> $a,λU=> $b)),`(gM h.bd k.bd),`((($a).den:Int)),`((x.f,λa N=> $a)),`(.zj (.vX $a) $b),`(ke (O (aG $a $b $c)) ?_),`(.n0 $a "OUT_OF_RANGE" $b),`(($a).held.n "blocks"),`(Vaunih.MOSTSHOWN),`(124::shownValues ls),`(λl1 hl1=> ?_),`(($a).same (.b0 $b $c $d)),`((($a).frames.reverse.take $b).flatMap $c),`(.bb (.heights $a)),`(($a).code.kp kp),`(.bX ($a).held.c $b $c),`(by rw[hJ $a];exact $b),`(PySem.StrLaws.sliceText z $a $b),`(λx xs H Q=>∃a b,$a),`(pure (.type "method_descriptor")),`(typeOf (.builtin $a)),`(fun σ H Q=>to $a $b (λx H1=> $c)),`(λb u q=>.co $a),`(xE (tk:=($a).toks) $b $c $d $e $f),`(λb u e=> ?_),`(.cL $a (.je $b))]
def mq39(x:MacroM Term)(a b c d e f g h i j k l m n:Term):Array (MacroM Term):=#[`(∀b∈ch,.nj $a $b $c),`((#[],by rw[$a:term];simp)),`(subscripted $a .a $b $c),`((show $a from r).elim),`(λb o e=>.eO),`(λ_ H Q=>Q $a $b),`(I.aw.kept $a),`(($a).names.lookup $b= $c),`(.hK $a (.zk $b)),`(s.heap.update $a $b),`(($a).toArray.any (gZ $b)),`(show .sB from B),`(p_.mp nd),`(bindC kindOf $a $b $c),`(.ju (Option $a)),`(bindL kindOf $a $b $c),`(.vZ $a $b "__init__" (.jj $c)),`(recursionLimit),`(λx y H Q=>∃i j,$a),`(gG (($a).lookup $b) $c),`(.vZ $a $b "__setattr__" $c),`(.fI "function"),`(tb $a $b λy H2=> $c),`(xt λ_ _ _ _ _ _ _ q=> $a),`(.mN pos'),`((.E2 $a).map (·.2)),`(.n2 $a (λc H1=> $b)),`(List .s6),`(λx c e=> ?_),`(X.ey.heap.get? b),`(some (.pB $a)),`(some {o with slots:= $a}),`(I.ok.hW.mem $a),`({cls:= $a,data:=.fields $b}),`(T.telling.c),`(hfit.mp z),`(λV G D=> ?_),`(λh=>(by rw[$a:term]at C;omega)),`(∀x∈$a,.K $b $c),`(wo $a (by decide) $b),`(w_.getD $a 0),`(.truth b),`(($a).cy.n "opened"),`(.str (jh $a)),`((h.f1,h.f2,h.f3)),`(.hJ (.al $a $b)),`(ah $a $b $c $d base .x 4 $e $f ["instruction","taken"] $g),`(.bW ($a).truth.c (iM (.bl $b))),`(dU ($a).ex.U.T.num.c $b $c $d $e $f),`(typeIn K $a),`((gY $a $b).mro.tail.contains $c),`(FC.top 197),`(by rw[r9,$a:term,$b:term]),`(xN (fr:=none) $a $b $c),`(X.gB (.Eb $a $b)),`(fin $a $b $c λc K=> $d),`((σ',H',($a).unmark $b)),`(λt1 b1 t2 b2=> $a * $b),`(($a).bW.n "blocks"),`(($a).any (λk=>.eM $b $c)),`(($a).turned (t':= $b) (λb o S e=> $c) $d $e $f $g $h),`(fun σ H Q=>ta $a $b $c)]
def mq40(x:MacroM Term)(a b c d e f g h i j k l m n:Term):Array (MacroM Term):=#[`(($a).kept (t':= $b) λb o e=> $c),`(.fields #[$a,.int $b $c]),`(assignEach $a .S),`(.pa (.gy $a)),`(UInt8.ofNat ($a).toNat),`(hp.objs.size),`((" ":Str)++ $a),`(s.heap.push $a),`(PySem.W.emptyDict),`(cE (λC=> $a) (λC=> $b)),`(fin (ok:=λx=> $a) $b),`(($a).A.mark (.I $b)),`(shortNumbers),`(.gB "tuple" $a),`(.gB "list" $a),`(! ($a).isEmpty),`(rI (λ_ j=> $a) $b),`(∃(a b:Addr) (t1 b1 v1 t2 b2 f:Int),$a/\ $b),`(Vaunih.give $a m $b),`(T.gi.so.chain.cl),`(kindS (($a)[$b]' (by omega))),`(by rw[$a:term];exact .y),`(by rw[bh];omega),`(by have:= $a;rw[bh]at this;omega),`(.kZ ($a).isList $b),`((ae.but $a).trans $b),x,`(λH6 w6 r6=> ?_),`(($a).fr.bf.n "depth"),`(.l8 Machine),`(by show $a= $b;omega),`(T.gb "len"),`(match ls[j]? with|some v=>_|none=> $a),`(D.tk.reverse),`(($a).fr.bf.n "folds"),`(∀g∈below,nF $a $b),`((fcl,($a).gi.func.n $b)),`(.gm ($a).length $b),`(by rw[z];rfl),`(L2.V.ref kf),`(($a).block.n "itself"),`(cE (λc1=> $a) (λc1=> $b)),`(T.gi.func.cl),`(if $a then .error $b else $c),`(.O $a ("depth":Str) $b),`(T.gi.pair.cl),`(T.gi.truth.cl),`(.dV (3<1000)),`(m.frames.length),`(T.gb "reversed"),`(($a).run.n "outcome"),`(λX w2 k2=> ?_),`(.O $a ("folds":Str) $b),`(bY.same (xs:= $a) k $b),`(Txt.split .bG $a),`(λz=>by have:= $a;rw[$b:term]at this;cases this),`(by rw[$a:term,h];rfl),`(λvs H Q _=>∃t:ax,$a),`(by rw[gE,$a:term];rfl),`(λvs H Q E=>∃(tk:Addr) (t:ax) (ts:cQ),$a),`((($a).length:Nat)),`(.O $a ("at":Str) $b)]
def mq41(x:MacroM Term)(a b c d e f g h i j k l m n:Term):Array (MacroM Term):=#[`(bR (Vaunia.decimal $a)),`(by rw[j6];exact $a),`(.gA (by decide)),`(10^Vaunih.MOSTTOLD),`(by rw[er];rfl),`(by rw[$a:term,$b:term,bp];omega),`(fractionText t),`(λm=>Vaunia.Q.ofInt $a),`((.sr $a).isSome),`((λH' d=> $a,λx H' y=> $b)),`(Txt.join $a (($b).map $c)),`(x.cps.toList),`(Txt.join $a ys),`(.sx (" ":Str)),`(by rw[iE,$a:term,$b:term];show $c;rw[$d:term]),`((($a).code.take $b).flatMap $c),`(by rw[$a:term];show $b= $c;rw[$d:term]),`(wX (by omega)),`(AN (by omega)),`(Str.ofString (toString $a)),`(($a).natAbs.log2<1920),`(txt "false"),`(txt "true"),`(λH7 w7 k7=> ?_),`(∀v∈vs,∃a,$a),`(L2.V.str .cO),`(.str "fold"),`(.str "call"),`(.str "get"),`(digitsUpTo 1 $a),`(PySem.intText? $a= $b),`(by rw[$a:term,br];decide),`(by show 2<= $a;decide),`(aO "topmost" $a $b),`(.cl (aM.of $a)),`(Codec.app ($a).args $b $c),`(base.Ns .hL $a),`(∀d∈ds,($a).weight<=1048576),`(.hW (show $a from z)),`(s'.heap.get? $a= $b),`(by rw[ye $a];exact $b),`(dZ Array.toList $a),`(λb hb=> ?_),`(Array UInt8),`(.O $a ("blocks":Str) $b),`(PySem.Challenge.pw_fractioncode_s01_answers),`(Vaunih.ofList ($a).list),`(l.list.length),`(T.gi.ex.U.T.num.c),`(importedModules ($a).main.body),`(($a).map (·.name)),`(.c (Nat.ble $a $b)),`(topFrame p0),`(topS.tree_1634 P),`(.inr "rest"),`(.inr "floor"),`(.inr "div"),`(.inr "mul"),`(.inr "sub"),`(.inr "add"),`(.str "list"),`(.hF String $a)]
def mq42(x:MacroM Term)(a b c d e f g h i j k l m n:Term):Array (MacroM Term):=#[`(PySem.W.kitOne $a $b (.type $c)),`(PySem.W.takesIn $a .zx),`(.nq "getset_descriptor.__get__"),`(PySem.W.specialIn $a $b "__get__"),`(.nq "object.__class__"),`(∃(o:Obj) (g: .bf) (n:Nat),$a),`(λvs H Q _=>∃(a:Addr) (us: $a),$b),`(∀{vs: .s} {a:Addr},$a),`(aO "checked" $a $b),`(aO "instructions" $a $b),`([("number",$a)]),`(λb o S=> ?_),`(λ_ _ h=>h),`(λx lo hi H Q=>∃a xs,$a),`(af (by decide)),`(getItem $a .fH),`(Draws.tup (prog:= $a) (w:= $b) (A:=($c).A.in1) $d $e $f $g $h),`(λv q=>by rw[$a:term]at q;cases q),`(.type "StopIteration"),`(N $a (by simp)),`(S (by simp[z])),`(typeIs_int $a $b t),`({s with heap:=.jg $a $b $c,toks:= $d}),`(I.wY (its':= $a) $b $c (by simp) $d $e),`(by rw[cj,$a:term];omega),`(.a5 (Builtin.Int.intBits $a)),`(($a).keeps I.bk),`(gG.some_of (v:= $a) (o:= $b) (by rw[<- $c:term];exact $d)),`(zX (n:= $a) (m:= $b) (by omega) (by omega)),x,`(countedWord $a= $b),`((["num","true","false","nil","get","bind","free","skip","unless","part","pair","fst","snd","cons","add","sub","mul","div","floor","rest","pow","root","less","same","call","fold","ret"]: $a)),`(.truth true),`(.c ($a).isEmpty),`(toString ($a+1)),`(Builtin.Str.occurrences $a $b 0 $c $d),`(CM $a (by omega)),`(by rw[rp];exact $a),`((.pr,by omega)),`(x.code.length),`(λ(n:Nat) b=>if $a then $b else $c),`(($a).flatMap λc=> $b),`((∀v rest,$a)/\ $b),`(pastBlanks rest),`((atomValue $a).bind $b),`(shortNumbers .lk),`(shownAs true $a),`((.mK $a).isSome),`(code.drop i),`(Except .vP $a),`(pW (by omega)),`(localsAfter r $a),`((.la,λ_ _ tk k _=> $a)),`(List.replicate $a (Str.ofString "value")),`(λh ws=> ?_),`(λ_ _ tk X h k=>(by cases len0 h;exact $a)),`(($a).keep $b $c $d $e λb S o e=> $f),`(λv U h1=>aE $a $b),`(λitv s2 h2=> ?_),`(∀(pins: .D) (s:Shared) (σ:St) (H:Hp) (Q:VK),$a),`(s.heap.NoLimit),`(by show $a< $b;omega)]
def mq43(x:MacroM Term)(a b c d e f g h i j k l m n:Term):Array (MacroM Term):=#[`(.a1 h_.cps),`(u9 $a (by decide)),`(λj y v' F D e3=> ?_),`((($a).base.free,λb o e W=> $b)),`(X.env.globals),`(zw (by decide) (by decide)),`(intBits .Z),`(λj=>by rw[$a:term]),`(mB (t:= $a) (d:= $b) (q:=λ_=> $c) $d $e),`(by rw[<-qd]),`(λz U=>g2 $a (by omega)),`(g2 (by omega)),`(g1 (by omega) $a $b $c (by simpa using W)),`(Vaunia.Q.ofInt (Vaunih.floorOf $a $b)),`(Builtin.Int.intBits b),`(Builtin.Int.intBits a),`(Vaunih.sqrt $a= $b),`(by rw[h.eq];exact $a),`(.zm (0:Int) $a),`(pT (by omega) (by omega)),`(bx $a $b (by intro q;cases q)),`(λa N=>(by cases N)),`(some ($a).length),`(Bq (tb:= ?tb) (ts:= $a) $b $c $d $e $f $g),`(.n0 $a "NO_CODE" $b),`(λH7 s7 k7=> ?_),`(λl7 hl7=> ?_),`(by rw[lD];omega),`(.bb (.look $a)),`(.bb .answer),`(λl1 u=> ?_),`(Vaunih.MOSTSTEPS< $a),`(t.kp $a (by rw[$b:term];rfl)),`(bx $a $b (by intro y;cases y)),`(acc.map L2.V.int),`(($a).length<=10000000),`(∀c∈cs,qH $a),`(($a).calls.n "numbers"),`(($a).calls.n "at"),`(($a).obj.imp λ_ z=> $b),`(.Pass ⟨0,0,0,0⟩),`((($a).take $b).toArray),`(strValues l),`(fun σ H R=>ta $a $b (λvs H1=> $c)),`(oI (s:= $a) $b $c $d (by decide) $e),`(λys hy=>by rw[$a:term];exact $b),`(λh' M sb=> ?_),`((λi H=> $a,λi H x H'=> $b)),`(operate $a (getItem $b $c)),`(own.map (·.1)),`((q,by simp[j])),`(show $a∈$b from hp),`(($a).ok.has $b (.inl $c)),`(∀y∈d.names,$a-> $b),`(λ_ _ z=>False.elim $a),`(∀(pins: .D) (s:Shared) (σ:St) (H:Hp) (Q: $a),$b),`(by rw[<-z];exact $a),`(by rw[<-N];rfl),`(.px (cells.lookup $a)),`(env.cells.lookup $a= $b),`(∃(g: .q) (n:Nat),$a),`(($a).write (x:= $b) (e:= $c) (by rw[$d:term];exact $e) $f $g $h $i)]
def mq44(x:MacroM Term)(a b c d e f g h i j k l m n:Term):Array (MacroM Term):=#[`(IsTup.new _ $a),`({s with heap:=($a).push $b}),`(($a).laid (t':=.ag) (o:= $b) $c $d $e),`(sliceBounds $a $b none $c),`(by rw[G];exact $a),`(seqIndex_neg (by omega) $a),`(seqIndex_of F $a),`(d.heap.objs.size),`({d with heap:=.jg $a "slice" $b}),`((items.toList.drop $a).take $b),`(Builtin.Slice.slicePlaces $a $b 1),`(.n2 $a (λvs H1=> $b)),`(PySem.W.keepIn $a $b= $c),`(.c (PySem.W.isFn $a $b)),`(by rw[<- .cQ];exact $a),x,`(by have:=r.dp;omega),`(Value.float $a t),`(.c (PySem.W.plainOver $a $b)),`(PySem.Within mA $a),`(.c (PySem.W.handedIn $a)),`(by rw[F];exact $a),`(PySem.W.lookIn name $a),x,`(aE $a λu B ⟨y,H2,W,D,L⟩=> $b),`(by rw[j3];simp),`(mQ λi j _ _ _ _ _ B q=> $a),`(by rw[$a:term];exact q),x,`(∀(i j:Int) (t u:Tok) (s:Shared) (Q: .E) (E: $a),$b),`(.UnaryOp $a $b pos),`(.go $a (λu g=> $b) $c),`(λb H1=>.jk $a $b),`(by rw[e];rfl),`((.jg $a "range" $b).objs.size),`(show($a).heap.IsTuple $b $c from p),`(.dR $a (λ_ s'=> $b)),`(λf U q=> ?_),`(B (by simp[z])),`(env.kindOf x),`(by subst z;rw[$a:term]at i;exact i),`(PySem.W.methodObj .ai $a),`(.a9 $a (Sum.inr $b)),`((Sum.inl $a :Key)),`(decide (.pq $a)),`(λ(z:Int)=>VaunihNeutral.natural $a $b),`(($a).flatten.length= $b),`(λz=>by rw[$a:term,$b:term]at f;cases f),`(A.flatten.length),`(shownValues xs),`(($a).trans (by rw[<- $b:term])),`(by rw[bL,$a:term];show $b;omega),`(bR (shownValue $a)),`(.cb $a $b ["values"] $c),`(($a).telling.n "pieces"),`(SameBut.z3 w2),`(toks.map λx=> $a),`((by omega,.zr)),`(AI (by decide) (by decide) $a),`(λvs H Q E=>∃(F:Hp) (j ol:Addr) (es: $a) (s:IS) (k:Nat),$b),`(($a).opened.n "inside"),`(T.opened.cl)]
def mq45(x:MacroM Term)(a b c d e f g h i j k l m n:Term):Array (MacroM Term):=#[`(.cb $a $b ["instruction"] $c),`(T.so.chain.c),`(some (.val $a)),`(findIn $a $b "__init__"),`(.nq "BaseException.__getattribute__"),`(.type "Exception"),`(.sy (Bu (K:= $a) $b $c)),`(by show 1<6;decide),`(vX (M:=.hM) $a $b),`(.c (($a).contains $b)),`(fun ψ z=>nomatch z),`((.hR,λb u q=> $a)),`(Value.builtin "BaseException.__getattribute__"),`(c=="object"),`(b=="BaseException"),`(a=="Exception"),`((($a).push $b).update $c $d),`(Option Bool),`(.zv $a "NameError"),`(.zv $a "AttributeError"),`(∀(pn: .D) (xe: $a) (E: $b),$c),`(L2.forget σ),`(S (by rw[<- $a:term];simp)),`(.fields ts),`(Obj.mapFields (·.setIfInBounds 1 (Value.ref q.objs.size))),`({cls:= $a,dict:= $b,data:=.fields $c}),`(if $a then List.replicate $b $c else $d),`(.type "traceback"),`(λhz r=> ?_),`(($a).T.num.n "weight"),`(BK $a $b (λt1 b1 t2 b2=> $c) $d),`(λt1 b1 t2 b2=>.zw $a $b $c),`(λvs H Q E=>.Eh $a $b),`(($a).num.n "weight"),`(($a).num.n "top"),`((.l0).isSome),`(key $a $b (by show $c;omega)),`(($a).bW.n "torn"),`(aa (by rw[$a:term];intro z;cases z)),`(($a).bW.n "beginning"),`(λ_ _ z=>(by cases z)),`(.c (Vaunia.isDigit $a)),`(PySem.W.Fast.te10615649902223480060),`(PySem.Challenge.rw_fractioncode_s01_answers.name)]
def mk0(x:MacroM Term)(a b c d e f g h i j k l m n:Term):Array (MacroM Term):=#[`(by refine $a;refine $b),`(by rw[$a:term];exact $b),`(by refine $a;exact $b),`(by rw[$a:term]at h;cases h),`(by exact aj $a),`(by exact absurd $a $b),`(by rw[0,$a:term,$b:term];refine $c),`(by refine $a;rw[$b:term]),`(by exact .inr $a),`(by rw[$a:term];refine $b),`(by have e: $a= $b := $c),`(by exact .err _),`(by show $a;omega),`(by rw[$a:term,$b:term];exact $c),`(by exact .inl $a),`(by rw[7,$a:term,$b:term];exact $c),`(by rw[5,rfl,$a:term]),`(by by_cases e: $a= $b),`(by refine aj $a),`(by rw[$a:term];rfl),`(by rw[0,$a:term,$b:term];rw[0,$c:term,$d:term]),`(by exact False.elim $a),`(by rw[$a:term]at z;cases z),`(by have:= $a;omega),`(by rw[$a:term,$b:term];rfl),`(by rw[37,$a:term,_,$b:term]),`(by refine ak $a),`(by rw[$a:term]at g;exact $b),`(by rw[$a:term];omega),`(by show $a;rw[$b:term,$c:term]),`(by have: $a := $b;omega),`(by obtain⟨t',rfl⟩:=F;exact $a),`(by rw[<- $a:term];exact $b),`(by cases F;exact $a),`(by intro pins s σ H Q I h;refine $a),`(by rw[0,$a:term,$b:term];exact $c),`(by rw[12,$a<=_]),`(by rw[61,$a= $b,$c:term]),`(by show $a;rw[1,$b:term,$c:term]),`(by have F: $a := $b;have D: $c := $d),`(by rw[21,h]),`(by rw[$a:term]at h;exact $b),`(by rw[257,h]),`(by have kp:Kp $a H $b := $c),`(by refine $a;dsimp only),`(by rw[$a:term]at e;cases e),`(by rw[61,$a:term,$b:term];rfl),`(by refine aR $a),`(by refine $a;show $b),`(by rw[1,z,$a:term]),`(by rw[5,$a:term,by decide]),`(by have N:=.np),`(by by_cases h: $a= $b),`(by cases e;exact $a),`(by rw[1,aC $a,$b:term]),`(by rw[1,e,$a:term]),`(by rw[5,$a:term,iF _]),`(by rw[5,show .sB from L,d7]),`(by rw[7,$a:term,$b:term];refine $c),`(by cases M;exact $a),`(by exact pl $a (by decide+kernel) (by decide+kernel) (by decide+kernel) (by decide+kernel) (by decide+kernel) (by decide+kernel) Y (nofun) (nofun)),`(by show $a;rw[$b:term]),`(by exact .cons $a $b),`(by rw[0,$a:term,bc $b]),`(by rw[105,$a:term,?_]),`(by have e: $a := $b;rw[e]),`(by cases x;exact $a),`(by rw[0,ak $a,ak $b]),`(by rw[20,$a:term,$b:term,$c:term,$d:term];refine $e),`(by rw[$a:term]at q;exact $b),`(by rw[105,af $a,$b:term]),`(by exact .nil),`(by refine .lg $a),`(by rw[$a:term]at h;dsimp only at h),`(by exact C $a (by show $b;omega)),`(by obtain⟨t,rfl⟩:=r;rfl),`(by cases r;rfl),`(by exact kb $a I.bT $b e .s8 h),`(by dsimp only;rw[$a:term]),`(by have h1: $a := $b;have h2: $c := $d),`(by rw[$a:term,$b:term,$c:term];exact $d),`(by exact this),`(by rw[58,$a:term,$b:term,bc $c]),`(by obtain⟨U,f⟩:=bH $a $b),`(by rw[28,bp]),`(by exact two (by decide) $a),`(by rw[46,$a:term,h2]),`(by refine $a;have F: $b :=aN $c nx;rw[80,aC F,aC F,.jm $d nd,$e:term]),`(by obtain⟨t,rfl⟩:=M;exact $a),`(by rw[$a:term];rw[0,$b:term,$c:term]),`(by have g1:=.X h1),`(by have cl:=($a).held.cl),`(by obtain⟨p,g⟩:=bH $a $b),`(by obtain⟨h1,h2⟩:= $a;refine $b),`(by cases h;exact $a),`(by rw[29,$a:term,$b:term,$c:term];rfl),`(by rw[37,$a:term,$b:term,cC]),`(by have h1:= $a;have h2:= $b),`(by rw[$a:term,$b:term];omega),`(by 
 have e: $a :=by omega
 subst e
 rw[14,$b:term])]
def mk1(x:MacroM Term)(a b c d e f g h i j k l m n:Term):Array (MacroM Term):=#[`(by have:= $a;rw[12,$b:term]),`(by rw[60,.op $a]),`(by exact ct $a (by decide+kernel) $b (by decide+kernel) (by decide+kernel) (by decide+kernel) (by decide+kernel) (λn=>by show $c;decide+kernel) (λn=>rfl) (λ_ _ _=>nofun) (λ_ _=>nofun)),`(by cases ly h;rfl),`(by have S: $a :=($b).mpr $c),`(by refine($a).mpr $b),`(by have:= $a;rw[$b:term,$c:term]at this),`(by rw[$a:term]at es;exact $b),`(by rw[$a:term]at g;refine $b),`(by rw[43,$a:term,$b:term,$c:term];refine $d),`(by intro z;injection z with z),`(by rw[7,$a:term,$b:term];rw[0,$c:term,$d:term]),`(by have j: $a := $b;refine $c),`(by rw[$a:term,$b:term,$c:term];omega),`(by have M: $a :=e),`(by rw[3,h2]),`(by refine $a;obtain⟨x,C,fr,rfl,hp,b,a,q⟩:=h;rw[2,$b:term,$c:term]),`(by refine $a;rw[32,$b:term,$c:term]),`(by rw[69,af $a,$b:term]),`(by obtain⟨A,h1⟩:=t.obj;have cl:=T.cy.cl),`(by intro pins s σ H D I h;refine $a),`(by rw[152,$a:term];exact $b),`(by rw[$a:term]at h1;cases h1),`(by have:= $a;rw[$b:term]at this),`(by rw[107,$a:term,.nn $b $c $d $e $f]),`(by rw[5,$a:term,by show $b;omega]),`(by rw[105,.l4 $a,$b:term]),`(by 
 have B: $a :=by have: $b := $c;omega
 rw[show $d from $e,$f:term]at g
 exact $g),`(by rw[10,$a:term,$b:term,$c:term];rw[1,$d:term,$e:term]),`(by have R:= $a;rw[$b:term]at R),`(by rw[10,$a:term,$b:term,by omega]),`(by rw[10,$a:term,$b:term,$c:term];exact $d),`(by rw[21,top]),`(by have cl:= $a;rw[0,$b:term,$c:term]),`(by have h': $a :=h),`(by rw[$a:term]at h;split at h),`(by by_cases F: $a=0),`(by have V: $a :=by simpa using c),`(by rw[7,ak $a,$b:term]),`(by congr 1;omega),`(by have es: $a :=rfl),`(by rw[8,.inr $a]),`(by rw[$a:term]at S;exact $b),`(by intro X hP U F B i pins s σ H E I N st y;subst hP U F),`(by obtain⟨t,e⟩:=(show $a from r)),`(by refine $a;have n: $b := $c),`(by rw[34,$a:term];exact $b),`(by rw[1,jz $a $b $c,$d:term]),`(by obtain⟨σ',H',I,q⟩:=h;exact $a),`(by rw[124,af $a,$b:term,$c:term,$d:term,$e:term,$f:term]),`(by have cl:=($a).bW.cl),`(by obtain⟨q,f1,f2,f3,V,G⟩:=N $a (by simp)),`(by 
 have e: $a :=by simpa using S
 subst e),`(by have cl:=($a).telling.cl),`(by refine $a;obtain⟨i,t,x,tk,us,r,rfl,rfl,⟨_,i,A,val,rfl,hi,X⟩,V,D,y,_,g⟩:=h),`(by rw[$a:term]at hov;obtain⟨rfl,rfl,rfl⟩:=hov),`(by rw[44,$a:term];rw[$b:term]),`(by intro h;injection h with h),`(by have f: $a :=λz=> $b),`(by apply u7 (c:= $a)),`(by have: $a := $b;subst this),`(by rw[$a:term]at g;cases g),`(by have hi:=.dD $a),`(by have h1: $a := $b;have h2:= $c),`(by have fin: $a := $b;refine $c),`(by rw[106,$a:term,$b:term,$c:term];rw[81]),`(by intro _ _ _ _ _ _;first|exact all1 (λ_=>by kernel_rfl)|exact all2 (λ_ _=>by kernel_rfl)|exact sR (λ_ _ _=>by kernel_rfl)|exact sS (λ_ _ _ _=>by kernel_rfl)|exact sT (λ_ _ _ _ _=>by kernel_rfl)|exact all6 (λ_ _ _ _ _ _=>by kernel_rfl)|exact sU (λ_ _ _ _ _ _ _=>by kernel_rfl)|exact sV (λ_ _ _ _ _ _ _ _=>by kernel_rfl)|exact sQ (by kernel_rfl)),`(by rw[20,$a:term,$b:term,$c:term,$d:term];rw[13,$e:term,$f:term,$g:term]),`(by have d: $a := $b;rw[0,$c:term,$d:term]),`(by rw[188,Call_ (jP $a $b $c $d (nP $e $f $g))]),`(by rw[6,ak $a,$b:term,$c:term]),`(by have D:Vals $a $b := $c),`(by obtain⟨z,g,n,r,R,e⟩:=I.oK $a),`(by rw[$a:term,$b:term,$c:term];constructor),`(by obtain⟨g,D,p,hz⟩:=($a).list $b),`(by show $a;unfold dJ;rw[78,$b:term]),`(by refine $a;cases z),`(by rw[$a:term];constructor),`(by simp only[bp]at h;rw[125,$a:term,$b:term]),`(by obtain⟨o',F⟩:=($a).base.there $b $c $d $e;exact $f),`(by obtain⟨s5,k5⟩:=bH $a $b),`(by rw[$a:term]at a;obtain⟨f,ml,c,k,rfl,y⟩:=a;have es: $b := $c),`(by have M:=($a).run;generalize st.run=r at M),`(by have g: $a :=by rw[$b:term,$c:term];rfl),`(by refine $a;obtain⟨i,t,k,n,val,us,rfl,⟨⟨A,hi⟩,V⟩,q⟩:=h;rw[2,$b:term,$c:term]),`(by have C:=($a).trans $b),`(by refine .lg $a;obtain⟨a,b,R,L,w1,w2,rfl,⟨x,t1,d1,rfl,h1,f⟩,⟨y,t2,d2,rfl,h2,k⟩,g⟩:=h;rw[258,$b:term]),`(by obtain⟨dc,h1⟩:=mc.c.obj;refine $a),`(by intro pins s σ H R I h;refine $a),`(by rw[$a:term]at h2;cases h2),`(by obtain⟨t,rfl⟩:=r;exact $a),`(by have B:= $a;have y:= $b),`(by have h1:= $a;rw[$b:term]at h1),`(by have p:=($a).trans $b),`(by rw[90];have U:= $a),`(by have e: $a := $b;rw[$c:term];unfold fU),`(by have g4:=.eQ),`(by rw[43,$a:term,$b:term,$c:term];have up:∀{b o},$d :=λ{b o} h k=>c0 $e $f),`(by rw[20,$a:term,$b:term,$c:term,$d:term];rw[185,$e:term,$f:term]),`(by obtain⟨a,G,e,h⟩:=h;exact $a)]
def mk2(x:MacroM Term)(a b c d e f g h i j k l m n:Term):Array (MacroM Term):=#[`(by subst e;rw[22,$a:term]),`(by have np: $a :=λz=> $b),`(by rw[39,$a:term,by omega,$b:term,by omega]),`(by have en: $a :=by omega),`(by have: $a :=by omega),`(by subst e;rw[122,$a:term];rw[189,$b:term]),`(by have h1: $a := $b;refine $c),`(by have: $a := $b;rw[$c:term]),`(by have F: $a := $b;rw[$c:term]),`(by rw[$a:term]at M;cases M),`(by rw[3,$a:term];exact $b),`(by have gli:=.X $a),`(by rw[$a:term]at S;cases S),`(by rw[45,$a:term];exact $b),`(by rw[20,$a:term,$b:term,$c:term,$d:term];exact $e),`(by rw[$a:term]at q;cases q),`(by obtain⟨as,hr⟩:= $a;exact $b),`(by refine $a;obtain⟨p,G,v0,v1,f,rfl,hp,q⟩:=h),`(by rw[9,$a:term,ak $b]),`(by have W: $a := $b;refine $c),`(by refine $a;rw[123,$b:term,$c:term]),`(by rw[2,ak $a,$b:term]),`(by have I:($a).TypeIs $b $c := $d),`(by obtain⟨u,rfl,t,rfl⟩:=vals1 $a),`(by intro pins s σ H Q I h;rw[0,$a:term,$b:term]),`(by have key:∀r: $a,$b :=λr=> $c),`(by have: $a := $b;rw[$c:term]at this;cases this),`(by refine $a;rw[38,$b:term,$c:term,$d:term]),`(by obtain⟨a,l,rfl⟩:=mE $a),`(by obtain⟨a,e,rfl⟩:=mE $a),`(by obtain⟨_,_,_,q⟩:=L;rw[21,$a:term]),`(by rw[$a:term,$b:term]at U;subst U;exact $c),`(by have: $a := $b;exact_mod_cast this),`(by rw[hst]at B es),`(by 
 intro A
 refine ke (.dz $a) ?_
 try dsimp only[Cx.gB]
 exact $b),`(by rw[255,$a:term,$b:term];rw[375,$c:term,$d:term];exact q.of (show $e from oV $f) $g s $h $i $j),`(by refine $a;have a:=($b).run),`(by have t: $a := $b;rw[91,$c:term]),`(by obtain⟨C,D⟩:=bH $a $b),`(by rw[$a:term,$b:term]at S;cases S),`(by rw[$a:term]at st;exact $b),`(by intro X d U F B i pins s σ H E I N st y;subst d U F;rw[151,$a:term]),`(by rw[$a:term]at h';simp only[nH,W]at h'),`(by obtain⟨g,r,pl,hz⟩:= $a;refine $b;rw[13,show $c by simp,$d:term,$e:term]),`(by intro d pins s σ H Q I h;refine $a),`(by have U: .aB $a := $b;refine $c),`(by rw[0,$a:term,.mX (decide $b) $c $d]),`(by intro y g;rcases bu.mp g with rfl|g),`(by rw[15,$a:term,$b:term,.now]),`(by rw[191,$a:term,$b:term];have s:= $c),`(by have jc:=T.gb "range"),`(by refine $a;have s: $b := $c;rw[1,$d:term,$e:term]),`(by have cl:= $a;have s:= $b;have r:= $c),`(by obtain⟨n,rfl⟩:∃m:Nat,$a := $b),`(by generalize U:upd X l _=H5;rw[92,$a:term,$b:term]),`(by rw[$a:term]at a;cases a;rw[47,$b:term]),`(by rw[$a:term]at D;cases D),`(by obtain⟨a,rfl⟩:=gL $a),`(by obtain⟨C,m,c,e,B,j,l⟩:=f.mL $a),`(by refine $a;rintro i m σ H ⟨rfl,hi,p⟩),`(by have V: $a :=by unfold Vaunih.work;rw[$b:term]),`(by rw[10,$a:term,$b:term,by rw[$c:term];rfl]),`(by obtain⟨j,rfl⟩:= $a;refine $b),`(by simp only[dB]at h;rw[50,$a:term]),`(by rw[$a:term]at z;obtain⟨rfl,rfl,rfl⟩:=z),`(by subst U;subst D;rw[$a:term]at z;obtain⟨rfl,rfl,rfl⟩:=z;obtain⟨S,a,G,W,pl,u,M,ps,rfl,h1,h2,h3,h4,h5,j⟩:=n),`(by rw[89,$a:term,$b:term,$c:term];rw[89,$d:term,$e:term,$f:term]),`(by rw[20,$a:term,$b:term,$c:term,$d:term];rw[68,$e:term,$f:term,$g:term,$h:term,$i:term]),`(by rw[30,$a:term,by simpa using t]),`(by obtain⟨z,hz,rfl⟩:=j9.mp $a),`(by obtain⟨y,g,rfl⟩:=j9.mp $a),`(by obtain⟨s',acc,k,L⟩:=h;rw[$a:term,$b:term]at W),`(by obtain⟨j,F,p,f,k,D⟩:=fin $a $b $c $d $e),`(by rw[123,$a:term,$b:term];omega),`(by have es: $a := $b;rw[$c:term,$d:term]at g),`(by rw[0,$a:term,$b:term];dsimp only),`(by unfold minus;split),`(by rw[$a:term]at M;rw[59,$b:term]),`(by dsimp only at h;split at h),`(by intro x W;rcases bu.mp W with rfl|W),`(by intro x W;cases W),`(by have a: $a :=by rw[$b:term];exact $c),`(by rw[$a:term,$b:term];rw[12,$c:term]),`(by rw[10,$a:term,$b:term,$c:term];rw[$d:term]at k),`(by refine $a;rintro i m H ⟨rfl,hi,p⟩),`(by rw[join_list,$a:term,$b:term,$c:term]),`(by rw[192,qG (l:= $a) (f:= $b) (m:= $c) $d,$e:term]),`(by cases cX.mp V;exact $a),`(by unfold Vaunia.shownInt;split),`(by rw[$a:term]at zz;cases zz),`(by obtain⟨G,fs,o,R,L,N⟩:=l.ins;rw[0,$a:term,$b:term]),`(by have:= $a;rw[<- $b:term]at this),`(by have D: $a := $b;rw[1,$c:term,$d:term]),`(by rw[185,$a:term,$b:term];rw[2,$c:term,$d:term]),`(by have D:= $a;rw[$b:term]at D),`(by cases x;cases r;exact $a),`(by cases x;rw[190,$a:term]),`(by cases M;obtain⟨g,r,V,hz⟩:= $a),`(by obtain⟨os,d,G,B⟩:=id $a),`(by rw[259,$a:term];by_cases j: $b)]
def mk3(x:MacroM Term)(a b c d e f g h i j k l m n:Term):Array (MacroM Term):=#[`(by have M: $a :=by simpa using S),`(by rw[34,$a:term];subst ex),`(by dsimp only;rw[$a:term,$b:term]),`(by have F: $a :=by rw[$b:term,$c:term]),`(by rw[7,$a:term,$b:term];rw[12,$c:term]),`(by obtain⟨vs,rest⟩:=y;obtain⟨a,b,c,e⟩:= $a),`(by obtain⟨h1,h2⟩:= $a;have h3:= $b),`(by rw[$a:term,$b:term];constructor),`(by have h': $a := $b;rw[25,$c:term,$d:term]),`(by obtain⟨σ',H',L,q⟩:=q;exact $a),`(by rw[0,$a:term,$b:term];rw[121,$c:term,$d:term]),`(by have R: $a :=by rw[<- $b:term];exact $c),`(by obtain⟨oc,U,kV,z,pm,q,G,ct,i,rfl,d,W⟩:=F.ex;exact $a),`(by obtain⟨e,n,ne,nf,d⟩:=($a).pin $b $c),`(by rw[$a:term]at D;obtain⟨u',U,q⟩:= $b;refine $c),`(by rw[$a:term]at F;cases F;rw[256,$b:term];exact $c),`(by obtain⟨sl,F⟩:=($a).base.slot $b $c $d $e $f $g;exact $h),`(by rw[$a:term]at B;cases B),`(by have h2: $a := $b;have h3: $c := $d),`(by have s:= $a;rw[0,$b:term,$c:term]),`(by obtain⟨a1,a2,a3⟩:=xH $a $b $c),`(by rw[186,$a:term,$b:term];obtain⟨g1,g2⟩:=mB (q:= $c) $d $e),`(by rw[79,$a:term,$b:term,$c:term,$d:term];omega),`(by rw[$a:term];dsimp only),`(by rw[$a:term]at h2;omega),`(by push_cast at this;grind),`(by have: $a :=by simp only[fQ,fR,fk]),`(by rw[$a:term,$b:term]at z;cases z),`(by rw[aa $a]at es;rw[253,$b:term,$c:term]),`(by have bad: $a :=λS l s=> $b;rw[18,$c:term]),`(by obtain⟨L,bl,rn,ck,dh,x⟩:=id $a),`(by unfold Vaunih.numbers;rw[$a:term,$b:term,$c:term];rw[36,$d:term]),`(by rw[254,$a:term,$b:term];exact q.of (show $c from oV $d) $e s $f $g $h),`(by have o:= $a;obtain⟨L,bl,rn,ck,v,x⟩:= $b),`(by rw[254,$a:term,$b:term];rw[149,$c:term,$d:term,$e:term,$f:term,$g:term,$h:term]),`(by obtain⟨hz,i,D⟩:=jI $a;refine $b;rw[187,$c:term]),`(by refine $a;obtain⟨hd,ca,nl,F,xs,j,st,c,r,rfl,n,mc,d,q⟩:=h),`(by have A: $a := $b;have j: $c := $d;exact $e),`(by obtain⟨f,R,c,k,e,y⟩:=M;have l:= $a),`(by obtain⟨B,k⟩:= $a;rw[0,$b:term,$c:term]),`(by obtain⟨G,h1⟩:=N.obj;have cl:= $a),`(by obtain⟨o,e,c,d⟩:= $a;exact $b),`(by obtain⟨u,hu,ru⟩:= $a;rw[151,$b:term]),`(by refine($a).jq (λc v B q=> $b) $c $d;rcases B with z|z),`(by obtain⟨o,es,i,d,r⟩:=j;exact $a),`(by refine I.step (g':= $a) (d':= $b) (ch:= $c) $d (λb o _ _ B e _=> $e) (λb o _ _ B e _=> $f) $g (λb o B e=> $h) $i $j (λb ps e=> $k) (λm j=> $l) $m $n),`(by have g:∀b u,$a :=λb u e z=> $b),`(by refine $a;obtain⟨e,y⟩:=y;subst e;exact $b),`(by have q:= $a;by_cases j: $b),`(by rw[0,$a:term,$b:term];have fin: $c := $d),`(by cases h;cases r;exact $a),`(by obtain⟨g,U,pl,hz⟩:= $a;have d:= $b),`(by obtain⟨u,rfl,M⟩:= $a;cases M),`(by obtain⟨j,h1,h2,h3,h4,h5⟩:=zT $a),`(by intro pins s σ H Q I j;refine $a),`(by obtain⟨t,q⟩:=(show $a from M);cases q;rw[77,$b:term,$c:term]),`(by rw[120,$a:term];subst ex;obtain rfl: .hH $b $c :=M),`(by rw[.zl $a (if $b then $c else $d)];by_cases G: $e),`(by rw[34,$a:term];subst e),`(by obtain⟨t,rfl⟩:=M;rw[31,$a:term]),`(by rw[34,$a:term];obtain⟨c,rfl,R⟩:=R;cases i),`(by refine($a).jq $b $c $d;rcases B with rfl|B),`(by show $a;unfold VaunihNeutral.text?;rw[19,$b:term]),`(by have j: $a := $b;unfold VaunihNeutral.text? at j;split at j),`(by obtain⟨I,h1⟩:=l.obj;rw[153,$a:term]),`(by rw[10,$a:term,$b:term,$c:term];rw[$d:term]at c),`(by have U: .aB $a := $b;rw[0,$c:term,$d:term]),`(by have i:= $a;obtain⟨d,h2⟩:=i.obj),`(by obtain⟨p,v,q,u,rfl,rfl⟩:=Ap $a),`(by rw[154,$a:term];obtain⟨a,b,rfl,rfl⟩:= $b),`(by intro pins s σ H D I h;rw[$a:term]),`(by obtain⟨l,T,N,A,p5⟩:= $a;exact $b),`(by obtain⟨σ',H',Q,V⟩:=t;exact $a),`(by refine $a;obtain⟨a,b,t1,b1,v1,t2,b2,f,rfl,⟨l,N⟩,⟨d,S⟩,aw,F,h1,h2⟩:=h;have T:= $b),`(by rw[150,$a:term];have nr:= $b),`(by generalize U:upd H l _=H5;rw[92,$a:term,$b:term])]
def mR(i:TSyntax `ident)(f:Nat->Term):MacroM Term:=let s:=i.getId.toString;if s.length>2 then Macro.throwUnsupported else let n:=s.foldl (λn c=>n*62+((("0123456789abcdefghijklmnopqrstuvwxyzABCDEFGHIJKLMNOPQRSTUVWXYZ".toList.idxOf? c)).getD 62)) 0;let x:=Macro.throwUnsupported;(((#[mq0,mq10,mq11,mq12,mq13,mq14,mq15,mq16,mq17,mq18,mq19,mq20,mq21,mq22,mq23,mq24,mq25,mq26,mq27,mq28,mq29,mq30,mq31,mq32,mq33,mq34,mq35,mq36,mq37,mq38,mq39,mq40,mq41,mq42,mq43,mq44,mq45].getD (if n<62 then 0 else n/62-9) λ_ _ _ _ _ _ _ _ _ _ _ _ _ _ _=>#[]) x (f 0) (f 1) (f 2) (f 3) (f 4) (f 5) (f 6) (f 7) (f 8) (f 9) (f 10) (f 11) (f 12) (f 13)).getD (if n<62 then n-10 else n%62) x)
def mD(t:Syntax):Bool:=t.isOfKind ``Parser.Term.dotIdent||t.isOfKind ``Parser.Term.app&&t[0].isOfKind ``Parser.Term.dotIdent
def mL(r:Syntax):MacroM Syntax:=do
 let mut b:=#[];let mut c:=false
 for x in r[1].getSepArgs do
  let mut t:=x
  for _ in [:9] do
   if mD t then
    if let some u←expandMacro? t then t:=u
  if mD x then
   match t with
   |`(($y,$z,*))=>b:=b.push y++z.getElems;c:=true
   |_=>b:=b.push ⟨x⟩
  else b:=b.push ⟨x⟩
 if c then`(⟨$b,*⟩)else Macro.throwUnsupported
def mT(q:Nat)(f:Nat->Term):MacroM Syntax:=do let x:=Macro.throwUnsupported;let t←((#[mk0,mk1,mk2,mk3].getD (q/100) λ_ _ _ _ _ _ _ _ _ _ _ _ _ _ _=>#[]) x (f 0) (f 1) (f 2) (f 3) (f 4) (f 5) (f 6) (f 7) (f 8) (f 9) (f 10) (f 11) (f 12) (f 13)).getD (q%100) x;`(tactic|($(⟨t.raw[1]⟩):tacticSeq))
end
local macro_rules
|`(.$i $s*)=>mR i λk=>⟨s.raw.getD k .missing⟩
|`(.$i)=>mR i λ_=>⟨.missing⟩
|`(⟨$s,*⟩)=>do mL (←`(⟨$s,*⟩))
local macro_rules
|`(tactic|rw[$n:num,$[$s:term],*])=>mT n.getNat λk=>s.getD k ⟨.missing⟩
|`(tactic|rw[$n:num])=>mT n.getNat λ_=>⟨.missing⟩
open PySem PySem.W
open_shared topS for PySem.Challenge.rw_fractioncode_s01_answers.prog leaving 0
open PySem PySem.W
abbrev pP:Program:=PySem.Challenge.rw_fractioncode_s01_answers.prog
abbrev p0:Pos:=⟨0,0,0,0⟩
abbrev bB: .e2:=behindTheImports pP
noncomputable abbrev cB:Code:=.body bB topS.env_1
abbrev qs:Option PySem.Value:=.I 6
noncomputable abbrev g_(P:Params):Heap:=absHeap .FR 1506 {}
theorem Ux(w:World)(os:OsState):topGo treeTable pP w 11 qs 12 ⟨.qK,.qJ,boot_drawn,boot_toks,os⟩ (topStub pP)=
  .ar (SharedT.mk (topS.tree_4 .dc) 15 {} .qJ {} 187 os).abs ⟨denote treeTable cB,cB,p0,[.FQ]⟩:=by
 kernel_rfl
theorem Mu(w:World)(s:Shared):segRun treeTable pP w 11 qs 1 1 s (blockOf bB topS.env_1 cB p0 [.FQ])=some (.next,s,cB,p0):=by kernel_rfl
theorem fw(w:World)(s:Shared)(q:Pos):topRun treeTable pP w 11 qs 2 s ⟨doneF .next,cB,q,[.FQ]⟩=some s:=by kernel_rfl
theorem Vn:∃M,.FP M 24432/\∀w os,topRun treeTable pP w 11 qs M ⟨.qK,.qJ,boot_drawn,boot_toks,os⟩ (topStub pP)=some ⟨.h6,.qJ,{},2445,os⟩:=by refine⟨_,?_,λw os=>go_top (Ux w os) (piece_block (Mu w _) (topS.chain pP bB w os [] 2 _ (piece_nil (fw w _ _))))⟩;decide
open PySem PySem.W PySem.Calls PyProof.Rows
def q0:Program:={pP with main:={pP.main with body:=[pP.main.body.getD 197 (.Pass p0)]}}
def je: .H:=(["TAKES","WITH_SMALL_NUMBER","GIVING_NOTHING","Instruction","Block","is_word","taken_sorts","given_count","JUMPING","Passage","behind_left_out","is_no_right_block","is_no_right_local","fault_where_reached","fault_at","more_places","hand_on_from","block_fault","code_fault","block_heights","Refused","DividedByZero","NoRoot","TooHeavy","NoCallLeft","TooDeep","WrongSort","Broken","Number","Truth","Chain","Pair","Function","empty_chain","longer_chain","chain_of","chain_values","MOST_DIGITS","MOST_WEIGHT","MOST_DIVISIONS","TooLarge","shown_bound","common_divisor","are_digits","read_fraction","fraction_text","light_enough","added","subtracted","multiplied","quotient_weight","divided","floored","rest_of","WORKS","worked_out","raised","whole_root","rooted","is_less","is_same","MOST_BYTES_inputs","MOST_OPEN","MARKS","INPUT_WEIGHT","NoInputs","pieces_of","Opened","Inputs","read_inputs","MOST_BYTES_reading","MOST_BLOCKS","MOST_INSTRUCTIONS","MOST_MADE_WITH","MOST_SMALL","WrongAt","token_places","Tokens","read_small","read_power","read_num","read_instruction","read_block","read_code","give_num","give_true","give_false","give_nil","give_fn","give_pair","give_fst","give_snd","give_cons","give_worked_out","give_pow","give_root","give_less","give_same","GIVERS","only_gives","given","MOST_DEPTH","BETWEEN_MARKS","GOES_ON","ENDED","WAS_REFUSED","RESULT","ONE_VALUE","FUNCTION_AND_VALUE","NOTHING","BlockFrame","FoldFrame","Run","moved","with_in_hand","give_to","call","do_get","do_bind","do_free","do_skip","do_unless","do_part","do_call","do_fold","do_ret","DOERS","next_instruction","taken_from","step_block","step_fold","do_step","do_steps","do_all_steps","go_back","frames_of","instruction_words","code_text","MOST_PARTS","MOST_BYTES_telling","BLOCK_FRAME","FOLD_FRAME","Telling","with_commas","plain_text","opened","write_values","value_text","frame_text","frame_numbers","BLANK","FIRST_SIGN","SIGNS","sign_of","text_of","row_of","MOST_BUDGET","MOST_STEPS","OUT_OF_RANGE","NOT_THERE","NO_RUN","NO_CODE","TOO_FEW_STEPS","TOO_LARGE_TO_SHOW","NO_INPUTS_TEXT","OTHER_COUNT","NOT_ENDED","Held","Calls","load_as","load","check","show","heights","begin","standing","step","run","back","answer","frames","look","count","CALLS"]: .tL).map .Bb
noncomputable abbrev jU(P:Params)(os:OsState):Shared:=⟨g_ P,.qJ,{},2445,os⟩
theorem P7(w:World): .c (staticsOk (.FN pP) .qK .h6):=by kernel_rfl
theorem PR(w:World): .c (namesBound pP .h6):=by kernel_rfl
theorem PM(w:World)(os:OsState): .c (gensDone .iF):=by kernel_rfl
theorem PQ(w:World): .c (laidKept .qK .h6):=by kernel_rfl
theorem P4(w:World)(os:OsState):seen (.FO (recsOf q0)) (ownsOf q0) [] {.iF with gens:= #[]}=expectedOf q0:=by kernel_rfl
theorem PH(w:World):(.h6).bltView=bltViewBooted:=by kernel_rfl
open PySem PySem.W PySem.Calls PyProof.Rows
theorem PN(w:World)(os:OsState): .c ((.h6).keysOk (.Ba je) (.FO (recsOf q0)) (.cC (litsOf q0)) (.FO (clssOf q0 (.Ba je)))):=by kernel_rfl
theorem PD(w:World): .c ((.h6).accountedOkI (.FN pP)):=by kernel_rfl
theorem PU(w:World): .c ((.h6).isNs .hL):=by kernel_rfl
theorem PV(w:World): .c ((.h6).isNs builtinsNs):=by kernel_rfl
theorem P8(w:World): .c (tablesOk q0 .h6):=by kernel_rfl
theorem Qb(w:World)(os:OsState): .c (xlAt q0 [] .iF&&recOk [] .iF):=by kernel_rfl
theorem P_(w:World)(os:OsState): .c (tabsOk q0 .iF):=by kernel_rfl
theorem PY(w:World)(os:OsState):pinSeenD q0 (drecsOf q0) .iF=pinGoodD (drecsOf q0):=by kernel_rfl
theorem P0(w:World)(os:OsState):plainSeenE q0 (.Ba je) .iF=plainGoodE q0 (.Ba je):=by kernel_rfl
theorem PZ(w:World)(os:OsState):plainSeenD q0 je .iF=plainGoodD q0 je:=by kernel_rfl
theorem Qa(w:World)(os:OsState):wideSeen q0 .iF=wideGood q0:=by kernel_rfl
theorem PJ(w:World)(os:OsState):clsSeenW q0 je .iF=clsGoodW q0 je:=by kernel_rfl
theorem P6(w:World):((.qK).isNs .hL&&(Array.mk ([]:List GenState)).size==0,(.qK).objs.size,(.qK).nsMap .hL "__annotations__")=(true,11,qs):=by kernel_rfl
theorem PX:opening pP=plainProg pP.main.scope.names:=by kernel_rfl
theorem PL(s:Shared):fenceModules? pP s=some s:=by kernel_rfl
open PySem PySem.W PySem.Calls PyProof.Rows
lay_quick PySem.Program.tablesWhole PySem.W.looksOpen PySem.Challenge.pw_fractioncode_s01_answers
open PySem PySem.W PySem.Calls PyProof.Rows
theorem Yo: .c PySem.Challenge.pw_fractioncode_s01_answers.tablesWhole:=(congr (dZ id PySem.W.Fast.te6922068901642942510) .JG).trans (by kernel_rfl)
theorem Qo: .c (looksOpen .FJ):=(congr PySem.W.Fast.te12908688711261696721 .JG).trans (by kernel_rfl)
theorem IU: .c PySem.Challenge.rw_fractioncode_s01_answers.wellSaid:=by have h:=Qo;unfold OpenSpec.wellSaid;show .c (looksOpen .FJ&&_&&_&&_&&_&&_);rw[h];kernel_rfl
theorem Ri: .c (chainsOk q0&&opensWell pP):=by kernel_rfl
theorem Mq:pP.bare:=⟨Y,Y,.f6,Yo⟩
open PySem PySem.W PySem.Calls PyProof.Rows
theorem Yv{b c f g h i k l n:Type}{a1 b1:b}{a2 b2:c}{a3 s:f}{a4 a:g}{a5 p:h}{a6 d:i}{a7 S:k}{a8 e:l}{a9 X:n}(h1:a1=b1)(h2:a2=b2)(h3:a3=s)(h4:a4=a)(h5:a5=p)(j:a6=d)(m:a7=S)(R:a8=e)(F:a9=X):(a1,a2,a3,a4,a5,a6,a7,a8,a9)=(b1,b2,s,a,p,d,S,e,X):=by subst h1 h2 h3 h4 h5 j m R F;rfl
theorem Me{a b c d:Bool}(h1: .c a)(h2: .fj)(h3: .c c)(h4: .c d): .c (a&&b&&c&&d):=by subst h1 h2 h3 h4;rfl
theorem Mf{a b c d e f g:Bool}(h1: .c a)(h2: .fj)(h3: .c c)(h4: .c d)(h5: .c e)(j: .c f)(m: .c g): .c (a&&b&&c&&d&&e&&f&&g):=by subst h1 h2 h3 h4 h5 j m;rfl
abbrev D8: .c1 Shared:=λs=>xlAt q0 [] s&&recOk [] s
theorem Vw(w:World)(os:OsState):openSeen q0 je (.FN pP) D8 true .iF=openGood q0 je:=Yv (P4 w os) (PH w) (Mf (PN w os) (PD w) (PU w) (PV w) (P8 w) (Qb w os) Y) (P_ w os) (PY w os) (P0 w os) (PZ w os) (Qa w os) (PJ w os)
theorem Qj:LeftO pP q0 je D8 (λs=>.G) (λw=>.h6) 24432:=by obtain⟨M,y,run⟩:=Vn;rw[2,LeftO.of_pieces (H₀:=boot_heap) (H₁:=g_) (gs₀:=.qJ) (gs₁:=.qJ) (d₀:=boot_drawn) (d₁:={}) (k₀:=boot_toks) (k₁:=2445) (m₀:=11) (ann:=qs) (M:=M) (boot_open PX (by decide) PL) P6 run y (λw=>funext λos=> ?_),Prod.ext (Me (P7 w) (PR w) (PM w os) (PQ w)) (Prod.ext (Vw w os) Y)]
theorem Ov:∃args,.c (PySem.Challenge.rw_fractioncode_s01_answers.pre args)/\ .c (WData.layableAll args):=⟨[.list [.int 2]],by decide+kernel,by decide+kernel⟩
namespace L2
open PySem PySem.Spec PyProof.Rows
abbrev Key:=Sum Int Str
def qM:Key-> .c1 .aw
 | .inl k,v=>Value.isInt k v
 | .inr x,v=>Value.isStrOf x v
def Pt(w:World):Key->Int
 | .inl k=>hashInt k
 | .inr x=>hashStr w x
theorem lu:∀{k:Key} {v:Value},.c (qM k v)->(∃i t,k=Sum.inl i/\v= .rI t)∨(∃x t,k=Sum.inr x/\v= .ys x)
 | .inl i,v,h=>by
  obtain⟨t,e⟩:=Value.isInt_shape (k:=i) (v:=v) h
  rw[14,⟨i,t,Y,e⟩]
 | .inr x,v,h=>by
  obtain⟨t,e⟩:=Value.isStrOf_shape (x:=x) (v:=v) h
  rw[8,⟨x,t,Y,e⟩]
theorem Pu(i:Int)(t:Tok): .c (qM (.inl i) (.hX i)):=by simp[qM,Value.isInt]
theorem Pw(x:Str)(t:Tok): .c (qM (.inr x) (.str x t)):=by simp[qM,Value.isStrOf]
theorem Px(a b:Int): .a9 (.IH a) (Sum.inl b)=(a==b):=by
 rw[17,a,b]
 ·subst e;simp
 ·have h:¬(.IH a)=Sum.inl b:=λq=>e (Sum.inl.inj q);rw[1,aW h,(lg.mpr e).symm]
theorem PB(a b:Str): .IG (.rS a) b= .a9 a b:=by
 rw[17,a,b]
 ·subst e;simp
 ·have h:¬(.rS a)=Sum.inr b:=λq=>e (Sum.inr.inj q);rw[aW h,aW e]
theorem Py(a:Int)(b:Str): .IG (.IH a) b= .a:=aW (λq=>nomatch q)
theorem Pz(a:Str)(b:Int): .a9 (.rS a) (Sum.inl b)= .a:=aW (λq=>nomatch q)
def ku(prog:Program)(w:World):PySem.KeyKind prog w Key where
 is:=qM
 hash:=Pt w
 inj:=λv a b N S=>by
  rcases lu N with⟨i,t,rfl,rfl⟩|⟨x,t,rfl,rfl⟩
  ·rcases lu S with⟨j,u,rfl,e⟩|⟨y,u,rfl,e⟩
   ·injection e with e1 _;rw[e1]
   ·exact nomatch e
  ·rcases lu S with⟨j,u,rfl,e⟩|⟨y,u,rfl,e⟩
   ·exact nomatch e
   ·injection e with e1 _;rw[e1]
 byValue:=λk v h=>by
  rcases lu h with⟨i,t,rfl,rfl⟩|⟨x,t,rfl,rfl⟩<;>rfl
 pyHash:=λD h=>by
  rcases lu D with⟨i,t,rfl,rfl⟩|⟨x,t,rfl,rfl⟩
  ·exact wpAny_pyHash_int h
  ·exact wpAny_pyHash_str h
 eqBool:=λL D h=>by
  rcases lu L with⟨i,t,rfl,rfl⟩|⟨x,t,rfl,rfl⟩
  ·rcases lu D with⟨j,u,rfl,rfl⟩|⟨y,u,rfl,rfl⟩
   ·rw[41,Px,wpAny_eqBool_int h]
   ·rw[41,Py,SeqAt.EqAt.int_str i t y u _ _ _ _ h]
  ·rcases lu D with⟨j,u,rfl,rfl⟩|⟨y,u,rfl,rfl⟩
   ·rw[41,Pz,SeqAt.EqAt.str_int x t j u _ _ _ _ h]
   ·rw[41,PB,wpAny_eqBool_str h]
 «strs»:=λk x t v h=>by
  rcases lu h with⟨i,u,rfl,e⟩|⟨y,u,rfl,e⟩
  ·exact nomatch e
  ·injection e with e1 _
   subst e1
   cases v<;>rfl
theorem QH(prog:Program)(w:World)(i:Int)(t:Tok): .yt prog w (.inl i) (.hX i):=Pu i t
theorem QI(prog:Program)(w:World)(x:Str)(t:Tok): .yt prog w (.inr x) (.str x t):=Pw x t
inductive V where
 |au|bl (b:Bool)|int (i:Int)|str (x:Str)|gp (b: .FH)|my (b:UInt64)|ref (a:Addr)|ty (n:String)
 deriving DecidableEq
def RelV: .bk V .aw
 | .au,u=>u= .fq
 | .bl b,u=>u=Value.bool b
 | .int i,u=>∃t,u= .rI t
 | .str x,u=>∃t,u= .ys x
 | .gp b,u=>∃t,u=Value.bytes b t
 | .my b,u=>∃t,u= .Ih b
 | .ref a,u=>.hH u a
 | .ty n,u=>u=Value.type n
abbrev Vals: .bk .s .q:=Paired RelV
theorem Vals.length{xs: .s}{us: .q}(r: .eG): .r= .a8:=b_ r
theorem Vals.get:∀{xs: .s} {us: .q} {i:Nat} {x:V},.eG-> .iN= .aa->∃u,.a1 us= .V/\ .kK
 |_,_,_,_,.nil,e=>by simp at e
 |_,_,0,_,.cons r _,e=>by simp at e;subst e;exact⟨_,Y,r⟩
 |_,_,i+1,x,.cons _ t,e=>by
  obtain⟨u,h1,h2⟩:=Vals.get (i:=i) (x:=x) t (by simpa using e)
  exact⟨u,by simpa using h1,h2⟩
theorem Vals.set{x:V}{u:Value}(r: .kK):∀{xs: .s} {us: .q} (i:Nat),.eG->Vals (xs.set i x) (us.set i u)
 |_,_,_,.nil=>.nil
 |_,_,0,.cons _ t=>.cons r t
 |_,_,i+1,.cons q t=>.cons q (Vals.set r i t)
theorem Vals.append:∀{xs ys: .s} {us ws: .q},.eG-> .yF ws->Vals (xs++ys) (us++ws)
 |_,_,_,_,.nil,s=>s
 |_,_,_,_,.cons r t,s=>.cons r (Vals.append t s)
theorem Vals.take:∀{xs: .s} {us: .q} (n:Nat),.eG->Vals (xs.take n) (us.take n)
 |_,_,0,_=>.nil
 |_,_,_+1,.nil=>.nil
 |_,_,n+1,.cons r t=>.cons r (Vals.take n t)
theorem Vals.drop:∀{xs: .s} {us: .q} (n:Nat),.eG->Vals (.eS n) (us.drop n)
 |_,_,0,r=>r
 |_,_,_+1,.nil=>.nil
 |_,_,n+1,.cons _ t=>Vals.drop n t
def gG: .bk .s6 .gz
 |some v,some u=>.cA
 |none,none=>True
 |_,_=>.bU
def KV{κ:Type}: .bk (.oL V) (.oL .aw):=Paired λ(p:κ×V) (q:κ×Value)=>p.1=q.1/\RelV p.2 q.2
def kV:Key->V
 | .inl i=>.aL
 | .inr x=>.iD
inductive HO where
 |lst (xs: .s)
 |tup (xs: .s)
 |dK (kvs: .xr V)|dT (kvs: .hF (List Key) V)
 |set (S: .c1 Int) (n:Nat)
 |ins (C dx:Addr) (fs: .c6)
 |own (x:Addr)
 |xd (fs: .c6)
 |met (f x:Addr)
 |Bz (lo hi:Int)
 |aD (o:Obj) (u:HO)
 |pB (ps: .bf)
 |ext (φ: .ap Heap)
abbrev Hp:=.fd Addr HO
def upd(H:Hp)(a:Addr)(o:HO):Hp:=λb=>.s9 b a .l (H b)
theorem aB{H:Hp}{a:Addr}{o:HO}:upd H a o a= .l:=by unfold upd;rw[.M]
theorem aC{H:Hp}{a b:Addr}{o:HO}(h:b≠a):upd H a o b=H b:=by unfold upd;rw[.dP]
theorem bx{H:Hp}{a b:Addr}{o u:HO}(h:H a= .l)(h':H b= .V)(d:o≠u):a≠b:=by intro e;subst e;rw[h]at h';exact d (eD h')
theorem aN{H:Hp}{a b:Addr}{o:HO}(h:H a= .l)(h':H b=none):a≠b:=by intro e;subst e;rw[h]at h';cases h'
section
variable(P:Program)(w:World)
def dk(H:Hp)(h:Heap)(a:Addr): .ap HO
 | .lst xs=>.r<= .W/\ .HY (.h3 g/\ .eA (.zk n))
 | .tup xs=>.r<= .W/\∃g: .q,.h3 g/\IsTup h a .aO
 | .dK F=>.aT F/\(.BH a)= .a/\∃vs,KV F vs/\h.DictOf (ku P w) a vs
 | .dT F=>.aT F/\(.BH a)= .a/\∃xs: .hF (List Key) (Addr× .aw),
   Paired (λ(p:List Key×V) (q:List Key×Addr×Value)=>p.1=q.1/\H q.2.1= .aE (p.1.map kV)/\RelV p.2 (.bA q)) F xs/\
   ∃o es i,.tI a/\o.ExactDict/\ .gZ= .dict es i/\es.toList=xs.map (entryOfKey (tupleKind (ku P w)))/\(.cC xs).Nodup
 | .set S n=>h.SetOf (intKind P w) a S n
 | .ins C dx fs=>H dx= .kN a/\ .yh<=1000/\dx≠a/\ .eA (.oR dx)/\
   ∃mA,h.Ns1 dx mA/\(∀f,.Dj fs f (mA f))/\ .Ij (.cC fs)
 | .own _=>∃o,.tI a
 | .xd fs=>∃mA,h.Ns1 a mA/\∀f,.Dj fs f (mA f)
 | .Bz lo hi=>∃t u v,.eA (.gB "range" (.vj lo (.mC hi) 1 v))
 | .aD o u=>.tI a/\dk H h a u
 | .pB ps=>.eA (.Dx .none ps)
 | .met f x=>.eA (.IF .a4)
 | .ext φ=>φ h/\(∃o,.tI a)/\∀h1 h2:Heap,φ h1->(∀o,h1.get? a= .l->h2.get? a= .l)->φ h2
def cU(H:Hp)(h:Heap):Prop:=∀a o,H a= .l->dk P w H h a o
end
section
variable{P:Program}{w:World}{H H':Hp}{h h':Heap}{a:Addr}{o:HO}
theorem dk.lt(x:dk P w H h a o):a< .bD:=by
 cases o with
 |lst xs=>obtain⟨_,_,_,_,e⟩:=x;exact bM e
 |tup xs=>obtain⟨_,_,_,p⟩:=x;exact p.lt
 |dK F=>obtain⟨_,_,_,_,o,_,_,e,_⟩:=x;exact bM e
 |dT F=>obtain⟨_,_,_,_,o,_,_,e,_⟩:=x;exact bM e
 |set S n=>obtain⟨o,_,_,_,e,_⟩:=x;exact bM e
 |ins C dx fs=>obtain⟨_,_,_,e,_⟩:=x;exact bM e
 |own y=>obtain⟨_,e⟩:=x;exact bM e
 |xd fs=>obtain⟨_,⟨_,_,_,e,_⟩,_⟩:=x;exact bM e
 |Bz lo hi=>obtain⟨_,_,_,e⟩:=x;exact bM e
 |aD R u=>obtain⟨e,_⟩:=x;exact bM e
 |pB ps=>exact bM (show .eA _ from x)
 |met f y=>exact bM (show .eA _ from x)
 |ext φ=>obtain⟨_,⟨_,e⟩,_⟩:=x;exact bM e
theorem Paired.gr{α β:Type}{F G: .nG}:∀{d: .av} {l₂: .lA},Paired F d l₂->(∀a b,F a b->G a b)->Paired G d l₂
 |_,_,.nil,_=>.nil
 |_,_,.cons r t,f=>.cons (f _ _ r) (Paired.gr t f)
theorem dk.jq(x:dk P w H h a o)(k:∀b u,(b=a∨H b= .kN a)-> .ck= .V-> .aM= .V)
  (B:∀b,H b= .kN a-> .dg= .kN a)(V:∀b xs,H b= .gY-> .dg= .gY):dk P w H' h' a o:=by
 induction o with
 |lst xs=>obtain⟨z,g,n,r,e⟩:=x;exact⟨z,g,n,r,.j9⟩
 |tup xs=>obtain⟨z,g,r,R,e,c⟩:=x;exact⟨z,g,r,R,.j9,c⟩
 |dK F=>obtain⟨z,y,vs,r,R,es,i,e,c⟩:=x;exact⟨z,y,vs,r,R,es,i,.j9,c⟩
 |dT F=>
  obtain⟨z,y,xs,r,R,es,i,e,c⟩:=x
  exact⟨z,y,xs,Paired.gr r λp q z=>⟨z.1,V _ _ z.2.1,.bA z⟩,R,es,i,.j9,c⟩
 |set S n=>obtain⟨R,es,i,t,e,c⟩:=x;exact⟨R,es,i,t,.j9,c⟩
 |ins C dx fs=>
  obtain⟨d,z,ne,e,mA,⟨U,es,i,D,c⟩,r⟩:=x
  exact⟨B _ d,z,ne,.j9,mA,⟨U,es,i,k _ _ (.inr d) D,c⟩,r⟩
 |own y=>obtain⟨R,e⟩:=x;exact⟨R,.j9⟩
 |xd fs=>obtain⟨mA,⟨U,es,i,e,c⟩,r⟩:=x;exact⟨mA,⟨U,es,i,.j9,c⟩,r⟩
 |Bz lo hi=>obtain⟨t,u,v,e⟩:=x;exact⟨t,u,v,.j9⟩
 |aD R u j=>obtain⟨e,q⟩:=x;exact⟨.j9,j q⟩
 |pB ps=>
  have e: .eA (.Dx .none ps):=x
  show .r3 a (.Dx .none ps)
  exact k a _ .ao e
 |met f y=>
  have e: .eA (.IF (.ref y)):=x
  show .r3 a (.IF (.ref y))
  exact k a _ .ao e
 |ext φ=>obtain⟨p,⟨o,e⟩,st⟩:=x;exact⟨st _ _ p λo q=>k _ _ .ao q,⟨o,.j9⟩,st⟩
theorem cU.lt(x: .iE)(e:H a= .l):a< .bD:=(x a o e).lt
theorem cU.fresh(x: .iE)(e: .bD<=a):H a=none:=by
 cases q:H a with
 |none=>rfl
 |some u=>rw[56,cY (x.lt q) e]
theorem cU.kept(x: .iE)(k:∀b u,.ck= .V-> .aM= .V): .l3 H h':=λa o e=>(x a o e).jq (λb u _ q=>k b u q) .ux .mo
theorem cU.laid(x: .iE)(k:∀b u,.ck= .V-> .aM= .V)(hp: .bD<=a)(new:dk P w (.es a) h' a o): .l3 (.es a) h':=λb u e=>by
 have G:=x.fresh hp;by_cases S:b=a
 ·subst S;rw[213,aB,new]
 ·rw[aC S]at e;exact(x b u e).jq (λc v _ q=>k c v q) (λc q=>.dS q G q) λc xs q=>.dS q G q
end
def Rd(H:Hp)(a:Addr)(u:HO):Prop:=H a= .V∨∃o,H a= .k8 o u
theorem Rd.ok{P:Program}{w:World}{H:Hp}{h:Heap}{a:Addr}{u:HO}(r:Rd H a u)(x: .iE):dk P w H h a u:=by
 rcases r with r|⟨o,r⟩
 ·exact x a u r
 ·obtain⟨_,q⟩:=x a _ r;exact q
def vK: .ap (Option HO)
 |some (.lst _)=>True
 |some (.dK _)=>True
 |some (.dT _)=>True
 |some (.set _ _)=>True
 |some (.ins _ _ _)=>True
 |some (.ext _)=>True
 |_=>.bU
section
variable{P:Program}{w:World}{H:Hp}{h h':Heap}{x e:Addr}{o':HO}
theorem cU.write(ok: .iE)(i:vK (H x))(g:e=x∨H e= .kN x)(k:∀b u,b≠e-> .ck= .V-> .aM= .V)(d:∃u,.pl e .V)
  (new:dk P w (upd H x o') h' x o'): .l3 (upd H x o') h':=λb u q=>by
 have j:∀c y,H c= .kN y->c≠x:=λc y r z=>.IE r
 have n:∀c xs,H c= .gY->c≠x:=λc xs r z=>.IE r
 by_cases S:b=x
 ·subst S;rw[215,aB];exact new
 ·rw[aC S]at q
  by_cases F:b=e
  ·have G:H b= .kN x:=by
    rcases g with z|z
    ·rw[5,F.trans z,S]
    ·rw[1,F,z]
   rw[q]at G;cases G
   obtain⟨v,D⟩:=d
   exact⟨v,.Il D⟩
  ·rw[361,ok b u q,λc v B r=>k c v ?_ r,λc r=>.bp (j c b r) r,λc xs r=>.bp (n c xs r) r]
   ·exact F
   ·rintro rfl
    rcases g with z|z
    ·exact j c b B z
    ·rw[22,B];exact S rfl
end
structure Un(fs ex: .g)(H H':Hp)(h h':Heap):Prop where
 keep: .oV (H b=none->b∉fs->b∉ex-> .aM= .l)
 slot: .oV (H b=none->b∈fs->b∉ex->∃sl,.aM= .Dv sl)
 free: .oV (H b=none->b∉ex-> .dg=none)
 there: .oV (b∉ex->∃o',.aM=some o')
 jt:∀b xs,H b= .gY-> .dg= .gY
 iP:∀b o u,H b= .k8 o u-> .dg= .k8 o u
 jr:∀b ps,H b= .Du ps->∃more,.dg= .Du (ps++more)
section
variable{fs fs' ex ex': .g}{H H1 H2:Hp}{h h1 h2 h':Heap}{a x e:Addr}{o:HO}
theorem Un.any(u:Un fs ex H H1 h h1){b:Addr}{R:Obj}(q: .ck=some R)(n:H b=none)(W:b∉ex):∃i,h1.get? b=some {R with slots:=i}:=by
 by_cases S:b∈fs
 ·exact u.slot b R q n S W
 ·exact⟨R.slots,u.keep b R q n S W⟩
theorem Un.kept(k:∀b u,.ck= .V-> .aM= .V):Un fs ex H H h h':=⟨λb R q _ _ _=>k b R q,λb R q _ _ _=>⟨R.slots,k b R q⟩,λ_ _ _ n _=>n,λb R q _=>⟨R,k b R q⟩,.mo,λ_ _ _ q=>q,λ_ ps q=>⟨.D1 q⟩⟩
theorem Un.refl:Un fs ex H H h h:=Un.kept .mo
theorem Un.laid(k:∀b u,.ck= .V-> .aM= .V)(hp: .bD<=a)(G:H a=none):Un fs ex H (.es a) h h' where
 keep:=λb u q _ _ _=>k b u q
 slot:=λb u q _ _ _=>⟨u.slots,k b u q⟩
 free:=λb u q n _=>.bp (.mQ q hp) n
 there:=λb u q _=>⟨u,k b u q⟩
 jt:=λb xs q=>.dS q G q
 iP:=λb u xs q=>.dS q G q
 jr:=λb ps q=>⟨#[],by rw[.jm q G,q];simp⟩
theorem Un.write(i:vK (H x))(g:e=x∨H e= .kN x)(k:∀b u,b≠e-> .ck= .V-> .aM= .V)(d:∃u,.pl e .V):Un fs ex H (.es x) h h':=by
 have W:∀b,H b=none->b≠x:=λb n z=>.IE n
 have S:∀b,H b=none->b≠e:=λb n z=>by
  subst z;rcases g with r|r
  ·exact W b n r
  ·rw[n]at r;cases r
 rw[112,∀b u,H b= .V->¬vK .V->b≠x,λb u q U z=>by subst z;rw[q]at i;exact U i,⟨λb u q n _ _=>k b u (S b n) q,λb u q n _ _=>⟨u.slots,k b u (S b n) q⟩,λb u q n _=>.bp (W b n) n,λb u q _=> ?_,λb xs q=>.bp (j b _ q λz=>z) q,λb u xs q=>.bp (j b _ q λz=>z) q,λb ps q=>⟨#[],by rw[aC (j b _ q λz=>z),q];simp⟩⟩];by_cases F:b=e
 ·subst F;exact d
 ·exact⟨u,k b u F q⟩
end
def yc(h:Heap)(H:Hp): .g:=(List.range .bD).filter λa=>(H a).isSome
def jO(h:Heap)(H:Hp):Heap:=PySem.W.hideAll h (yc h H)
theorem Oq(h:Heap)(H:Hp): .Bu (jO h H) .bD:=PySem.W.hideAll_size _ _
theorem Oo{h:Heap}{H:Hp}{b:Addr}{o:Obj}(e: .ck= .l)(n:H b=none): .iC (jO h H)= .l:=
 PySem.W.hideAll_get _ e λj=>by
  have q: .ri (H b):=(pY.mp j).2
  rw[n]at q;simp at q
theorem Rf{h:Heap}{H:Hp}{b:Addr}{o:Obj}(e: .iC (jO h H)= .l): .ck= .l/\H b=none:=by
 have M: .ck= .l:=PySem.W.of_hideAll (yc h H) e;refine⟨M,?_⟩
 cases q:H b with
 |none=>rfl
 |some x=>have j:b∈yc h H:=pY.mpr ⟨Dc.mpr (bM M),by simp[q]⟩;have z: .iC (jO h H)=none:=PySem.W.hideAll_none (yc h H) j;rw[45,z]
structure Mod(K:ag)(mg: .d)(base:Heap):Prop where
 kin:K.In base
 glob: .FA mg
 blt:∃mb,base.Ns builtinsNs mb/\∀x:Str,.tF->mb x=bootBuiltins x
 nolimit:base.NoLimit
structure Cx where
 prog:Program
 w:World
 K:ag
 mg: .d
 base:Heap
 A:Around
 N: .H
 ey:Shared
 rQ:Hp
 env:Env
 outer: .d6
 stack: .d6
 ex: .g
 fn: .ju Bool
 calm:Bool
 pn: .D
 xe: .E
def hU(l: .d6): .g:=l.filterMap (·.frame)
abbrev Cx.fs(X:Cx): .g:=hU .eI
def sM(z:Scope)(x:Str):Prop:=.gj x= .bh∨ .gj x= .cH∨ .gj x= .kI
def Loc(z:Scope)(x:Str):Prop:=.gj x= .bh∨ .gj x= .cH
def Look(env:Env)(h:Heap)(m: .d)(x:Str)(u:Value):Prop:=(.ID= .bh/\m x= .V)∨((.ID= .cH∨ .ID= .kI)/\∃c,.HX x .ae/\h.IsCell c .V)
structure Cx.Ok(X:Cx):Prop where
 mod:Mod X.K X.mg .ca
 kind: .y9 .ya
 glob: .H4= .hL
 blt:X.env.builtins=builtinsNs
 above: .hx<= .bH
 inj:∀x y c,.fz= .ae-> .pu y= .ae->x=y
 has:∀x,(.y8 x= .cH∨ .y8 x= .kI)->∃c,.fz= .ae
 tf:∀x c,.oT x-> .fz= .ae-> .hx<=c
 hd: .dO->X.A.handled=none
 frames:X.A.frames=some .bv
 cH: .bv= .eI∨(.bv= .S:: .eI/\ .vp= .vo)
 wD:∀b∈X.ex,.j8/\∀x c,.fz= .ae->c≠b
 bs: .fD .yU (.Dt= .l/\X.rQ b=none)
 kj:X.base.objs.size<= .hx
 uG: .fD .yU (b∉X.ex)
 qu:∀b∈X.ex,.oS b
 hW:X.ey.heap.FunFrames .ca .eI
 mz:∀b∈X.fs,X.rQ b=none
structure Inv(X:Cx)(pins: .D)(σ: .Dr)(H:Hp)(s:Shared):Prop where
 ok:X.Ok
 os:s.os=X.ey.os
 bare: .tD s
 base:Un X.fs X.ex X.rQ H X.ey.heap .G
 loc:∃m,.qB s .bH/\∀(i:Nat) (x:Str) (v:V),.hj= .aa-> .a1 σ= .yQ->sM .l9 x->∃u,.cA/\Look .S .G m x u
 cell:∀x c,.fz= .ae->∃v,s.heap.IsCell c v
 free:H .bH=none
 fX:∀x c,.fz= .ae->H c=none
 pin: .vk (.hK p.1 p.2/\H p.1=none/\ .vT p.1/\ .oS p.1/\∀v,p.2.data≠ .cell v)
 aw: .rp H .G
 len:σ.length=X.N.length
section
variable{X:Cx}{pins: .D}{σ: .Dr}{H H':Hp}{s:Shared}{h':Heap}
theorem Cx.Ok.Q3(ok:X.Ok){b:Addr}{o:Obj}(e: .yU= .l): .oS b:=λS=>by have:=(ok.hW.mem S).1;rw[e]at this;cases this
theorem Inv.bs(I: .k): .fD .yU (.ch/\H b=none):=λb o e=>⟨.uw b o (I.ok.bs b o e).1 (I.ok.bs b o e).2 (I.ok.Q3 e) (I.ok.uG b o e),.oU b o (I.ok.bs b o e).1 (I.ok.bs b o e).2 (I.ok.uG b o e)⟩
theorem Inv.bk(I: .k): .fD .yU .ch:=λb o e=>(I.bs b o e).1
theorem Inv.mod(I: .k):Mod X.K X.mg .ca:=.yz
theorem Inv.bT(I: .k):X.K.In .G:=I.ok.mod.kin.keeps I.bk
theorem Inv.fr(I: .k):∃m,Fr .ca .bH .G m:=
 let ⟨m,hn,_⟩:=I.loc
 ⟨m,hn,I.bk,cn I.ok.kj I.ok.above⟩
theorem Inv.lt(I: .k): .bH< .u:=let ⟨_,hn,_⟩:=I.loc;hn.lt
theorem Inv.sz(I: .k): .hx<= .u:=cn .mR (nI I.lt)
theorem Inv.Q5(I: .k){a:Addr}(h: .u<=a): .oS a:=λS=>by obtain⟨_,o,d,_⟩:=.Dw S;exact absurd (cY (bM d) (cn I.sz h)) (iF _)
theorem Inv.i8(I: .k):∀x c,.fz= .ae-> .vT c:=λx c e z=>by obtain⟨v,o,d,hd⟩:=.j2 x c e;obtain⟨m,⟨o',es,i,F,g,_⟩,_⟩:=I.loc;rw[z,F]at d;cases d;rw[g]at hd;cases hd
theorem Inv.hW(I: .k): .ve .ca .eI:=by
 have all:∀(l: .d6),(∀b∈hU l,b∈X.fs)->X.ey.heap.FunFrames .ca l-> .ve .ca l:=by
  intro l
  induction l with
  |nil=>intro _ _;trivial
  |cons env r j=>intro g R;obtain⟨G,⟨L,o,N,n,d,hd⟩,M⟩:=R;have W:L∈X.fs:=g L (by unfold hU;rw[C4,N];exact bX);obtain⟨i,e⟩:=I.base.slot L o d (I.ok.mz L W) W λz=>I.ok.qu L z W;exact⟨G,⟨L,_,N,n,e,hd⟩,j (λb S=>g b (by unfold hU;rw[C4,N];exact .aH S)) M⟩
 exact all .eI (λ_ S=>S) I.ok.hW
theorem Inv.stack(I: .k): .ve .ca .bv:=by
 rcases I.ok.cH with e|⟨e,N⟩
 ·rw[55,I.hW]
 ·rw[e];obtain⟨m,G,_⟩:=I.loc;rw[2,.cons (by rw[.hl];decide) N G ?_ I.hW,Heap.get?_none_of_le (cn .v8 .mR)]
theorem Inv.BU(I: .k):∀b∈hU .bv,b∈ .bH::X.fs:=λb S=>by
 rcases I.ok.cH with e|⟨e,N⟩
 ·rw[142,e,.aH S]
 ·rw[e]at S;unfold hU at S;rw[C4,N]at S;exact S
theorem Inv.xX(I: .k):∀b∈hU .bv,H b=none:=λb S=>by
 rcases bu.mp (I.BU b S)with e|S
 ·rw[55,.i0]
 ·obtain⟨_,o,d,_⟩:=.Dw S;exact .oU b o d (I.ok.mz b S) λz=>I.ok.qu b z S
theorem Inv.step{g': .yT}{t':Nat}{d':Drawn}{ch: .g}(I: .k)
  (V:∀b∈ch,(b∈X.ex∨ .hx<=b)/\ .j8/\(∀x c,.fz= .ae->c≠b)/\ .vk (p.1≠b))
  (keep: .pb .j8 (.oS b->b∉ch-> .ch->H b=none-> .aM= .l))
  (slot: .pb .j8 (b∈X.fs->b∉ch-> .ch->H b=none->∃sl,.aM= .Dv sl))(free: .rH b (.ch->H b=none-> .dg=none))
  (there: .rH b (.ch->∃o',.aM=some o'))
  (jt:∀b xs,H b= .gY-> .dg= .gY)(iP:∀b o u,H b= .k8 o u-> .dg= .k8 o u)(jr:∀b ps,H b= .Du ps->∃more,.dg= .Du (ps++more))
  (ns:∀m,.qB s .bH->h'.Ns .bH m)(aw: .rp H' h')(y:AllBare g'):
  .sv {s with heap:=h',gens:=g',drawn:=d',toks:=t'}:=by
 have N: .fD .Dt .j8:=λb o e=>.mQ e .mR
 have M: .fD .Dt (b∉X.ex->b∉ch):=λb o e W S=>by
  rcases(V b S).1 with z|z
  ·exact W z
  ·rw[56,cY (bM e) z]
 have L:∀x c,.fz= .ae->∀v,s.heap.IsCell c v->h'.IsCell c v:=λx c e v ⟨o,ho,hd⟩=>by
  have j:c∉ch:=λz=>(.bA (V c z)).1 x c e Y
  by_cases B:c∈X.fs
  ·obtain⟨sl,q⟩:=slot c o (I.i8 x c e) B j ho (.oN x e)
   exact⟨_,q,hd⟩
  ·exact⟨o,keep c o (I.i8 x c e) B j ho (.oN x e),hd⟩
 refine⟨I.ok,I.os,y,⟨.oE,.oE,λb o e n W=> ?_,λb o e W=> ?_,λb xs e=>jt b xs (I.base.jt b xs e),λb o xs e=>iP b o xs (I.base.iP b o xs e),λb ps e=> ?_⟩,?_,.Ds,?_,.Ds,.hR,aw,I.len⟩
 ·exact keep b o (N b o e) S (M b o e W) (.uw b o e n S W) (.oU b o e n W)
 ·obtain⟨sl,F⟩:=I.base.slot b o e n S W
  obtain⟨U,D⟩:=slot b _ (N b o e) S (M b o e W) F (.oU b o e n W)
  exact⟨U,D⟩
 ·rw[179,I,b,o,e,W,free b o' (M b o e W) F (.oU b o e n W)]
 ·rw[179,I,b,o,e,W,there b o' (M b o e W) F]
 ·obtain⟨m1,F⟩:=I.base.jr b ps e
  obtain⟨m2,D⟩:=jr b _ F
  exact⟨m1++m2,by rw[D,Array.append_assoc]⟩
 ·obtain⟨m,G,R⟩:=I.loc
  refine⟨m,ns m G,λi x v F D e3=> ?_⟩
  obtain⟨u,r,l⟩:=R i x v F D e3
  refine⟨u,r,?_⟩
  rcases l with l|⟨k,c,e,z⟩
  ·rw[14,l]
  ·rw[8,⟨k,c,e,L x c e _ z⟩]
 ·obtain⟨v,z⟩:=.j2 x c e
  exact⟨v,L x c e v z⟩
 ·obtain⟨m,⟨o,_,_,ho,_⟩,_⟩:=I.loc
  exact free _ o (λz=>(V _ z).2.1 Y) ho .i0
 ·obtain⟨v,o,ho,hd⟩:=.j2 x c e
  exact free c o (λz=>(.bA (V c z)).1 x c e Y) ho (.oN x e)
 ·obtain⟨e,n,ne,g,d⟩:=I.pin p hp
  have j:p.1∉ch:=λz=>(.bA (V p.1 z)).2 p hp Y
  exact⟨keep p.1 p.2 ne g j e n,free p.1 p.2 j e n,ne,g,d⟩
theorem Inv.un{t':Nat}(I: .k)(u:Un X.fs [] H H' .G h')(aw: .rp H' h'): .sv (.je t'):=by obtain⟨m,⟨o,es,y,d,r⟩,_⟩:=id I.loc;obtain⟨i,W⟩:=u.any d .i0 (by simp);exact I.step (g':=s.gens) (d':=s.drawn) (ch:=[]) (λ_ z=>nomatch z) (λb o _ S _ e n=>u.keep b o e n S (by simp)) (λb o _ S _ e n=>u.slot b o e n S (by simp)) (λb o _ e n=>u.free b o e n (by simp)) (λb o _ e=>u.there b o e (by simp)) u.jt u.iP u.jr (λM j=>by obtain⟨o',g,q,F,U⟩:=j;rw[d]at F;cases F;exact⟨_,g,q,W,U⟩) aw .rF
theorem Inv.call{g': .yT}{t':Nat}{d':Drawn}{ch: .g}(I: .k)(u:Un (hU .bv) ch H H' .G h')(aw: .rp H' h')(y:AllBare g')
  (V:∀b∈ch,(b∈X.ex∨ .hx<=b)/\ .j8/\(∀x c,.fz= .ae->c≠b)/\ .vk (p.1≠b)):
  .sv {s with heap:=h',gens:=g',drawn:=d',toks:=t'}:=by
 obtain⟨m,⟨o,es,D,d,r⟩,_⟩:=id I.loc
 obtain⟨i,W⟩:=u.any d .i0 λz=>(V _ z).2.1 Y
 exact I.step (ch:=ch) V (λb o W S B e n=>u.keep b o e n (λz=>(bu.mp (I.BU b z)).elim W S) B) (λb o _ _ B e n=>u.any e n B) (λb o B e n=>u.free b o e n B) (λb o B e=>u.there b o e B) u.jt u.iP u.jr (λM j=>by
  obtain⟨o',g,q,F,U⟩:=j
  rw[d]at F;rw[33,⟨_,g,q,W,U⟩]) aw y
theorem Inv.turned{t':Nat}{L:Addr}(I: .k)(k: .ot b L (.ch-> .aM= .l))(G:H L=none)(W: .vT L)
  (h1:L∈X.ex∨ .hx<=L)(h2:∀x c,.fz= .ae->c≠L)(h3: .vk (p.1≠L)): .uX t':=by
 rw[346,H b= .V->b≠L,(by rw[z,G]at e;cases e)]
 rw[345,s.gens,s.drawn,[L],.fe,.yp b o .IC e,⟨o.slots,.yp b o .IC e⟩,λ_ _ _ _ n=>n,⟨o,.yp b o .IC e⟩,λ_ _ e=>e,λ_ _ _ e=>e,⟨.D1 e⟩,?_,.CY,.rF]
 ·rw[121,b=L,⟨h1,W,h2,h3⟩]
 ·rw[344,⟨o,es,i,k _ o (eQ W) d,r⟩]
 ·rw[343,.mp u e,k c v ?_ q,.ux,.mo]
  ·rw[49,g b u e]
  ·exact g c _ z
theorem Inv.tok(I: .k)(t:Nat): .jq {s with toks:=t}:=I.un (h':=.G) (t':=t) Un.refl I.aw
theorem Inv.kept{t':Nat}(I: .k)(k:∀b u,.sF b .V-> .aM= .V): .uX t':=I.un (Un.kept k) (.D6 k)
theorem Inv.laid{a:Addr}{o:HO}{t':Nat}(I: .k)(k:∀b u,.sF b .V-> .aM= .V)(hp: .u<=a)(new:dk .a6 X.w (.es a) h' a o): .CZ (.es a) t':=I.un (Un.laid k hp (.rG hp)) (I.aw.laid k hp new)
theorem Inv.write{x e:Addr}{o:HO}{t':Nat}(I: .k)(i:vK (H x))(g:e=x∨H e= .kN x)(k:∀b u,b≠e-> .sF b .V-> .aM= .V)(d:∃u,.pl e .V) (new:dk .a6 X.w (.es x) h' x o): .CZ (.es x) t':=I.un (Un.write i g k d) (I.aw.write i g k d new)
theorem Inv.weak{σ': .Dr}(I: .k)(R:σ'.length=σ.length)(w:∀(i:Nat) v,.a1 σ'= .yQ-> .a1 σ= .yQ): .ej σ' H s:=⟨.oF I,I.base,let ⟨m,hn,hl'⟩:=I.loc;⟨m,hn,λi x v F D d=>hl' i x v F (w i v D) d⟩,I.cell,.kw,I.pin,I.aw,R.trans I.len⟩
theorem Inv.Ic{d: .D}(I: .k)(h:∀p∈d,.hK p.1 p.2/\H p.1=none/\ .vT p.1/\ .oS p.1/\∀v,p.2.data≠ .cell v):Inv X d σ H s:=⟨.oF I,.yS I I I,.kw,λp hp=>.ts (gV.mp hp) (I.pin p (Li _ z)) (h p),.yR⟩
theorem xk{N: .H}(d:N.Nodup){i j:Nat}{x:Str}(a: .a1 N= .aa)(b:N[j]? = .aa):i=j:=by obtain⟨h1,F⟩:=eN.mp a;obtain⟨h2,D⟩:=eN.mp b;exact(List.getElem_inj d).mp (.uV F D)
theorem XQ{M:Model}{A:Around}{E: .E}{i:Nat}{x:Str}{v:V}{u:Value}{Q: .ge}(I: .k)(hN:X.N.Nodup)(hi: .hj= .aa)(W: .vm x)(r: .cA)
  (h:∀s',.Cs i .aQ H s'->(∃a,.m7 a .dN/\(a= .bH∨ .fz=some a))->Q () s')(hf: .oT x∨ .eC x= .bh:=by first|exact .inl Y|exact .inr Y|assumption):wpAny M A (storeName .S x u) Q E s:=by
 obtain⟨m,hn,R⟩:=id I.loc
 have hcls:(.ya== .class||(.ya== .module&& .bH != .H4))= .a:=by rw[.hl];rfl
 have hiσ:i<σ.length:=by rw[I.len];exact .dD hi
 have i8:=I.i8
 have tracked:∀{a:Addr} {h':Heap},(∃o,.jx a/\H a=none)-> .m7 a h'-> .rp H h':=λ{a h'} N L b ob e=>by
  obtain⟨_,_,g⟩:=N
  refine(.mp ob e).jq (λc w' B q=>.dA L c ?_ q) .ux .mo
  rintro rfl
  rcases B with rfl|B
  ·rw[45,g]
  ·rw[317,g]
 rcases W with G|G
 ·refine wpAny_storeName_local G hn (λh' hn' L=> ?_) hcls
  obtain⟨oL,_,_,hoL,_⟩:=id hn
  refine h _ ⟨.oF I,⟨.oE,.oE,.H3 I ?_,.Cv I I I⟩,⟨_,hn',.H2⟩,.Cu,.kw,.hR,tracked ⟨oL,hoL,.i0⟩ L,by simpa using I.len⟩ ⟨_,L,.ao⟩
  ·exact .uv L b e (.uw b o e n S W)
  ·rw[316,I,b,o,e,n,S,W,⟨sl,.uv L b e F⟩]
  ·rw[179,I,b,o,e,W,⟨o',.uv L b e F⟩]
  ·by_cases hj:j=i
   ·subst hj
    rw[315,hi,zg hiσ,⟨u,r,.inl ⟨G,by simp⟩⟩]
   ·rw[314,zf (eQ hj),R j y v' F D e3,⟨u',U,?_⟩]
    rcases q with⟨k,e⟩|⟨k,c,e,z⟩
    ·refine .inl ⟨k,?_⟩
     have:y≠x:=λe=>hj (xk hN F (e▸hi))
     simp[this,e]
    ·rw[8,⟨k,c,e,.ro z (i8 y c e)⟩]
  ·obtain⟨w',z⟩:=.j2 y c e
   exact⟨w',.ro z (i8 y c e)⟩
  ·rw[313,I,p,hp]
   exact⟨.dA L p.1 ne e,n,ne,nf,d⟩
 ·have hfn: .oT x:=by
   rcases hf with z|z
   ·exact z
   ·rw[z]at G;cases G
  obtain⟨c,B⟩:=.HQ I x G
  obtain⟨w',z⟩:=.j2 x c B
  refine wpAny_storeName_cell .hl G B z (λh' hc' L=> ?_)
  obtain⟨oc,hoc,hocd⟩:=id z
  refine h .dX ⟨.oF I,⟨.oE,.oE,.H3 I ?_,.Cv I I I⟩,⟨m,.ro hn (eQ (i8 x c B)),.H2⟩,λy c' e=> ?_,.kw,.hR,tracked ⟨oc,hoc,.oN x B⟩ L,by simpa using I.len⟩ ⟨c,L,.inr B⟩
  ·exact .dA L b (.mQ e (I.ok.tf x c hfn B)) (.uw b o e n S W)
  ·rw[316,I,b,o,e,n,S,W,⟨sl,.dA L b (.mQ e (I.ok.tf x c hfn B)) F⟩]
  ·rw[179,I,b,o,e,W,⟨o',.dA L b (.mQ e (I.ok.tf x c hfn B)) F⟩]
  ·by_cases hj:j=i
   ·subst hj
    rw[315,hi,zg hiσ,⟨u,r,.inr ⟨.inl G,c,B,hc'⟩⟩]
   ·rw[314,zf (eQ hj),R j y v' F D e3,⟨u',U,?_⟩]
    rcases q with q|⟨k,c',e,z'⟩
    ·rw[14,q]
    ·refine .inr ⟨k,c',e,.ro z' ?_⟩
     rintro rfl
     exact hj (xk hN F (I.ok.inj _ _ _ e B▸hi))
  ·by_cases hcc:c'=c
   ·subst hcc;exact⟨_,hc'⟩
   ·obtain⟨w2,z2⟩:=.j2 y c' e
    exact⟨w2,.ro z2 hcc⟩
  ·rw[313,I,p,hp]
   refine⟨.dA L p.1 ?_ e,n,ne,nf,d⟩
   intro q
   rw[q,hoc]at e
   have q':oc=p.2:=eD e
   exact d w' (by rw[<-q'];exact hocd)
theorem xY{M:Model}{A:Around}{E: .E}{i:Nat}{x:Str}{v:V}{u:Value}{Q: .ge}(I: .k)(d:X.N.Nodup)(hi: .hj= .aa)(W: .vm x)(r: .cA) (h:∀s',.Cs i .aQ H s'->Q () s')(N: .oT x∨ .eC x= .bh:=by first|exact .inl Y|exact .inr Y|assumption):wpAny M A (storeName .S x u) Q E s:=XQ I d hi W r (λs' L _=>h s' L) N
theorem Inv.z4{s':Shared}{ch: .g}(I: .k)(d:s'.os=s.os)(u:Un (hU .bv) ch H H' .G .dN)(aw: .rp H' .dN)(y: .tD s')
  (V:∀b∈ch,(b∈X.ex∨ .hx<=b)/\ .j8/\(∀x c,.fz= .ae->c≠b)/\ .vk (p.1≠b)): .kH:=by
 obtain⟨h',g',d',t',o'⟩:=s'
 have e:o'=s.os:=d
 subst e
 exact I.call (g':=g') (t':=t') (d':=d') u aw y V
end
abbrev XK:=.aw-> .bT .aU
abbrev St:=.Dr
abbrev VK:=.bT V
abbrev TE:=St->Hp-> .ap VK
abbrev TT:=St-> .oO .yv
abbrev TA:=St-> .oO (.bT .s)
structure Ends where
 nx: .gr
 rt:VK
 bk: .gr:=.gP
 ct: .gr:=.gP
abbrev TS:=Ends-> .gr
def EP(X:Cx)(pins: .D)(σ:St)(Q:VK)(u:Value)(s':Shared):Prop:=∃v H',.kH/\ .cA/\ .dL v
def TP(X:Cx)(pins: .D)(σ:St)(Q: .yv)(b:Bool)(s':Shared):Prop:=∃H',.kH/\ .dL b
def AP(X:Cx)(pins: .D)(σ:St)(Q: .bT .s)(us: .q)(s':Shared):Prop:=∃vs H',.kH/\ .h1/\ .dL vs
def SP(X:Cx)(pins: .D)(D:Ends)(f:Flow)(s':Shared):Prop:=
 match f with
 | .next=>.vl (D.nx σ' H')
 | .brk=>.vl (D.bk σ' H')
 | .cont=>.vl (D.ct σ' H')
 | .ret u=>∃v σ' H',.zh/\ .cA/\D.rt v H'
def PE(X:Cx)(e:Expr)(t:TE):Prop:=.GX (.k-> .gc Q-> .gv .dC s)
def PT(X:Cx)(e:Expr)(t:TT):Prop:=.HT .yv (.k-> .gc Q-> .dR (isTrue e .S .dC) (TP X pins σ Q))
def PW(X:Cx)(e:Expr)(t:TT):Prop:=∀(whole: .mB) (pins: .D) (s:Shared) (σ:St) (H:Hp) (Q: .yv),.k-> .gc Q-> .dR (isTrue e .S whole) (TP X pins σ Q)
theorem PW.pt{X:Cx}{e:Expr}{t:TT}(h:PW X e t):PT X e t:=h _
def PA(X:Cx)(es: .bK)(t:TA):Prop:=∀(pos:Pos) (pins: .D) (s:Shared) (σ:St) (H:Hp) (Q: .bT .s),.k-> .gc Q-> .dR (spliced (.wf pos es)) (AP X pins σ Q)
def PS(X:Cx)(st:Stmt)(t:TS):Prop:=.y0 (.k->t D σ H-> .Cf st .S (.uu X D))
def eF(X:Cx)(st: .e2)(t:TS):Prop:=.y0 (.k->t D σ H-> .dR (execs st .S) (.uu X D))
theorem aE{α:Type}{t:Sem α}{Q n: .cq α}{M:Model}{A:Around}{E: .E}{s:Shared}(h: .ht t s)(U:∀a s,Q a s->n a s):wpAny M A t n E s:=.yr h U x
section
variable{X:Cx}
theorem bin{a b:Expr}{ta tb:TE}(N: .eH)(S: .km){pins: .D}{s:Shared}{σ:St}{H:Hp}{R:V-> .bT V}(I: .k)(h:ta σ H λx H1=>.Dm σ H1 (R x y H2))
  {α:Type}{Q: .cq α}{f: .aw-> .aw->Sem α}
  (d:∀v u B x y H2,.cL H2 B-> .hu-> .fB y->R x y H2-> .go (f v u) Q B):
  .y1 a (λv q=>.Iv (.Y b) (.go (f v u) Q g) q):=by
 rw[35,.kl _ I h λv U ⟨x,H1,n,i,j⟩=> ?_,.Io (.mA U _ n j) ?_,d v u B x y H2 W i D L]
def x9(i:Nat):TE:=fun σ H Q=>∃v,.a1 σ= .yQ/\Q v H
def tC(v:V):TE:=.D5 v H
theorem Ud{i:Nat}{x:Str}{pos:Pos}(g: .hj= .aa)(D:sM .l9 x)(hd: .bu= .a:=by decide)(W:(x==("__classdict__":Str))= .a:=by decide): .A .pf (x9 i):=by
 intro pins s σ H Q I h;obtain⟨v,e,h⟩:=h;obtain⟨m,n,R⟩:=I.loc;obtain⟨u,r,l⟩:=R i x v g e D;have fin: .iR u s:=⟨v,H,I,r,h⟩;rcases l with⟨G,j⟩|⟨G,c,B,d⟩
 ·exact u9 (Cd .hl G n j fin) hd
 ·rcases G with G|G
  ·exact u9 (wpAny_loadName_cell .hl G B d fin) hd
  ·exact u9 (wpAny_loadName_free .hl G B d fin W) hd
theorem aq{i j pos}: .vU (.yP .aL pos) .aL:=λ_ _ _ H _ I h=>wpAny_Constant_int ⟨.aL,.eb _,⟨_,Y⟩,h⟩
theorem iV{b j pos}: .vU (.yP (.bool b) pos) .ev:=λ_ _ _ H _ I h=>Constant_bool ⟨.ev,H,I,Y,h⟩
theorem f7{j pos}: .vU (.yP .none pos) .au:=λ_ _ _ H _ I h=>Constant_none ⟨.au,H,I,Y,h⟩
theorem bq{x j pos}: .vU (.Constant (.str x) j pos) .iD:=λ_ _ _ H _ I h=>Calls.Constant_str ⟨.iD,.eb _,⟨_,Y⟩,h⟩
def Gl(X:Cx)(x:Str):Prop:=.y8 x=some .globalImplicit
theorem iR{E: .E}{pins: .D}{s:Shared}{σ:St}{H:Hp}{x:Str}{u:Value}{pos:Pos}{Q: .E}(I: .k)(y: .bR)(j: .cD= .V)(h:Q u s) (hd: .bu= .a:=by decide): .lo (.Y .pf) Q E s:=KJ .hl y (Calls.loadGlobal_global (by rw[.vb];exact I.mod.glob.keeps I.bk) j h) hd
theorem jP{E: .E}{pins: .D}{s:Shared}{σ:St}{H:Hp}{x:Str}{u:Value}{pos:Pos}{Q: .E}(I: .k)(y: .bR)(j: .cD=none)(D: .jB x .V)(h:Q u s)
  (G: .tF:=by decide)(hd: .bu= .a:=by decide): .lo (.Y .pf) Q E s:=by
 obtain⟨F,h1,h2⟩:=I.mod.blt
 exact KJ .hl y (Calls.loadGlobal_builtin (by rw[.vb];exact I.mod.glob.keeps I.bk) j (by rw[.yy];exact .Gq h1) ((h2 x G).trans D) h) hd
theorem uQ{x:Str}{v:V}{u:Value}{pos:Pos}(y: .bR)(j: .cD= .V)(r: .cA)(hd: .bu= .a:=by decide): .tM v:=λ_ _ _ H _ I h=>iR I y j ⟨v,H,I,r,h⟩ hd
theorem T7{x:Str}{v:V}{u:Value}{pos:Pos}(y: .bR)(j: .cD=none)(D: .jB x .V)(r: .cA)(G: .tF:=by decide)(hd: .bu= .a:=by decide): .tM v:=λ_ _ _ H _ I h=>jP I y j D ⟨v,H,I,r,h⟩ G hd
variable{a b:Expr}{ta tb:TE}{pos:Pos}
def PC(X:Cx)(op:CmpOp)(a b:Expr)(t:TE):Prop:=.GX (.k-> .gc Q-> .y1 a (λv N=>.Iv (.Y b) (.gv (compareOp op v u) g) N))
theorem GY(b:Expr){op:CmpOp}(h:op≠ .In)(h2:op≠ .NotIn): .vi b= .a:=by
 rw[39,(op==CmpOp.In)= .a,by cases op<;>first|rfl|exact absurd rfl h,(op==CmpOp.NotIn)= .a,by cases op<;>first|rfl|exact absurd rfl h2]
 cases b<;>simp[behindInMarks,F,D]
def X2(ta:TE):TE:=.j7 (.ni (.a9 x .au) H1)
def X_(ta:TE):TE:=.j7 (.ni (! .a9 x .au) H1)
theorem RelV.G0{x:V}{v:Value}(r: .hu):(v== .fq)= .a9 x .au:=by
 cases x with
 |au=>rw[76]
 |bl _=>rw[76]
 |int _=>rw[75]
 |str _=>rw[75]
 |gp _=>rw[75]
 |my _=>rw[75]
 |ref _=>rw[76]
 |ty _=>rw[76]
theorem ig{j pos'}(N: .eH):PC X .Is a (.yP .none pos') (X2 ta):=by rw[146,.mz s H _ I h ?_,Constant_none (is_none_gen ⟨.bl _,H1,n,by rw[i.G0];rfl,R⟩)]
theorem uP{j pos'}(N: .eH):PC X .IsNot a (.yP .none pos') (X_ ta):=by rw[146,.mz s H _ I h ?_,Constant_none (isnot_none_gen ⟨.bl _,H1,n,by rw[i.G0];rfl,R⟩)]
def tB(t:TE):TT:=.n2 H (λx H1=>∃c,x= .bl c/\Q c H1)
theorem xy{op:CmpOp}{t:TE}(h:PC X op a b t)(h1: .vi b= .a:=by first|exact GY _ (by decide) (by decide)|rfl): .A (.vh a [op] [b]) t:=λpins s σ H Q I U=>wpAny_Compare1 (h pins s σ H Q I U) h1
theorem gz{op:CmpOp}{t:TE}(h:PC X op a b t)(h1: .vi b= .a:=by first|exact GY _ (by decide) (by decide)|rfl):PT X (.vh a [op] [b]) (tB t):=by intro pins s σ H Q I g;refine wpAny_isTrue_Compare1 (aE (h pins s σ H _ I g) (.GV h1 (λu B h2=>aE h2 λc j ⟨x,H1,n,i,R⟩=> ?_))) h1;obtain⟨d,rfl,q⟩:=R;cases i;exact lF ⟨H1,n,q⟩
theorem eJ{e:Expr}{t:TE}(h: .A e t)(g:∀whole,isTrue e .S whole=(do let v<-whole;standAt e.pos;holding [v] (truthy v)):=by intro _;rfl):PT X e (tB t):=by rw[354,isTrue_plain (.pD (h pins s σ H _ I j) ?_) (g _)];obtain⟨d,rfl,q⟩:=R;cases i;exact lF ⟨H1,n,q⟩
variable{tA tB':TT}{rest: .bK}
def XS(t u:TT):TT:=.Dq H (.k4 (u σ H1 Q) (Q .a H1))
def Yb(t u:TT):TT:=.Dq H (.k4 (Q true H1) (u σ H1 Q))
def X9(t:TT):TT:=.Dq H (Q (! c) H1)
theorem kI(N:PT X a tA): .vn X .And [a] tA:=by
 rw[244,isTrue_and (.kl Q I h λc U e=> ?_)]
 cases c with
 |true=>exact isTrue_and_nil e
 |false=>exact e
theorem xG(N:PT X a tA): .vn X .Or [a] tA:=by
 rw[244,isTrue_or (.kl Q I h λc U e=> ?_)]
 cases c with
 |false=>exact isTrue_or_nil e
 |true=>exact e
theorem kH(N:PT X a tA)(S: .vn X .And (.cM b) tB'): .vn X .And (a:: .cM b) (XS tA tB'):=by
 rw[244,isTrue_and (.kl _ I h λc U ⟨H1,n,R⟩=> ?_)]
 cases c with
 |true=>exact S d pins U σ H1 Q n R
 |false=>exact⟨H1,n,R⟩
theorem xF(N:PT X a tA)(S: .vn X .Or (.cM b) tB'): .vn X .Or (a:: .cM b) (Yb tA tB'):=by
 rw[244,isTrue_or (.kl _ I h λc U ⟨H1,n,R⟩=> ?_)]
 cases c with
 |true=>exact⟨H1,n,R⟩
 |false=>exact S d pins U σ H1 Q n R
theorem jn(N:PT X a tA):PT X (.Iu .Not a) (X9 tA):=by intro pins s σ H Q I h;exact isTrue_not (N pins s σ H (λc H1=>Q (! c) H1) I h)
def XT(ta tb:TE):TE:=.j7 (∃c,x= .bl c/\ .k4 (tb σ H1 Q) (.ni .a H1))
def Yc(ta tb:TE):TE:=.j7 (∃c,x= .bl c/\ .k4 (.ni true H1) (tb σ H1 Q))
def Ya(ta:TE):TE:=.j7 (∃c,x= .bl c/\ .ni (! c) H1)
theorem kF{op}{t:TE}(h: .A a t): .A (.su op [a]) t:=λpins s σ H Q I U=>BoolOp_one (h pins s σ H Q I U)
theorem lB(N: .eH)(S: .A (.su .And (.cM b)) tb): .A (.su .And (a:: .cM b)) (XT ta tb):=by
 rw[360,BoolOp_and (.mz s H _ I h ?_)];refine lF ?_
 cases c with
 |true=>exact .mA U Q n R
 |false=>exact⟨.bl .a,H1,n,Y,R⟩
theorem HW(N: .eH)(S: .A (.su .Or (.cM b)) tb): .A (.su .Or (a:: .cM b)) (Yc ta tb):=by
 rw[360,BoolOp_or (.mz s H _ I h ?_)];refine lF ?_
 cases c with
 |false=>exact .mA U Q n R
 |true=>exact⟨.bl true,H1,n,Y,R⟩
theorem Bk(N: .eH): .A (.Iu .Not a) (Ya ta):=by rw[360,UnaryOp_ (.mz s H _ I h ?_)];exact not_of (lF ⟨.bl (! c),H1,n,Y,R⟩)
def X0(t:TT)(ta tb:TE):TE:=.Dq H (.k4 (ta σ H1 Q) (tb σ H1 Q))
theorem hA{c:Expr}(B:PT X c tA)(N: .eH)(S: .km): .A (.IfExp c a b pos) (X0 tA ta tb):=by
 rw[34,wpAny_IfExp (aE (B pins s σ H _ I h) λd U ⟨H1,n,R⟩=> ?_)]
 cases d with
 |true=>exact N pins U σ H1 Q n R
 |false=>exact .mA U Q n R
end
def ay(K:ag)(H:Hp)(a:Addr)(xs: .s):Prop:=Rd H a (.lst xs)∨ .G5 (.qA K a/\o.cls= .o7/\o.dict=none/\ .gZ= .seq g n/\g.size<= .W/\ .h3 .qH)
def aM(K:ag)(H:Hp)(a:Addr)(xs: .s):Prop:=Rd H a (.tup xs)∨ .G5 (.qA K a/\o.cls= .h2/\ .gZ= .seq g n/\g.size<= .W/\ .h3 .qH)
def Ma: .fd .aw V
 | .none=>some .au
 | .bool b=>some .ev
 | .int i _=>some .aL
 | .str x _=>.pa x
 | .bytes b _=>some (.gp b)
 | .float b _=>some (.my b)
 | .ref a=>.I a
 | .type n=>some (.ty n)
 |_=>none
theorem RelV.abs{x:V}{u:Value}(r: .kK):Ma u= .aa:=by
 cases x with
 |au=>rw[76]
 |bl _=>rw[76]
 |int _=>rw[75]
 |str _=>rw[75]
 |gp _=>rw[75]
 |my _=>rw[75]
 |ref _=>rw[76]
 |ty _=>rw[76]
theorem RelV.inj{x y:V}{u:Value}(r: .kK)(q: .fB y):x=y:=eD (r.abs.symm.trans q.abs)
theorem Vals.inj:∀{xs ys: .s} {us: .q},.eG-> .ne ys->xs=ys
 |_,_,_,.nil,.nil=>rfl
 |_,_,_,.cons r t,.cons U t'=>by rw[r.inj U,Vals.inj t t']
section
variable{X:Cx}{pins: .D}{σ:St}{H:Hp}{s:Shared}{a:Addr}{xs ys: .s}
theorem ay.of{K:ag}(h:H a= .cu): .fh:=.inl .oB
theorem aM.of{K:ag}(h:H a= .gY): .eq:=.inl .oB
theorem Inv.list(I: .k)(h:ay X.K H a xs):∃g: .q,.h3 g/\PlainL .G a .aO/\ .r<= .W:=by
 rcases h with h|⟨o,g,n,G,B,hd,L,hz,r⟩
 ·obtain⟨z,g,n,r,e⟩:=h.ok I.aw;exact⟨g,r,⟨_,n,e,.f6⟩,z⟩
 ·refine⟨.qH,r,⟨o,n,I.bT a o G,B,hd,by simpa using L⟩,?_⟩;have e:=.cQ;simp only[rE]at e;omega
theorem Inv.tuple(I: .k)(h:aM X.K H a xs):∃g: .q,.h3 g/\ .mZ a .aO/\ .r<= .W:=by
 rcases h with h|⟨o,g,n,G,B,L,hz,r⟩
 ·obtain⟨z,g,r,p⟩:=h.ok I.aw;exact⟨g,r,p,z⟩
 ·refine⟨.qH,r,⟨o,I.bT a o G,B,n,by simpa using L⟩,?_⟩;have e:=.cQ;simp only[rE]at e;omega
theorem Inv.GB(I: .k)(h:ay X.K H a xs)(h': .ob H a ys):xs=ys:=by
 obtain⟨g,r,⟨o,n,e,_,_,d⟩,_⟩:=.gi h;obtain⟨its',U,⟨o',W,M,_,_,d'⟩,_⟩:=.gi h';rw[209,e];rw[d]at d';injection d' with d1 _;rw[160,g=its',by simpa using .FF d1];exact r.inj U
theorem Inv.Yw(I: .k)(h:aM X.K H a xs)(h':aM X.K H a ys):xs=ys:=by
 obtain⟨g,r,⟨o,e,_,n,d⟩,_⟩:=.cl h;obtain⟨its',U,⟨o',M,_,W,d'⟩,_⟩:=.cl h';rw[209,e];rw[d]at d';injection d' with d1 _;rw[160,g=its',by simpa using .FF d1];exact r.inj U
end
section
variable{X:Cx}{st:Stmt}{rest: .e2}{t u:TS}{e:Expr}{te:TE}{pos:Pos}
def X7:TS:=λD σ H=>.ha
def B1(t u:TS):TS:=λD σ H=>t (.Ce D) σ H
theorem a0:eF X [] X7:=λ_ _ σ H _ I h=>pF ⟨σ,H,I,h⟩
theorem Z(h1:PS X st t)(h2:eF X rest u):eF X (.cM st) (B1 t u):=by
 rw[120,yg (aE (h1 pins s σ H (.Ce D) I h) .IB)]
 cases f with
 |next=>rw[309,h2 pins U σ' H' D L q]
 |ret v=>exact q
 |brk=>exact q
 |cont=>exact q
theorem O(h1:PS X st t):eF X [st] t:=by
 rw[120,yg (aE (h1 pins s σ H D I h) .IB)]
 cases f with
 |next=>exact pF q
 |ret v=>exact q
 |brk=>exact q
 |cont=>exact q
theorem Inv.quiet{pins: .D}{σ:St}{H:Hp}{s:Shared}(I: .k):interactive .S= .a:=by simp[interactive,I.ok.kind]
def XY(te:TE):TS:=λD σ H=>te σ H (λ_ H1=>.pi H1)
theorem bb(g: .eB)(L:swapsWith e none .hd .S= .kh:=by rfl):PS X (.Expr e pos) (XY te):=by intro pins s σ H D I h;exact wpAny_Expr_any (.pD (g pins s σ H _ I h) ⟨σ,H1,n,R⟩) I.quiet L
def B0(te:TE):TS:=λD σ H=>te σ H D.rt
theorem aA(g: .eB):PS X (.Return (some e) pos) (B0 te):=by intro pins s σ H D I h;exact wpAny_Return_some (.pD (g pins s σ H _ I h) ⟨x,σ,H1,n,i,R⟩)
def Yf:TS:=λD _ H=>D.rt .au H
theorem UC:PS X (.Return none pos) Yf:=λ_ _ σ H _ I h=>wpAny_Return_none ⟨.au,σ,H,I,Y,h⟩
def X1(c:TT)(t u:TS):TS:=λD σ H=>c σ H (.Iw (t D σ H1) (u D σ H1))
theorem aQ{c:Expr}{a b: .e2}{tc:TT}(B:PT X c tc)(N:eF X a t)(S:eF X b u):PS X (.If c a b pos) (X1 tc t u):=by
 rw[120,wpAny_If (aE (B pins s σ H _ I h) λd U ⟨H1,n,R⟩=> ?_)]
 cases d with
 |true=>exact N pins U σ H1 D n R
 |false=>exact .mA U D n R
end
abbrev TG:=V->St-> .oO .gr
abbrev nR:=.s->St-> .oO .gr
def PG(X:Cx)(target:Expr)(t:TG):Prop:=∀(pins: .D) (s:Shared) (σ:St) (H:Hp) (v:V) (u:Value) (Q: .gr),.k-> .cA->t v σ H Q-> .IA (assign target .S u) (.vl (.dL σ'))
def vT(X:Cx)(ts: .bK)(t:nR):Prop:=∀(pins: .D) (s:Shared) (σ:St) (H:Hp) (vs: .s) (us: .q) (Q: .gr),.k-> .h1->t vs σ H Q-> .IA (assignInOrder (.Dp ts) us) (.vl (.dL σ'))
abbrev zL:=V->V->V-> .oO .f1
def DB(X:Cx)(t:zL):Prop:=∀(pins: .D) (s:Shared) (σ:St) (H:Hp) (o i v:V) (G iv u:Value) (Q: .f1),.k->RelV o G->RelV i iv-> .cA->t o i v H Q-> .IA (setItem G iv u) (∃H',.kH/\Q H')
section
variable{X:Cx}{pos:Pos}
def uj(i:Nat):TG:=λv σ H Q=>Q (σ.set i .aQ) H
theorem Ue{i:Nat}{x:Str}(d:X.N.Nodup)(hi: .hj= .aa)(W: .vm x)(N: .oT x∨ .eC x= .bh:=by first|exact .inl Y|exact .inr Y|assumption):PG X .pf (uj i):=by intro pins s σ H v u Q I r h;exact wpAny_assign_Name (xY I d hi W r (λs' L=>⟨_,H,L,h⟩) N)
def N3:nR:=λvs σ H Q=>vs=[]/\Q σ H
def N0(t:TG)(u:nR):nR:=λvs σ H Q=>∃v r,vs=v::r/\t v σ H fun σ' H'=>u r σ' H' Q
theorem Ib:vT X [] N3:=by intro pins s σ H vs us Q I r h;obtain⟨e,h⟩:=h;subst e;cases r;exact assignInOrder_nil ⟨σ,H,I,h⟩
theorem xD{e:Expr}{es: .bK}{t:TG}{u:nR}(h1:PG X e t)(h2:vT X es u)
  (L: .Dp (e::es)=assign e .S:: .Dp es:=by rfl):vT X (e::es) (N0 t u):=by
 intro pins s σ H vs us Q I r h
 obtain⟨v,d,F,h⟩:=h
 subst F
 cases r with
 |cons r B=>
  rw[L]
  rw[2,assignInOrder_cons (aE (h1 pins s σ H _ _ _ I r h) λ_ U ⟨σ1,H1,n,R⟩=> ?_),h2 pins U σ1 H1 _ _ Q n B R]
def N5(K:ag)(n:Nat)(t:nR):TG:=λv σ H Q=>∃a xs,v= .B/\ .eq/\ .r=n/\t xs σ H Q
theorem Ia{es: .bK}{k:Nat}{t:nR}{n:Nat}(B: .dO)(h:vT X es t)
  (G: .aA (.E2 es) n:=by rfl)(d:(.E2 es).findIdx? (·.1)=none:=by rfl):PG X (.Tuple es k pos) (N5 X.K n t):=by
 intro pins s σ H v u Q I r U
 obtain⟨a,xs,F,j,R,U⟩:=U
 subst F
 cases r
 obtain⟨g,D,V,hz⟩:=.cl j
 refine assign_Tuple_tuple .c7 V (by simp[G,<-R,D.length]) d λh' W=> ?_
 have i: .mv:=.E0 I .ag (W b o (.r1 e) e)
 exact h pins _ σ H xs _ Q i (by simpa using D) U
def N4(to g:TE)(t:zL):TG:=λv σ H Q=>to σ H λo H1=>g σ H1 λi H2=>t o i v H2 λV=>Q σ V
theorem H_{o i:Expr}{to g:TE}{t:zL}(d: .ov o)(hi: .A i g)(L:DB X t)
  (N:∀v,assign (.u5 o i) .S v=(do
   let G<-holding [v] (eval o X.env)
   let iv<-holding [v,G] (eval i X.env)
   standAt pos
   holding [v,G,iv] (setItem G iv v)
   release [v,G,iv] []):=by intro _;rfl):PG X (.u5 o i) (N4 to g t):=by
 intro pins s σ H v u Q I r h
 rw[N]
 rw[170,ju (aE (d pins s σ H _ I h) λG U ⟨x,H1,n,F,R⟩=> ?_),ak (ju (aE (hi pins U σ H1 _ n R) λiv B ⟨y,H2,W,D,j⟩=> ?_)),.sy (ak (ju (aE (L pins B σ H2 x y v G iv u _ W F D r j) λ_ M ⟨V,z,q⟩=> ?_)))]
 exact wpAny_release ⟨σ,V,z,q⟩
def x5(te:TE)(g:TG):TS:=λD σ H=>te σ H (λx H1=>g x σ H1 D.nx)
theorem Io{tg e:Expr}{te:TE}{g:TG}(d: .eB)(y:PG X tg g)(L:swapsWithSole [tg] e .hd .S= .kh:=by rfl)(j:swappedStores [tg] e .S=pure none:=by rfl)
  (h1: .Dp [tg]=[assign tg .S]:=by rfl): .yL [tg] e (x5 te g):=by
 intro pins s σ H D I h
 rw[15,wpAny_Assign_stores (.pD (d pins s σ H _ I h) ?_) L j,h1,aE (y pins U σ H1 x v _ n i R) λ_ B q=>q]
theorem UD{i:Nat}{x:Str}{e:Expr}{te:TE}{pos':Pos}(j:X.N.Nodup)(hi: .hj= .aa)(W: .vm x)(g: .eB)(L: .rk e .Do .hd= .kh:=by rfl)(N: .oT x∨ .eC x= .bh:=by first|exact .inl Y|exact .inr Y|assumption):
  .yL [.Do] e (x5 te (uj i)):=by
 intro pins s σ H D I h
 rw[2,Kk (.mm s H _ I h λv U ⟨y,H1,n,q,R⟩=> ?_) L,xY n j hi W q (λB d=>⟨_,H1,d,R⟩) N]
end
section
variable{X:Cx}{pos:Pos}
def JS(c:TT)(tb:TS):TS:=λD σ H=>∃W: .pd,(∃m,W m σ H)/\∀m σ H,W m σ H->c σ H (.Iw (∃N: .gr,(∀σ' H',N σ' H'->∃M,M<m/\W M σ' H')/\ .w1 N N σ H1) (.pi H1))
theorem mZ{c:Expr}{body: .e2}{tc:TT}{tb:TS}(hp: .Cj)(B:PT X c tc)(S: .rm X tb):PS X (.While c body [] pos) (JS tc tb):=by
 intro pins s σ H D I h;obtain⟨W,⟨g,d⟩,i⟩:=h;refine wpAny_While (codeAny_whileLoop (λn s'=>.vl (W n σ' H')) ?_ g ⟨σ,H,I,d⟩);rintro n U ⟨σ1,H1,I1,w1⟩;refine .hk (B pins U σ1 H1 _ I1 (i n σ1 H1 w1)) (λb s2 ⟨H2,y,L⟩=> ?_)
 cases b with
 |true=>
  obtain⟨N,R,L⟩:=L;rw[9,.M,.hk (S pins s2 σ1 H2 _ y L) (λf s3 q=> ?_)]
  cases f with
  |next=>obtain⟨σ3,V,z,F⟩:=q;obtain⟨M,j,G⟩:=R σ3 V F;exact⟨M,j,σ3,V,z,G⟩
  |cont=>obtain⟨σ3,V,z,F⟩:=q;obtain⟨M,j,G⟩:=R σ3 V F;exact⟨M,j,σ3,V,z,G⟩
  |brk=>exact q
  |ret v=>exact q
 |false=>rw[1,aa d7,pF ⟨σ1,H2,y,L⟩]
end
structure It where
 go: .lK
 iX: .ed (Hp-> .bT V)
 stop: .lK
def dG(X:Cx)(pins: .D)(H:Hp)(b:Addr):Prop:=H b=none/\ .j8/\ .oS b/\(b∈X.ex∨ .hx<=b)/\(∀x c,.fz= .ae->c≠b)/\ .vk (p.1≠b)
theorem Inv.iO{X:Cx}{pins: .D}{σ:St}{H H':Hp}{s:Shared}{b:Addr}(I: .k)(S: .u<=b)(G: .dg=none): .nj X H' b:=by
 refine⟨G,eO (cY I.lt S),I.Q5 S,.inr (cn I.sz S),λx c e z=> ?_,λp hp z=> ?_⟩
 ·obtain⟨v,q⟩:=.j2 x c e;rw[56,cY q.lt (.tq S)]
 ·rw[56,cY (bM (I.pin p hp).1) (.tq S)]
structure Turn(P:Program)(w:World)(K:ag)(tg:Expr)(J:It)(fp: .g)(it:Addr)(tn: .tC Nat):Prop where
 mem:it∈fp
 obj:∀i h,tn i h->∀b∈fp,∃o,.ck= .l/\∀v,.gZ≠ .cell v
 keep:∀i h h',tn i h->(∀b∈fp,∀o,.ck= .l-> .aM= .l)->tn i h'
 item:∀(X:Cx),.a6=P->X.w=w->X.K=K-> .dO->∀(i:Nat) (pins: .D) (s:Shared) (σ:St) (H:Hp) (E: .E),.k->(.uq X H b)->tn i .G->J.go i H->
  .bx P w X.A (pyNext .v4) (λr s1=>∃u,r= .V/\
   .bx P w X.A (letOwnedTupleGo tg .v4 u) (λ_ s2=>∃x H',.sv s2/\ .kK/\J.iX i H x H'/\tn .z s2.heap/\ .kt) E s1) E s
 done:∀(X:Cx),.a6=P->X.w=w->X.K=K-> .dO->∀(i:Nat) (pins: .D) (s:Shared) (σ:St) (H:Hp) (E: .E),.k->(.uq X H b)->tn i .G-> .iv J->
  .bx P w X.A (pyNext .v4) (λr s1=>r=none/\ .jq s1) E s
 self:∀(A:Around) (i:Nat) (s:Shared) (Q: .E) (E: .E),tn i .G-> .bV it s-> .bx P w A (pyIter .v4) Q E s
abbrev TI:=St-> .oO (.bT It)
def vU(X:Cx)(pins: .D)(σ:St)(tg:Expr)(R: .bT It)(d:Value)(g:Shared):Prop:=∃(L:Addr) (fp: .g) (y: .tC Nat) (B:It) (H':Hp),d= .m9/\ .sv g/\Turn .a6 X.w X.K tg B fp L y/\y 0 g.heap/\(.uq X H' b)/\R B H'
def PI(X:Cx)(tg iter:Expr)(N:TI):Prop:=∀(pins: .D) (s:Shared) (σ:St) (H:Hp) (R: .bT It),.k->N σ H R-> .y1 iter (λv U=>.go (pyIter v) (vU X pins σ tg R) U)
theorem oI{M:Model}{A:Around}{E: .E}{s:Shared}{tg:Expr}{L:Addr}{u:Value}{o:Obj}{n:String}{vs: .bf}{Q: .ge}(d: .jx L)(B:o.cls= .type n)(hd: .gZ= .fy)
  (G:["enumerate","zip","dict_itemiterator","dict_reverseitemiterator","odict_iterator","itertools.zip_longest","itertools.pairwise"].contains n= .a)(U:Q () s): .ht (letOwnedTupleGo tg .m9 u) s:=by
 unfold letOwnedTupleGo
 cases tg<;>first
  |exact aZ U
  |(cases u<;>first
    |exact aZ U
    |(refine ak (wpAny_load d ?_)
      rw[B,hd]
      show wpAny M A (if(["enumerate","zip","dict_itemiterator","dict_reverseitemiterator","odict_iterator","itertools.zip_longest","itertools.pairwise"].contains n&&vs[0]? ==some (rawInt _))=true then _ else _) Q E s
      rw[aa (by intro h;rw[G,Co]at h;cases h)]
      exact aZ U))
def lM(K:ag)(a:Addr):It:=⟨.HL (∃xs x,.fh/\ .iN= .aa) (H'=H/\∀xs,.fh-> .iN= .aa),λi H=>∃xs,.fh/\ .r<=i⟩
def r0(K:ag)(a:Addr):It:=⟨.HL (∃xs x,.eq/\ .iN= .aa) (H'=H/\∀xs,.eq-> .iN= .aa),λi H=>∃xs,.eq/\ .r<=i⟩
def kS(lo:Int)(n:Nat):It:=⟨λi _=>i<n,λi H x H'=>H'=H/\x= .int (lo+i),λi _=>n<=i⟩
theorem J1{P:Program}{w:World}{K:ag}{tg:Expr}(a L:Addr): .ol P w K tg (lM K a) [L] L (h.IsListIter L a i) where
 mem:=by simp
 obj:=λi h st b S=>by
  rw[152,b=L]
  obtain⟨o,e,c,d⟩:=st
  exact⟨o,e,.y2 d⟩
 keep:=λi h h' st k=>st.at λo e=>.kg L o e
 item:=by
  rw[143]
  obtain⟨xs,x,j,W⟩:=y
  rw[174,I,j]
  rw[342,D.get W,L]
  rw[145,wpAny_pyNext_list_item st .u3 (x:=u) (by simpa using hu) .HK,.mv,.kF (.dA sb b S e) q V G]
  rw[341,id M,⟨u,Y,.HI .dX e c d ⟨x,H,n,ru,⟨Y,.HJ (I.GB hy j) W⟩,M,.uW b S⟩⟩]
 done:=by
  rw[143]
  obtain⟨xs,j,W⟩:=y
  rw[174,I,j]
  rw[151,L]
  have R:=.kj
  exact wpAny_pyNext_list_end .c7 st .u3 (by simp;omega) λh' eb=>⟨Y,.kF (eb b o S e) q V G⟩
 self:=λ_ _ _ _ _ st h=>wpAny_pyIter_listiter st h
theorem YE{P:Program}{w:World}{K:ag}{tg:Expr}(a L:Addr): .ol P w K tg (r0 K a) [L] L (h.IsTupleIter L a i) where
 mem:=by simp
 obj:=λi h st b S=>by
  rw[152,b=L]
  obtain⟨o,e,c,d⟩:=st
  exact⟨o,e,.y2 d⟩
 keep:=λi h h' st k=>st.at λo e=>.kg L o e
 item:=by
  rw[143]
  obtain⟨xs,x,j,W⟩:=y
  obtain⟨g,D,p,hz⟩:=.cl j
  rw[342,D.get W,L]
  rw[145,wpAny_pyNext_tuple_item st (.Iz s a .aO) (x:=u) (by simpa using hu) .HK,.mv,.kF (.dA sb b S e) q V G]
  rw[341,id M,⟨u,Y,.HI .dX e c d ⟨x,H,n,ru,⟨Y,.HJ (I.Yw hy j) W⟩,M,.uW b S⟩⟩]
 done:=by
  rw[143]
  obtain⟨xs,j,W⟩:=y
  obtain⟨g,D,p,hz⟩:=.cl j
  rw[151,L]
  have R:=.kj
  exact wpAny_pyNext_tuple_end .c7 st (.Iz s a .aO) (by simp;omega) λh' eb=>⟨Y,.kF (eb b o S e) q V G⟩
 self:=λ_ _ _ _ _ st h=>wpAny_pyIter_tupleiter st h
theorem YB{P:Program}{w:World}{K:ag}{tg:Expr}(L:Addr)(lo:Int)(n:Nat): .ol P w K tg (kS lo n) [L] L (IsRangeIter h L (lo+ .jL*1) (.Z- .jL) 1) where
 mem:=by simp
 obj:=λi h st b S=>by
  rw[121,b=L,⟨_,st,(λv z=>by
   have z':Data.fields _=Data.cell v:=z
   cases z')⟩]
 keep:=λi h h' st k=>.kg L _ st
 item:=by
  rw[241,L]
  have W:=Walks.range (prog:=.a6) (w:=X.w) .c7 L lo 1 n
  refine W.item i s _ _ y st λv h' tk D M R=> ?_
  obtain⟨t,rfl⟩:=D
  have j: .uX tk:=.Cq I (R b o (by simpa using S) e) q f1 f3 V G
  rw[7,⟨_,Y,oI (s:=.qT) (n:="range_iterator") M rfl rfl (by decide) ⟨.int (lo+i),H,j,⟨t,?_⟩,⟨Y,Y⟩,M,.uW b S⟩⟩,rX]
 done:=by
  rw[241,L]
  exact wpAny_pyNext_range_end .c7 st (by have:n<=i:=y;omega) λh' g=>⟨Y,.kF (g b o S e) q V G⟩
 self:=λ_ _ _ _ _ st h=>wpAny_pyIter_rangeiter st h
section
variable{X:Cx}{tg:Expr}
def Fz(K:ag)(tl:TE):TI:=fun σ H R=>tl σ H λx H1=>∃a,x= .B/\(∃xs,ay K H1 a xs)/\R (lM K a) H1
def OB(K:ag)(tl:TE):TI:=fun σ H R=>tl σ H λx H1=>∃a,x= .B/\(∃xs,aM K H1 a xs)/\R (r0 K a) H1
theorem mW{l:Expr}{tl:TE}(d: .A l tl):PI X tg l (Fz X.K tl):=by
 rw[188,aE (d pins s σ H _ I h) λv U ⟨x,H1,n,i,y⟩=> ?_];obtain⟨a,e,⟨xs,j⟩,q⟩:=y;subst e;cases i;rw[174,n,j];rw[310,Kn .u3 ?_,⟨.L,[.L],_,_,H1,Y,.ur n U.toks,J1 a _,⟨.ma⟩,.fe,q⟩,b= .L,.Ck .y n]
theorem Ul{l:Expr}{tl:TE}(d: .A l tl):PI X tg l (OB X.K tl):=by
 rw[188,aE (d pins s σ H _ I h) λv U ⟨x,H1,n,i,y⟩=> ?_];obtain⟨a,e,⟨xs,j⟩,q⟩:=y;subst e;cases i;obtain⟨g,D,p,hz⟩:=n.tuple j;rw[310,wpAny_pyIter_tuple (.Iz U a .aO) ?_,⟨.L,[.L],_,_,H1,Y,.ur n U.toks,YE a _,⟨.ma⟩,.fe,q⟩,b= .L,.Ck .y n]
theorem Vc{pins: .D}{σ:St}{H:Hp}{s:Shared}{R: .bT It}{E: .E}{lo hi:Int}{t u v:Tok}{tk:Nat}(I: .k)(h1: .yo<=lo)(h2:lo<2^62)(h3: .yo<=hi)(h4:hi<2^62)
  (q:R (kS lo (.uy hi lo)) H): .lo (pyIter .e4) (vU X pins σ tg R) E (.Gm s "range" (.vj lo (.mC hi) 1 v) tk):=by
 rw[145,wpAny_pyIter_range (IsRange.new ..) (small_one h1 h2 h3 h4) ?_,.jq (.Gm s "range" (.vj lo (.mC hi) 1 v) tk),I.kept .D4]
 refine⟨.Iy s (.vj lo (.mC hi) 1 v),[.Iy s (.vj lo (.mC hi) 1 v)],_,_,H,Y,
  .ur n tk,YB _ lo (.uy hi lo),?_,.fe,q⟩
 ·rw[39,lo+ .kE*1=lo,by simp,(.m (.uy hi lo))- .kE=Builtin.Range.rangeSize lo hi 1,by rw[rangeSize_one];split<;>omega]
  show IsRangeIter _ _ (lo+ .kE*1) ((.m (.uy hi lo))- .kE) 1
  rw[13,F,D,.ee]
 ·rw[121,b=(.Iy s (.vj lo (.mC hi) 1 v)),.Ck .y n]
def Oy(ta:TA):TI:=.HH σ H (∃j:Int,vs=[.int j]/\ .yo<=j/\j<2^62/\R (kS 0 j.toNat) H1)
theorem pa{a:Expr}{ta:TA}{p pos:Pos}(y:Gl X "range")(g:X.mg "range"=none)(N: .cm [a] ta)(L: .bt a=[(.a,.Y a)]:=by rfl):PI X tg (.hO "range" p [a] [] pos) (Oy ta):=by
 rw[169,I,y,g,boot_range,.kf s I h λus U ⟨vs,H1,n,i,d⟩=> ?_,L,Y];obtain⟨j,e,d,z,q⟩:=d;subst e
 cases i with
 |cons r B=>cases B;rw[190,call_range_1 (Vc n (by omega) (by omega) d z (by simpa using q))]
def JP(d:TI)(g:TG)(tb:TS):TS:=λD σ H=>d σ H λB H1=>.tR 0 m σ H1 (W i m σ H->(.iv B/\ .ha)∨(B.go i H/\ .tS (N σ' H'->∃M,M<m/\ .tT M H') (.tl i H x-> .mw x H' N N)))
def q_(fp: .g)(h:Heap): .D:=fp.filterMap λb=>(.ck).map λo=>(b,o)
theorem qS{fp: .g}{h:Heap}{b:Addr}{o:Obj}(S:b∈fp)(e: .ck= .l):(b,o)∈q_ fp h:=Lj.mpr ⟨b,S,.Ix⟩
theorem Rg{fp: .g}{h:Heap}{p:Addr×Obj}(hp:p∈q_ fp h):p.1∈fp/\ .el p.1 p.2:=by
 obtain⟨b,S,e⟩:=Lj.mp hp
 cases q:h.get? b with
 |none=>rw[45,q]
 |some o=>rw[q]at e;have M:(b,o)=p:=eD e;subst M;exact⟨S,q⟩
theorem Inv.pinned{pins: .D}{σ:St}{H:Hp}{s:Shared}{fp: .g}(I: .k)(N: .uq X H b)(g:∀b∈fp,∃o,.ch/\∀v,.gZ≠ .cell v):Inv X (pins++q_ fp .G) σ H s:=
 I.Ic λp hp=>.ts (gV.mp hp) (I.pin p (iB _ z)) λz=>by
  obtain⟨S,e⟩:=Rg z
  obtain⟨q,f1,f2,_⟩:=N p.1 S
  obtain⟨o,M,d⟩:=g p.1 S
  rw[277,e,⟨e,q,f1,f2,d⟩]
theorem Inv.nv{pins pl: .D}{σ:St}{H:Hp}{s:Shared}(I:Inv X (pins++pl) σ H s): .k:=I.Ic λp hp=>I.pin p (iB _ (Li _ hp))
theorem ik{iter:Expr}{body: .e2}{wi:TI}{g:TG}{tb:TS}{pos:Pos}(hp: .Cj)(hc: .dO)(hi:PI X tg iter wi)(y:PG X tg g)(S: .rm X tb)
  (L:∀x,.Ci .S x=pure x:=by intro _;rfl):PS X (.For tg iter body [] pos) (JP wi g tb):=by
 rw[120,wpAny_For (aE (hi pins s σ H _ I h) (.GV h1 .GW)) L]
 obtain⟨it,fp,tn,B,H2,e,I2,T,st2,f2,W,⟨m0,w0⟩,turn⟩:=h2
 subst e
 have q:∀{H':Hp},.kt-> .uq X H' b:=λG b S=>⟨G b S,(f2 b S).2⟩
 refine EI (λn s'=>.Ch .zh (tn i .dN/\ .kt/\W i n σ' H')) ?_ m0 ⟨0,σ,H2,I2,st2,.si (f2 b S),w0⟩
 rintro n s3 ⟨i,σ3,V,z,st3,fr3,w3⟩
 rcases turn i n σ3 V w3 with⟨stop,qn⟩|⟨go,N,hN,step⟩
 ·refine .hk (T.done X Y rfl rfl hc i pins s3 σ3 V X.xe z (q fr3) st3 stop) (λr s4 ⟨M,I4⟩=> ?_)
  subst M
  exact pF ⟨σ3,V,I4,qn⟩
 ·refine .hk (T.item X Y rfl rfl hc i pins s3 σ3 V X.xe z (q fr3) st3 go) (λr s4 ⟨u,M,h4⟩=> ?_)
  subst M
  refine .hk h4 (λ_ s5 ⟨x,H5,I5,r5,y5,st5,fr5⟩=> ?_)
  have I5':=I5.pinned (q fr5) (T.obj _ _ st5)
  rw[0,.hk (y _ s5 σ3 H5 x u _ I5' r5 (step x H5 y5)) (λ_ s6 ⟨σ6,H6,I6,q6⟩=> ?_),.hk (S _ s6 σ6 H6 _ I6 q6) (λf R q7=> ?_)]
  have again:∀{σ7:St} {F:Hp},Inv X (pins++q_ fp s5.heap) σ7 F R->N σ7 F->∃m,m<n/\ .Ch (.ej σ' H' R) (tn i R.heap/\ .kt/\W i m σ' H'):=λ{σ7 F} I7 n7=>by
   obtain⟨m',j,w7⟩:=hN σ7 F n7
   refine⟨m',j,.z,σ7,F,I7.nv,.GU T _ _ _ st5 (I7.pin (b,o) (iB _ (iB _ (qS S e)))).1,.fe,w7⟩
   obtain⟨o,e,d⟩:=T.obj _ _ st5 b S
   exact(I7.pin (b,o) (iB _ (iB _ (qS S e)))).2.1
  cases f with
  |next=>obtain⟨σ7,F,I7,n7⟩:=q7;exact .Cg I7
  |cont=>obtain⟨σ7,F,I7,n7⟩:=q7;exact .Cg I7
  |brk=>obtain⟨σ7,F,I7,q7⟩:=q7;exact⟨σ7,F,I7.nv,q7⟩
  |ret v=>obtain⟨x7,σ7,F,I7,r7,q7⟩:=q7;exact⟨x7,σ7,F,I7.nv,r7,q7⟩
end
theorem ug{K:ag}{a:Addr}{xs: .s}{g:TG}{tb:TS}{D:Ends}{σ:St}{H:Hp}(Pv: .pd)(F: .gu 0)(R:∀i σ H,i<= .r-> .g9-> .fh)
  (L:∀i x σ H,.iN= .aa-> .g9-> .mw x H .dl .dl)(hd:∀σ H,.gu .r-> .ha):
  .tR 0 m σ H (W i m σ H->
   (.iv (lM K a)/\ .ha)∨((lM K a).go i H/\ .tS (N σ' H'->∃M,M<m/\ .tT M H') ((lM K a).iX i H x H'-> .mw x H' N N))):=by
 rw[259,⟨.xv (m= .r-i) (i<= .r/\ .g9),⟨.r,.o0,F⟩,?_⟩]
 rw[348,R i σ H hi p,i< .r]
 ·rw[347,.inr ⟨⟨xs,xs[i],.HO⟩,.dl,.xu ⟨.r- .z,.it,j,d⟩ ?_⟩,L i x σ _ (y xs q) p]
 ·rw[99,i= .r,⟨⟨xs,q,.y⟩,hd σ H p⟩]
theorem NU{K:ag}{a:Addr}{xs: .s}{g:TG}{tb:TS}{D:Ends}{σ:St}{H:Hp}(Pv: .pd)(F: .gu 0)(R:∀i σ H,i<= .r-> .g9-> .eq)
  (L:∀i x σ H,.iN= .aa-> .g9-> .mw x H .dl .dl)(hd:∀σ H,.gu .r-> .ha):
  .tR 0 m σ H (W i m σ H->
   (.iv (r0 K a)/\ .ha)∨((r0 K a).go i H/\ .tS (N σ' H'->∃M,M<m/\ .tT M H') ((r0 K a).iX i H x H'-> .mw x H' N N))):=by
 rw[259,⟨.xv (m= .r-i) (i<= .r/\ .g9),⟨.r,.o0,F⟩,?_⟩]
 rw[348,R i σ H hi p,i< .r]
 ·rw[347,.inr ⟨⟨xs,xs[i],.HO⟩,.dl,.xu ⟨.r- .z,.it,j,d⟩ ?_⟩,L i x σ _ (y xs q) p]
 ·rw[99,i= .r,⟨⟨xs,q,.y⟩,hd σ H p⟩]
theorem uh{lo:Int}{n:Nat}{g:TG}{tb:TS}{D:Ends}{σ:St}{H:Hp}(Pv: .pd)(F: .gu 0)
  (L:∀i σ H,i<n-> .g9-> .mw (.int (lo+i)) H .dl .dl)(hd:∀σ H,.gu n-> .ha):
  .tR 0 m σ H (W i m σ H->
   (.iv (kS lo n)/\ .ha)∨((kS lo n).go i H/\ .tS (N σ' H'->∃M,M<m/\ .tT M H') ((kS lo n).iX i H x H'-> .mw x H' N N))):=by
 rw[299,⟨.xv (m=n-i) (i<=n/\ .g9),⟨n,.o0,F⟩,?_⟩,i<n]
 ·refine .inr ⟨j,.dl,.xu ⟨n- .z,.it,j,d⟩ ?_⟩
  obtain⟨e,y⟩:=y
  subst e y
  exact L i σ _ j p
 ·rw[99,i=n,⟨.y,hd σ H p⟩]
theorem YS{c:TT}{tb:TS}{D:Ends}{σ:St}{H:Hp}(Pv: .gr)(μ:St->Hp->Nat)(F:Pv σ H)
  (L:∀σ H,Pv σ H->c σ H (.Iw (.w1 (fun σ' H'=>Pv σ' H'/\μ σ' H'<μ σ H) (fun σ' H'=>Pv σ' H'/\μ σ' H'<μ σ H) σ H1) (.pi H1)))
  (mono:∀σ H Q n,(∀b H1,Q b H1->n b H1)->c σ H Q->c σ H n):JS c tb D σ H:=by
 refine⟨λm σ H=>m=μ σ H/\Pv σ H,⟨_,Y,F⟩,?_⟩
 rintro m σ H ⟨rfl,p⟩
 refine mono σ H _ _ (λb H1 q=> ?_) (L σ H p)
 cases b with
 |true=>exact⟨_,fun σ' H' ⟨d,l⟩=>⟨_,l,Y,d⟩,q⟩
 |false=>exact q
abbrev R2:=V-> .kM
def cD(X:Cx)(f: .aw-> .aw-> .mB)(r:R2):Prop:=∀(pins: .D) (s:Shared) (σ:St) (H:Hp) (x y:V) (v u:Value) (Q:VK),.k-> .hu-> .fB y->r x y H Q-> .gv (f v u) s
def zM(X:Cx)(f: .aw-> .mB)(r: .kM):Prop:=∀(pins: .D) (s:Shared) (σ:St) (H:Hp) (x:V) (v:Value) (Q:VK),.k-> .hu->r x H Q-> .gv (f v) s
def gU(X:Cx)(f:Value)(r: .e5):Prop:=∀(pins: .D) (s:Shared) (σ:St) (H:Hp) (xs: .s) (us: .q) (Q:VK),.k-> .eG->r xs H Q-> .Cl f us s
def x8(r:R2)(ta tb:TE):TE:=.j7 (.Dm σ H1 (r x y H2 Q))
def Yk(r: .kM)(ta:TE):TE:=.j7 (r x H1 Q)
def rI(C: .bk Int Int)(g:Int->Int->V):R2:=.Di (x= .aL/\y= .pY/\C i j/\Q (g i j) H)
def m5(g:Int->Int->V):R2:=.Di (x= .aL/\y= .pY/\Q (g i j) H)
def rU(g:Int->V): .kM:=λx H Q=>∃i,x= .aL/\Q (g i) H
section
variable{X:Cx}{a b c:Expr}{ta tb tc:TE}{pos:Pos}
theorem zU(N: .eH)(S: .km){pins: .D}{s:Shared}{σ:St}{H:Hp}{R:V-> .bT V}(I: .k)
  (h:ta σ H λx H1=>.Dm σ H1 (R x y H2)){Q: .E}{f: .aw-> .aw-> .mB}
  (d:∀v u B x y H2,.cL H2 B-> .hu-> .fB y->R x y H2-> .go (f v u) Q B):
  .y1 a (λv q=>.Iv (.Y b) (.go (f v u) Q g) q):=by
 rw[35,.kl _ I h λv U ⟨x,H1,n,i,j⟩=> ?_,.Io (.mA U _ n j) ?_,d v u B x y H2 W i D L]
theorem aL{op:Operator}{r:R2}(d: .ff op r)(N: .eH)(S: .km): .A (.BinOp a op b pos) (x8 r ta tb):=by intro pins s σ H Q I h;exact wpAny_BinOp (zU N S I h λv u B x y H2 W M F q=>d pins B σ H2 x y v u Q W M F q)
theorem mV{op:UnaryOp}{r: .kM}(d:zM X (unaryOp op) r)(N: .eH): .A (.Iu op a) (Yk r ta):=by intro pins s σ H Q I h;exact UnaryOp_ (.mz s H _ I h (d pins U σ H1 x v Q n i R))
theorem mQ{f: .aw-> .aw-> .mB}{C: .bk Int Int}{g:Int->Int->Int}
  (rule: .It .E (C i j->Q (.int (g i j) .ag) .hm-> .lo (f (.hX i) (.mC j)) Q E s)):
  cD X f (rI C (.fL (g i j))):=by
 intro pins s σ H x y v u Q I M F h
 obtain⟨i,j,rfl,rfl,B,q⟩:=h
 rw[359,rule i j t t' s _ _ B ⟨.j6 (g i j),⟨_,Y⟩,q⟩]
theorem HD{f: .aw-> .aw-> .mB}{g:Int->Int->Int}
  (rule: .It .E (Q (.int (g i j) .ag) .hm-> .lo (f (.hX i) (.mC j)) Q E s)):
  cD X f (m5 (.fL (g i j))):=by
 intro pins s σ H x y v u Q I M F h
 obtain⟨i,j,rfl,rfl,q⟩:=h
 rw[359,rule i j t t' s _ _ ⟨.j6 (g i j),⟨_,Y⟩,q⟩]
theorem xt{f: .aw-> .aw-> .mB}{g:Int-> .c1 Int}
  (rule: .It .E (Q (.bool (g i j)) s-> .lo (f (.hX i) (.mC j)) Q E s)):
  cD X f (m5 (.yO (g i j))):=by
 intro pins s σ H x y v u Q I M F h
 obtain⟨i,j,rfl,rfl,q⟩:=h
 rw[359,rule i j t t' s _ _ ⟨.bl (g i j),H,I,Y,q⟩]
def KI(i j:Int):Prop:=0<j/\j<1073741824
def yB(i j:Int):Prop:=(-(2^64)<i/\i<2^64)∨(-(2^64)<j/\j<2^64)
theorem yB.ok{i j:Int}(h:yB i j):IntMulOk i j:=by
 rcases h with⟨h1,h2⟩|⟨h1,h2⟩
 ·exact .of_left (intBits_le_64 h1 h2)
 ·exact .of_right (intBits_le_64 h1 h2)
theorem YH(k:Nat):(0:Int)<=2^k:=by rw[two_pow_cast];exact Int.natCast_nonneg _
theorem c9: .ff .Add (m5 (.fL (i+j))):=HD λ_ _ _ _ _ _ _ q=>add_int q
theorem fN: .ff .Sub (m5 (.fL (i-j))):=HD λ_ _ _ _ _ _ _ q=>sub_int q
theorem A9: .ff .Mult (rI yB (.fL (i*j))):=.xJ (mul_int q B.ok)
theorem HE: .tb X (rI KI (.fL (i/j))):=.Iq (by have h1: .gg j:=B.1;have h2:j<1073741824:=B.2;exact floordiv_int (by omega) (.Ir (.wU i)) (.inl (LB (by omega))))
theorem TQ: .ff .Mod (.Eg (0<j) (.fL (i%j))):=.Iq (by have h1: .gg j:=B;exact mod_int' (by omega) (.Ir (.GA i)))
theorem HF: .ff .Mod (.tc j (.fL (i.fmod j))):=.xJ (mod_int' B q)
theorem HI: .ff .RShift (.Eg (0<=j) (.fL (i/2^j.toNat))):=.Iq (rshift_int B (.Ir (lL i (YH _))))
theorem YI{f: .aw-> .mB}{g:Int->Int}
  (rule:∀(i:Int) (t:Tok) (s:Shared) (Q: .E) (E: .E),Q (.int (g i) .ag) .hm-> .lo (f (.hX i)) Q E s):
  zM X f (rU λi=>.int (g i)):=by
 intro pins s σ H x v Q I M h
 obtain⟨i,rfl,q⟩:=h
 rw[88,rule i t s _ _ ⟨.j6 (g i),⟨_,Y⟩,q⟩]
theorem nu:zM X (unaryOp .USub) (rU λi=>.int (-i)):=YI λ_ _ _ _ _ q=>neg_int q
end
def IW:V-> .c1 V
 | .au,.au=>true| .au,.int _=>true| .int _,.au=>true| .au,.bl _=>true| .bl _,.au=>true| .au,.str _=>true| .str _,.au=>true
 | .int _,.int _=>true| .bl _,.bl _=>true| .str _,.str _=>true| .gp _,.gp _=>true
 | .int _,.str _=>true| .str _,.int _=>true| .bl _,.str _=>true| .str _,.bl _=>true
 |_,_=>.a
def UT:R2:=λx y H Q=>.c (IW x y)/\ .cx (.a9 x y)
def U1:R2:=λx y H Q=>.c (IW x y)/\ .cx (! .a9 x y)
theorem Ai{i j:Int}: .a9 (V.int i) (V.int j)=(i==j):=.Ip
theorem ES{i j:Bool}: .a9 (V.bl i) (V.bl j)=(i==j):=.Ip
theorem EU{i j:Str}: .a9 (V.str i) (V.str j)=(i==j):=.Ip
theorem ET{i j: .FH}: .a9 (V.gp i) (V.gp j)=(i.toList==j.toList):=by rw[j3];cases i;cases j;simp
section
variable{X:Cx}{a b c:Expr}{ta tb tc:TE}{pos:Pos}
theorem cZ{pins: .D}{σ:St}{H:Hp}{s:Shared}{Q:VK}{k U:Bool}(I: .k)(q: .cx k)(e:k=U): .iR (.bool U) s:=by subst e;exact⟨.bl k,H,I,Y,q⟩
theorem bN: .eF .Eq UT:=by
 intro pins s σ H x y v u Q I M F h;obtain⟨L,q⟩:=h
 cases x with
 |au=>
  cases M
  cases y with
  |au=>rw[33,PySem.EqNone.eq_none_none .c9]
  |bl j=>rw[33,PySem.EqNone.eq_none_bool .c9]
  |int j=>rw[31,PySem.EqNone.eq_none_int .c9]
  |str j=>rw[31,PySem.EqNone.eq_none_str .c9]
  |_=>rw[57]
 |bl i=>
  cases M
  cases y with
  |au=>rw[33,PySem.EqNone.eq_bool_none .c9]
  |bl j=>rw[33,eq_bool (cZ I q ES)]
  |str j=>rw[31,PySem.EqMixed.eq_bool_str .c9]
  |_=>rw[57]
 |int i=>
  obtain⟨t,rfl⟩:=M
  cases y with
  |au=>rw[33,PySem.EqNone.eq_int_none .c9]
  |int j=>rw[31,eq_int (cZ I q Ai)]
  |str j=>rw[31,PySem.EqMixed.eq_int_str .c9]
  |_=>rw[57]
 |str i=>
  obtain⟨t,rfl⟩:=M
  cases y with
  |au=>rw[33,PySem.EqNone.eq_str_none .c9]
  |bl j=>rw[33,PySem.EqMixed.eq_str_bool .c9]
  |int j=>rw[31,PySem.EqMixed.eq_str_int .c9]
  |str j=>rw[31,eq_str (cZ I q EU)]
  |_=>rw[57]
 |gp i=>
  obtain⟨t,rfl⟩:=M
  cases y with
  |gp j=>rw[31,PySem.W.eq_bytes (cZ I q ET)]
  |_=>rw[57]
 |_=>cases y<;>rw[57]
theorem jj: .eF .NotEq U1:=by
 intro pins s σ H x y v u Q I M F h;obtain⟨L,q⟩:=h
 cases x with
 |au=>
  cases M
  cases y with
  |au=>rw[33,PySem.EqNone.ne_none_none .c9]
  |bl j=>rw[33,PySem.EqNone.ne_none_bool .c9]
  |int j=>rw[31,PySem.EqNone.ne_none_int .c9]
  |str j=>rw[31,PySem.EqNone.ne_none_str .c9]
  |_=>rw[57]
 |bl i=>
  cases M
  cases y with
  |au=>rw[33,PySem.EqNone.ne_bool_none .c9]
  |bl j=>rw[33,ne_bool (cZ I q (dZ not ES))]
  |str j=>rw[31,PySem.EqMixed.ne_bool_str .c9]
  |_=>rw[57]
 |int i=>
  obtain⟨t,rfl⟩:=M
  cases y with
  |au=>rw[33,PySem.EqNone.ne_int_none .c9]
  |int j=>rw[31,ne_int (cZ I q (dZ not Ai))]
  |str j=>rw[31,PySem.EqMixed.ne_int_str .c9]
  |_=>rw[57]
 |str i=>
  obtain⟨t,rfl⟩:=M
  cases y with
  |au=>rw[33,PySem.EqNone.ne_str_none .c9]
  |bl j=>rw[33,PySem.EqMixed.ne_str_bool .c9]
  |int j=>rw[31,PySem.EqMixed.ne_str_int .c9]
  |str j=>rw[31,ne_str (cZ I q (dZ not EU))]
  |_=>rw[57]
 |gp i=>
  obtain⟨t,rfl⟩:=M
  cases y with
  |gp j=>rw[31,PySem.W.ne_bytes (cZ I q (dZ not ET))]
  |_=>rw[57]
 |_=>cases y<;>rw[57]
theorem gO: .eF .Lt (m5 (.yO (.f5 i j))):=.Dn (lt_int q)
theorem iU: .eF .LtE (m5 (.yO (.eM i j))):=.Dn (le_int q)
theorem ic: .eF .Gt (m5 (.yO (.f5 j i))):=.Dn (gt_int q)
theorem oY: .eF .GtE (m5 (.yO (.eM j i))):=.Dn (ge_int q)
theorem GZ(b:Expr){op:CmpOp}(h:op≠ .In:=by decide)(h2:op≠ .NotIn:=by decide): .vi b= .a:=by
 rw[39,(op==CmpOp.In)= .a,by cases op<;>first|rfl|exact absurd rfl h,(op==CmpOp.NotIn)= .a,by cases op<;>first|rfl|exact absurd rfl h2]
 cases b<;>simp[behindInMarks,F,D]
theorem fO{op:CmpOp}{r:R2}(d: .eF op r)(N: .eH)(S: .km)(j: .vi b= .a:=by exact GZ _): .A (.vh a [op] [b]) (x8 r ta tb):=by intro pins s σ H Q I h;exact wpAny_Compare1 (zU N S I h λv u B x y H2 W M F q=>d pins B σ H2 x y v u Q W M F q) j
def JR(t:TE):TT:=.n2 H (λx H'=>∃k,x= .bl k/\ .dL k)
theorem aU{op:CmpOp}{r:R2}(d: .eF op r)(N: .eH)(S: .km)(j: .vi b= .a:=by exact GZ _):PT X (.vh a [op] [b]) (JR (x8 r ta tb)):=by rw[358,wpAny_isTrue_Compare1 (.mz s H _ I h (.Io (.mA U _ n R) (aE (d pins B σ H2 x y v u _ W i D L) λc F ⟨z,V,q,g,k,e,G⟩=> ?_))) j];cases g;exact lF ⟨V,q,G⟩
def JO(r U:R2)(ta tb tc:TE):TE:=.j7 (.Dm σ H1 (r x y H2 λz V=>∃k,z= .bl k/\(.aq k (tc σ V λN q=>U y N q Q) (.ni .a V))))
theorem Bg{op g:CmpOp}{r r':R2}(ho: .eF op r)(F: .eF g r')(N: .eH)(S: .km)(B: .A c tc)
  (j:lastMarks [op,g] [b,c]= .a:=by with_unfolding_all rfl): .A (.vh a [op,g] [b,c]) (JO r r' ta tb tc):=by
 rw[358,Compare_chain (.mz s H _ I h (chain_link (aE (.mA U _ n R) λu s2 ⟨y,H2,W,D,L⟩=>
  aE (ho pins s2 σ H2 x y v u _ W i D L) λd s3 ⟨z,V,I3,r3,k,e,G⟩=> ?_))) j]
 cases r3
 refine lF ?_
 cases k with
 |false=>exact ite_ff ⟨.bl .a,V,I3,Y,G⟩
 |true=>exact ite_tt (chain_last (aE (B pins s3 σ V _ I3 G) λw' s4 ⟨z',q,I4,M,q4⟩=>F pins s4 σ q y z' u w' Q I4 D M q4))
theorem uS{op op':CmpOp}{r r':R2}(ho: .eF op r)(F: .eF op' r')(N: .eH)(S: .km)(B: .A c tc)
  (j:lastMarks [op,op'] [b,c]= .a:=by with_unfolding_all rfl):PT X (.vh a [op,op'] [b,c]) (JR (JO r r' ta tb tc)):=by
 rw[358,isTrue_chain (.mz s H _ I h (test_link (aE (.mA U _ n R) λu s2 ⟨y,H2,W,r2,L⟩=>
  aE (ho pins s2 σ H2 x y v u _ W i r2 L) λd s3 ⟨z,V,I3,r3,k,e,G⟩=> ?_))) j]
 cases r3
 refine lF ?_
 cases k with
 |false=>
  obtain⟨k',M,q'⟩:=G
  rw[59,ite_ff ⟨V,I3,q'⟩]
 |true=>
  refine ite_tt (test_last (aE (B pins s3 σ V _ I3 G) λw' s4 ⟨z',q,I4,r4,q4⟩=>aE (F pins s4 σ q y z' u w' _ I4 r2 r4 q4) λd' s5 ⟨z2,H5,I5,g,k2,D,q5⟩=> ?_))
  subst D
  cases g
  exact lF ⟨H5,I5,q5⟩
theorem qN:(.W:Nat)<2^63:=by rw[br];decide
theorem vals1{x:V}{us: .q}(r: .ne [x]):∃u,us=[u]/\ .kK:=by
 cases r with
 |cons i D=>cases D;exact⟨_,Y,i⟩
theorem vals2{x y:V}{us: .q}(r: .ne [x,y]):∃u N,us=[u,N]/\ .kK/\RelV y N:=by
 cases r with
 |cons i D=>
  cases D with
  |cons g M=>rw[59,⟨.h,i,g⟩]
theorem z5: .r6 X "abs" (∃i,xs=[.aL]/\ .dr (.db i (-i) i)):=by intro pins s σ H xs us Q I r h;obtain⟨i,rfl,q⟩:=h;rw[223,r];exact call_abs_int λu tk=>⟨.j6 (.db i (-i) i),⟨_,Y⟩,q⟩
theorem Eu(B: .dO): .r6 X "max" (∃i j,xs=(.jQ .aL j)/\ .dr (if j>i then j else i)):=by
 intro pins s σ H xs us Q I r h;obtain⟨i,j,rfl,q⟩:=h;obtain⟨u,N,rfl,⟨t,rfl⟩,⟨t',rfl⟩⟩:=vals2 r;refine max_two_ints .c7 λh' tk k=>⟨_,H,I.kept k,?_,q⟩;by_cases D:j>i
 ·rw[13,af D,af D,⟨_,Y⟩]
 ·rw[13,aa D,aa D,⟨_,Y⟩]
theorem wu: .sE X (.type "str") (∃i,xs=[.aL]/\ .Fk i/\ .gw .xI H):=by intro pins s σ H xs us Q I r h;obtain⟨i,rfl,hz,q⟩:=h;obtain⟨u,rfl,t,rfl⟩:=.r4;exact PySem.P.str_of_int hz ⟨.str _,.eb _,⟨_,Y⟩,q⟩
theorem MI: .r6 X "ord" (∃x,xs=(.cX x)/\ .gU=1/\Q (.a5 (x.cps.getD 0 0)) H):=by intro pins s σ H xs us Q I r h;obtain⟨x,rfl,hz,q⟩:=h;obtain⟨u,rfl,t,rfl⟩:=.r4;exact ord_of_one hz ⟨.j6 _,⟨_,Y⟩,q⟩
end
structure nN(h:Heap)(x dx C:Addr)(mA: .d):Prop where
 obj: .el x (.oR dx)
 ns:h.Ns1 dx mA
 ne:dx≠x
theorem GD{h:Heap}{dx:Addr}{mA: .d}(n:h.Ns1 dx mA):∃U,.el dx U/\∀name,.Im U=some (mA name):=by
 obtain⟨o,es,i,d,hd,G,_,j⟩:=n;refine⟨o,d,λname=> ?_⟩;have e:=j name;unfold nsFind findBy at e;rw[<-Array.find?_toList]at e;unfold PySem.W.lookIn;rw[323,hd];split
 ·rename_i y q;rw[q]at e;exact dZ some e
 ·rename_i q;rw[q]at e;have a:es.toList.any (·.refKey)= .a:=by rw[K_];intro y g;obtain⟨z,t,D⟩:=G y (KC.mp g);simp[DictEntry.refKey,D]
  have B:¬ .c (es.toList.any (·.refKey)):=by rw[a];exact d7
  rw[1,aa B,dZ some e]
theorem nN.look{h:Heap}{x dx C:Addr}{mA: .d}(I:nN h x dx C mA):∃U,.yN h (.oR dx) C (some U)/\∀name,.Im U=some (mA name):=
 let ⟨U,ho,hl⟩:=GD I.ns
 ⟨U,⟨I.obj,Y,Y,ho⟩,hl⟩
section
variable{prog:Program}{w:World}{A:Around}{E: .E}{s:Shared}{K:ag}{x dx C f:Addr}{mA: .d}{name:Str}{v:Value}
theorem get_map{expr:Bool}{Q: .E}(X: .j0)(I:nN .G x dx C mA)(y: .yM K C name)(n: .rP C)
  (N: .rO K name)(D:mA name= .aQ)(d: .Ik v)(h:Q v .hm):
  .cz (getAttr .a4 name expr):=by
 obtain⟨U,B,R⟩:=I.look
 exact PySem.W.get_value X B (DN y).1 (LJ n N Y (by rw[R,D])) d h
theorem N9{pl: .lV}{Q: .cq (.aw× .q)}(X: .j0)(I:nN .G x dx C mA)(y: .yM K C name)
  (N: .sf K name (.jj f))(V: .Id K .ai)(D:mA name=none)(h:Q (.ai,[.a4]) s):
  .cz (getMethod .a4 name pl):=by
 obtain⟨U,B,R⟩:=I.look
 exact PySem.W.method_fn X B (DN y).1 (DN y).2 N (kg.mp V) (by show(.Im U).map (·.isSome)=some .a;rw[R,D];rfl) h
theorem Vy{ns: .H}{Q: .ge}(X: .j0)(I:nN .G x dx C mA)
  (L: .Dk K .w .vf)(hp: .Ii K C)(V:PySem.W.takerIn K C name= .ph)(n: .rP C)
  (U: .Ij ns)(hsz: .aT ns)
  (h:∀h',nN h' x dx C (λy=>.bd (y=name) v (mA y))-> .m7 dx h'->Q () (.je (.ag+2))):
  .cz (setAttr .a4 name v):=by
 obtain⟨S,B,R⟩:=I.look
 refine LO X B L (PySem.W.osa_open (s:=.hm) (r:=none) X B hp V λb=> ?_)
 obtain⟨N,q,i⟩:=DK n
 have W: .hK x ⟨.w,some dx,.plain,#[]⟩:=I.obj
 rw[111,.qY (ak (ak (wpAny_loadPart W (.vg .hm (DM X q) ?_)))),i,aZ (a:=some dx) (.qY (ak ?_)),wpAny_nsSet1 (s:=.hm) I.ns λh' D d=> ?_]
 obtain⟨g,M,j,z,F,G⟩:=D.count (PySem.Within.cons name v U)
 rw[221,wpAny_lookBehind z (.Il (pastItsLine_dict (cn G .o4))) ?_,aZ (h _ ⟨.dA d _ (eQ I.ne) I.obj,D,I.ne⟩ d)]
theorem Qz{R: .mb}{vs: .q}{i: .rK}(X: .j0)(j: .c (PySem.W.makesIn K C))
  (hi: .Dg K .w f)(N: .rR .ai= .Dl)
  (h: .rQ (.vd A ⟨.w::vs,i⟩) .ai ⟨.sn .u::vs,i⟩ (PySem.W.InitBack .b7 R) (.I1 .rN (.oR .u))):
  .rQ A .w ⟨vs,i⟩ R s:=by
 obtain⟨n,g,d,t,os⟩:=s
 exact PySem.W.make_core (PySem.W.makes_of X j) (vX X hi) (λself=>PySem.W.bind_fn X self N) .ao h
end
def aO(f:Str)(v:V): .c6-> .c6
 |[]=>[(f,v)]
 |(g,x)::r=>.f9 g f (g,v) r ((g,x)::aO f v r)
theorem aH(f g:Str)(v:V):∀fs: .c6,.so (aO f v fs) g (.bd (g=f) v (fs.lookup g))
 |[]=>by
  show List.lookup g [(f,v)]=_
  rw[52,g,f]
  ·rw[104,.eh g f,kg,h]
   simp only[List.lookup,S,af h]
  ·rw[104,(g==f)= .a,lg,h]
   simp only[List.lookup,S,aa h]
 |(k,x)::r=>by
  have j:=aH f g v r
  rw[357,aO f v ((k,x)::r),k=f,(k,v)::r,(k,x)::aO f v r,k=f]
  ·rw[af G]
   rw[52,g,k]
   ·rw[104,.eh g k,kg,h]
    simp only[List.lookup,S,af (h.trans G)]
   ·rw[104,(g==k)= .a,lg,h]
    simp only[List.lookup,S,aa (λe:g=f=>h (e.trans G.symm))]
  ·rw[aa G]
   rw[52,g,k]
   ·rw[104,.eh g k,kg,h]
    simp only[List.lookup,S,aa (λe:g=f=>G (h.symm.trans e))]
   ·rw[104,(g==k)= .a,lg,h]
    simp only[List.lookup,S]
    exact j
theorem AD(f:Str)(v:V):∀fs: .c6,f∈ .cC (aO f v fs)/\∀g,g∈ .cC fs->g∈ .cC (aO f v fs)
 |[]=>⟨by simp[aO],λg h=>by simp at h⟩
 |(k,x)::r=>by
  obtain⟨d,i⟩:=AD f v r
  rw[357,aO f v ((k,x)::r),k=f,(k,v)::r,(k,x)::aO f v r,k=f]
  ·rw[af G]
   subst G
   exact⟨by simp,λg h=>by simpa using h⟩
  ·rw[9,aa G,⟨?_,λg h=> ?_⟩]
   ·rw[1,d9,.aH d]
   ·rw[d9]at h⊢
    rcases bu.mp h with e|e
    ·exact .tG bu e
    ·exact .aH (i g e)
theorem Gx(f:Str)(v:V):∀fs: .c6,.K (aO f v fs) (.aG fs)
 |[]=>by simp[aO]
 |(k,x)::r=>by
  have j:=Gx f v r
  rw[357,aO f v ((k,x)::r),k=f,(k,v)::r,(k,x)::aO f v r,k=f]
  ·rw[113,af G,bp,bp]
  ·rw[113,aa G,bp,bp]
theorem gG.some_of{v:V}{o: .gz}(r:gG .aQ o):∃u,o= .V/\ .cA:=by
 cases o with
 |none=>exact .D3 .bU
 |some u=>exact⟨u,Y,r⟩
theorem gG.none_of{o: .gz}(r:gG none o):o=none:=by
 cases o with
 |none=>rfl
 |some u=>exact .D3 .bU
theorem Fs{v:V}{u:Value}(r: .cA): .Ik u:=by
 cases v with
 |au=>cases(show u=Value.none from r);rfl
 |bl b=>cases(show u=Value.bool b from r);rfl
 |int i=>rw[144,∃t,u= .rI t];cases e;rfl
 |str x=>rw[144,∃t,u= .ys x];cases e;rfl
 |gp b=>rw[144,∃t,u=Value.bytes b t];cases e;rfl
 |my b=>rw[144,∃t,u= .Ih b];cases e;rfl
 |ref a=>cases(show u=Value.ref a from r);rfl
 |ty n=>cases(show u=Value.type n from r);rfl
section
variable{P:Program}{w:World}{H H':Hp}{h h':Heap}{a C dx:Addr}{fs fs': .c6}
theorem wM(aw: .iE)(e:H a= .kL):∃mA,nN h a dx C mA/\(∀f,.Dj fs f (mA f))/\ .Ij (.cC fs)/\ .yh<=1000/\H dx= .kN a:=by obtain⟨d,z,ne,R,mA,n,r,q⟩:=(show dk P w H h a (.ins C dx fs)from aw a _ e);exact⟨mA,⟨R,n,ne⟩,r,q,z,d⟩
end
structure eL(K:ag)(C:Addr):Prop where
 pg: .yM K C Str.empty
 hd: .rP C
 po: .Ii K C
 sa: .Dk K .w .vf
theorem eL.get{K:ag}{C:Addr}(c:eL K C)(f:Str): .yM K C f:=c.pg
def hG(K:ag)(C:Addr)(f:Str):Prop:=.rO K f
theorem hG.Yr{K:ag}{C:Addr}{f:Str}(n:hG K C f):PySem.W.takerIn K C f= .ph:=by unfold PySem.W.takerIn;rw[show .rO K f from n];rfl
structure Meth(K:ag)(C:Addr)(m:Str)(f:Addr):Prop where
 at_: .sf K m (.jj f)
 fn: .Id K .ai
 kp: .me K
section
variable{X:Cx}{pins: .D}{σ:St}{H:Hp}{s:Shared}{a C dx:Addr}{fs: .c6}{f:Str}{v:V}{A:Around}{E: .E}
theorem Fo{b:Bool}{Q: .E}(I: .k)(e:H a= .kL)(c: .oa C)(n:hG X.K C f)(l: .O fs f v)
  (h:∀u s',.jq s'-> .cA->Q u s'): .bx .a6 X.w A (getAttr .B f b) Q E s:=by
 obtain⟨mA,d,r,_,_,_⟩:=wM I.aw e
 obtain⟨u,L,ru⟩:=.Gr v (mA f) l (r f)
 exact get_map I.bT d (c.get f) c.hd n L (Fs ru) (h u _ (I.tok _) ru)
theorem Ao{m:Str}{g:Addr}{pl: .lV}{Q: .cq (.aw× .q)}(I: .k)(e:H a= .kL)(c: .oa C)(k:Meth X.K C m g)(l: .cy fs m)
  (h:Q (.q5,.cW) s): .bx .a6 X.w A (getMethod .B m pl) Q E s:=by
 obtain⟨mA,d,r,_,_,_⟩:=wM I.aw e
 have G:mA m=none:=gG.none_of (by rw[<-l];exact r m)
 exact N9 I.bT d (c.get m) k.at_ k.fn G h
theorem IZ{y:V}{u:Value}{Q: .ge}(I: .k)(e:H a= .kL)(c: .oa C)(n:hG X.K C f)(R: .yh<1000)(F: .fB y)
  (h:∀s',.cL (.eL H a C dx (aO f y fs)) s'->Q () s'): .bx .a6 X.w A (setAttr .B f u) Q E s:=by
 obtain⟨mA,d,r,N,_,j⟩:=wM I.aw e
 have hz: .aT (.cC fs):=.sz bh
 refine Vy I.bT d c.sa c.po n.Yr c.hd N hz λh' i W=>h _ ?_
 have hd:∃o,.qV dx:=let ⟨o,_,_,e',_⟩:=i.ns;⟨o,e'⟩
 rw[0,.HZ I a dx e .bo (.inr j) (λb q S z=>.hb b S z) hd ?_,⟨.bp d.ne j,?_,d.ne,i.obj,_,i.ns,λg=> ?_,λg B=> ?_⟩]
 ·rw[23,Gx f y fs]
 ·rw[61,.Dj (aO f y fs) g (.bd (g=f) u (mA g)),aH]
  by_cases q:g=f
  ·rw[13,af q,af q,F]
  ·rw[13,aa q,aa q,r g]
 ·by_cases q:g=f
  ·rw[1,q,(AD f y fs).1]
  ·rw[227,(AD f y fs).2 g (N g λz=>B ?_),(.bd (g=f) u (mA g))=none,aa q,z]
theorem Inv.made(I: .k): .cL (.jt .u .b7 .b7 C .u) (.I1 .rN (.oR .u)):=by
 rw[39,(.rN).get? .u=some .E8,cW .G Y,((.rN).push (.oR .u)).get? .b7=some (.oR .u),by
  have:=.xw .rN (.oR .u)
  rwa [gk]at this]
 have d:(.rN).Ns .u .rJ:=⟨.E8,#[],_,F,Y,λe i=>.hW i,.ec⟩
 have n:=I.laid (a:=.u) (o:=.own .b7) (h':=.rN) (t':=.ag) (.CW q) .y ⟨_,F⟩
 refine n.laid (a:=.b7) (o:=.ins C .u []) (t':=.ag) (.CW q) (sg (gk _ _)) ?_
 have ne: .u≠ .b7:=dj (si _)
 refine⟨by rw[aC ne,aB],.ab,ne,D,.rJ,(Heap.Ns1.of_empty d).at λo q=>.co q,.q0,λy g=>.BL g⟩
theorem Ee{prog:Program}{w:World}{env:Env}{e:Expr}{f:Str}{pos:Pos}{s:Shared}{Q: .E}(S:attributeBase e f env (.gd e)= .gd e) (h: .bx prog w A (.gd e) (λo N=>.bx prog w A (getAttr o f true) Q E N) E s): .cz (.gd (.oQ e pos)):=Attribute_any_ h (by rw[arm_eval_Attribute,S])
end
def XZ(K:ag)(ta:TE)(f:Str):TE:=.j7 (∃a C dx fs v,x= .B/\H1 a= .kL/\eL K C/\hG K C f/\ .O fs f v/\Q v H1)
def Vt(K:ag)(ta tv:TE)(f:Str):TS:=λD σ H=>tv σ H λy H1=>ta σ H1 λx H2=>∃a C dx fs,x= .B/\H2 a= .kL/\eL K C/\hG K C f/\ .yh<1000/\ .pi (.eL H2 a C dx (aO f y fs))
def yT(X:Cx)(op:Operator)(rd:V-> .kM):Prop:=∀(pins: .D) (s:Shared) (σ:St) (H:Hp) (x y:V) (u v:Value) (Q:VK),.k-> .kK->RelV y v->rd x y H Q-> .gv (inplaceOp op u v) s
def Vu(K:ag)(ta tv:TE)(rd:V-> .kM)(f:Str):TS:=λD σ H=>ta σ H λx H1=>∃a C dx fs v,x= .B/\H1 a= .kL/\eL K C/\hG K C f/\ .O fs f v/\tv σ H1 λy H2=>rd v y H2 λz d=>∃dx' fs',d a= .pw dx' fs'/\fs'.length<1000/\ .pi (.eL d a C dx' (aO f z fs'))
section
variable{X:Cx}{o e value:Expr}{f:Str}{pos pos' tpos:Pos}{ta tv:TE}
theorem J(g: .jo e)(S: .md e f e= .dC:=by rfl): .A (.oQ e pos) (XZ X.K ta f):=by rw[34,Ee S (.mm s H _ I h λu U ⟨x,H1,d,M,a,C,dx,fs,v,ex,i,c,n,l,q⟩=> ?_)];subst ex;obtain rfl: .hH u a:=M;exact Fo d i c n l λF B W ru=>⟨v,H1,W,ru,q⟩
theorem aS(N: .jo o)(i: .A value tv)(L: .rk value (.oQ o pos') .hd= .kh:=by rfl): .yL [.oQ o pos'] value (Vt X.K ta tv f):=by rw[356,Uq (aE (i pins s σ H _ I h) λu U ⟨y,H1,d,F,q⟩=>aE (N pins U σ H1 _ d q) λG B ⟨x,H2,W,M,a,C,dx,fs,ex,g,c,n,l,j⟩=> ?_) L,G,a];exact IZ W g c n l F λR z=>⟨σ,_,z,j⟩
theorem pf{op:Operator}{rd:V-> .kM}(N: .jo o)(hv: .A value tv)(d:yT X op rd):PS X (.AugAssign (.oQ o tpos) op value pos) (Vu X.K ta tv rd f):=by rw[356,wpAny_AugAssign_AttributeAny (.kl _ I h λov U ⟨x,H1,R,M,a,C,dx,fs,v,ex,g,c,n,l,q⟩=> ?_),ov,a];rw[2,Fo R g c n l λu B W ru=>aE (hv pins B σ H1 _ W q) λG s3 ⟨y,H2,S,F,q3⟩=>aE (d pins s3 σ H2 v y u G _ S ru F q3) λL s4 ⟨z,H3,I4,rz,dx',fs',j,l',i⟩=> ?_,IZ I4 j c n l' rz λs5 I5=>⟨σ,_,I5,i⟩]
def UO:V-> .kM:=.Di (x= .aL/\y= .pY/\ .dr (i+j))
def Va:V-> .kM:=.Di (x= .aL/\y= .pY/\ .dr (i-j))
theorem qJ:yT X .Add UO:=by rintro pins s σ H x y u v Q I M F ⟨i,j,rfl,rfl,q⟩;obtain⟨t,rfl⟩:=(show∃t,u= .rI t from M);obtain⟨t',rfl⟩:=(show∃t',v=Value.int j t' from F);exact PyProof.Rows.iadd_int ⟨.j6 (i+j),⟨_,Y⟩,q⟩
theorem OK:yT X .Sub Va:=by rintro pins s σ H x y u v Q I M F ⟨i,j,rfl,rfl,q⟩;obtain⟨t,rfl⟩:=(show∃t,u= .rI t from M);obtain⟨t',rfl⟩:=(show∃t',v=Value.int j t' from F);exact PyProof.Rows.isub_int ⟨.j6 (i-j),⟨_,Y⟩,q⟩
theorem Y6{pl: .lV}{m:Str}{apos:Pos}{args: .bK}{pins: .D}{s:Shared}{σ:St}{H:Hp}{Q: .E}{te:TE}(i: .eB)(I: .k)
  (h:te σ H λx H1=>∃a C dx fs g,x= .B/\H1 a= .kL/\ .oa C/\Meth X.K C m g/\ .cy fs m/\
   ∀U,.cL H1 U-> .go (callWith pos .q5 .cW (.wf pos args) (backToKw pos (keywordEach [] .S))) Q U)
  (V: .qL e m args=(do
   let G<-eval e X.env
   standAt apos.atName
   let (f,first)<-holding [G] (getMethod G m pl)
   callWith pos f first (backTo pos (starEach args X.env)) (backToKw pos (keywordEach [] X.env)))):
  .dR (.qL e m args) Q:=by
 refine .yJ (aE (i pins s σ H _ I h) λu U ⟨x,H1,n,M,a,C,dx,fs,g,ex,d,c,k,l,q⟩=> ?_) V
 subst ex
 obtain rfl: .hH u a:=M
 exact Ao n d c k l (q U n)
end
section
variable{X:Cx}{pins: .D}{σ:St}{H:Hp}{s:Shared}{A:Around}{E: .E}{Q: .E}{c:Value}{b:Bool}
inductive gX(K:ag)(H:Hp): .bk V .aw where
 |au: .rM K H .au "NoneType"
 |bl (x:Bool): .rM K H (.bl x) "bool"
 |int (i:Int): .rM K H .aL "int"
 |str (x:Str): .rM K H .iD "str"
 |my (x:UInt64): .rM K H (.my x) "float"
 |lst {a:Addr} {xs: .s} (e:H a= .cu):gX K H .B .o7
 |aD {a:Addr} {o:Obj} {xs: .s} (e:H a= .k8 o (.lst xs)):gX K H .B .o7
 |tup {a:Addr} {xs: .s} (e:H a= .gY):gX K H .B .h2
 |dK {a:Addr} {kvs: .xr V} (e:H a=some (.dK kvs)): .rM K H .B "dict"
 |dT {a:Addr} {kvs: .hF (List Key) V} (e:H a=some (.dT kvs)): .rM K H .B "dict"
 |ins {a C dx:Addr} {fs: .c6} (e:H a= .kL) (cl:eL K C) (ha: .sf K "__class__" .G4)
   (hn: .G3 K .zx= .G2) (htk: .G1 K= .d2)
   (hm: .zi C .Be= .d2):gX K H .B .w
theorem Pe{x:V}{u t:Value}(I: .k)(M: .kK)(ty:gX X.K H x t)(e:PySem.W.kitOne X.K t c= .ki)(h:∀tk,Q (.bool b) {s with toks:=tk}):
  .bx .a6 X.w A (.oJ "isinstance" [u,c]) Q E s:=by
 cases ty with
 |au=>cases(show u=Value.none from M);rw[77,PySem.W.kitx_none,.bo]
 |bl y=>cases(show u=Value.bool y from M);rw[77,PySem.W.kitx_bool,.bo]
 |int i=>rw[355,∃t,u= .rI t,PySem.W.kitx_int,.bo]
 |str y=>rw[355,∃t,u= .ys y,PySem.W.kitx_str,.bo]
 |my y=>rw[355,∃t,u= .Ih y,PySem.W.kitx_float,.bo]
 | @lst a xs g=>
  cases(show u=Value.ref a from M)
  obtain⟨_,_,n,_,h1⟩:=.yK H .G a (.lst xs) a g
  rw[77,LL,⟨_,h1,Y⟩]
 | @aD a R xs g=>
  cases(show u=Value.ref a from M)
  obtain⟨_,_,_,n,_,h1⟩:=.yK H .G a (.aD R (.lst xs)) a g
  rw[77,LL,⟨_,h1,Y⟩]
 | @tup a xs g=>
  cases(show u=Value.ref a from M)
  obtain⟨_,_,_,p⟩:=.yK H .G a (.tup xs) a g
  obtain⟨o,h1,h2,_⟩:=p
  rw[77,PySem.W.kitx_tuple,⟨o,.cc⟩]
 | @dK a F g=>
  cases(show u=Value.ref a from M)
  obtain⟨_,_,vs,_,p⟩:=.yK H .G a (.dK F) a g
  obtain⟨o,es,D,h1,h2,_⟩:=p
  rw[77,LK,⟨o,h1,h2.1⟩]
 | @dT a F g=>
  cases(show u=Value.ref a from M)
  obtain⟨_,_,xs,_,o,es,D,h1,h2,_⟩:=.yK H .G a (.dT F) a g
  rw[77,LK,⟨o,h1,h2.1⟩]
 | @ins a C dx fs g cl N G S j=>
  cases(show u=Value.ref a from M)
  obtain⟨mA,d,_⟩:=wM I.aw g
  obtain⟨U,B,_⟩:=d.look
  rw[77,PySem.W.kitx_own (cl.get _) cl.hd N G S j,B]
end
structure cb(k:Nat)(A:Around):Prop where
 hd: .tZ=none
 dp:A.depth+3*k+5< .Dh
 un:A.units+16*k+200<cLine
theorem cb.mono{j k:Nat}{A:Around}(r:cb k A)(h:j<=k):cb j A:=⟨r.hd,.Ig,by have:=r.un;omega⟩
theorem cb.deeper{k:Nat}{A:Around}(r:cb (k+1) A)(env:Env):cb k (A.deeper env):=⟨r.hd,by have:=r.dp;show A.depth+1+3*k+5<_;omega,by have:=r.un;show A.units+3+16*k+200<_;omega⟩
theorem Qy{A:Around}{C:Addr}{us: .q}{i: .rK}:(.vd A ⟨.w::us,i⟩).depth=A.depth+1:=by first|rfl|simp[Around.under,Code.weight,Code.isCreation,Code.isGuard,Code.isCaller,Code.frames,Code.isFrame,guardIds]
theorem QB{A:Around}{C:Addr}{us: .q}{i: .rK}:(.vd A ⟨.w::us,i⟩).units=A.units+1:=by first|rfl|simp[Around.under,Code.cUnits,Code.frames,Code.isFrame]
theorem cb.make{k:Nat}{A:Around}(r:cb (k+1) A)(C:Addr)(us: .q)(i: .rK):cb k (.vd A ⟨.w::us,i⟩):=⟨r.hd,by have:=r.dp;rw[Qy];omega,by have:=r.un;rw[QB];omega⟩
theorem cb.depth{k:Nat}{A:Around}(r:cb k A):A.depth< .Dh:=.Ig
theorem cb.units{k:Nat}{A:Around}(r:cb k A):A.units+64<cLine:=by have:=r.un;omega
def f9:TA:=.D5 [] H
def cN(ta:TE)(d:TA):TA:=.j7 (d σ H1 λxs H2=>Q (x::xs) H2)
section
variable{X:Cx}{e:Expr}{es: .bK}{te:TE}{t:TA}{pos:Pos}
theorem dO: .cm [] f9:=λ_ _ _ _ H Q I h=>yD ⟨[],H,I,.nil,h⟩
theorem cu(N: .eB)(M: .cm es t)(L: .fm= .fl:=by rfl): .cm (e::es) (cN te t):=by intro pos pins s σ H Q I h;rw[L];show .fo (spliced ((.a,.dC):: .wf pos es)) s;rw[2,vi (.kl _ I h λu U ⟨x,H1,n,i,R⟩=> ?_),aE (M pos pins U σ H1 _ n R) λus B ⟨xs,H2,W,D,d⟩=>⟨x::xs,H2,W,.cons i D,d⟩]
def Yj(t:TA):TE:=.n2 H (λxs H1=>.r<= .W/\∀p,H1 p=none-> .bV p (.pn H1 p xs))
def X5(t:TA):TE:=.n2 H (λxs H1=>.r<= .W/\∀p,H1 p=none-> .lb p H1 p xs)
theorem dE{B}(h: .cm es t): .A (.Tuple es B pos) (Yj t):=by rw[354,wpAny_Tuple_spliced (aE (h pos pins s σ H _ I j) λus U ⟨xs,H1,n,r,z,q⟩=>⟨.Ie z,?_⟩)];have N:H1 .L=none:=.sk n;rw[2,⟨.tW,.pn H1 .L xs,.xG n U.toks (λb u e=>.eO) ?_,Y,q _ N⟩,⟨z,us,r,⟨_,.ee,.aR⟩⟩]
theorem bF(h: .cm es t): .A (.List es pos) (X5 t):=by rw[354,wpAny_List_spliced (aE (h pos pins s σ H _ I j) λus U ⟨xs,H1,n,r,z,q⟩=>⟨.Ie z,?_⟩)];have N:H1 .L=none:=.sk n;rw[2,⟨.tW,.bZ H1 .L xs,.xG n U.toks (λb u e=>.eO) ?_,Y,q _ N⟩,⟨z,us,0,r,.ee⟩]
end
abbrev Sp:=.s->Hp-> .bk VK XK
abbrev fG:=.d6->Hp->Shared->XK-> .E
structure lH(P:Program)(w:World)(K:ag)(mg: .d)(base:Heap)(A:Around)(outer: .d6)(s:Shared)(H:Hp):Prop where
 frames: .oD= .Co
 mod:Mod K mg base
 bs: .fD (base.get? b) (.ch/\H b=none)
 kj:base.objs.size<= .u
 hW: .ve base .a0
 mz:∀b∈hU .a0,H b=none
 aw: .l3 H .G
 bare: .tD s
def CE(outer: .d6)(P:Program)(w:World)(H:Hp)(s:Shared)(Q:VK)(u:Value)(s':Shared):Prop:=∃v H',s'.os=s.os/\ .tD s'/\Un (hU .a0) [] H H' .G .dN/\ .l3 H' .dN/\ .cA/\ .dL v
def CR(CX:fG)(outer: .d6)(P:Program)(w:World)(H:Hp)(s:Shared)(Q:VK)(E:XK)(r:Result)(s':Shared):Prop:=
 match r with
 | .ok (.ret u)=>CE .a0 P w H s Q u s'
 | .ok _=>.bU
 | .error e=>CX .a0 H s E e s'
structure ah(P:Program)(w:World)(K:ag)(mg: .d)(base:Heap)(CX:fG)(k:Nat)(f:Addr)(fd:FuncData)(ps: .H)(sp:Sp):Prop where
 len: .us H Q E vs
 run:∀(A:Around) (outer: .d6) (s:Shared) (H:Hp) (args:Args) (us: .q) (vs: .s) (Q:VK) (E:XK),cb k A->lH P w K mg base A .a0 s H-> .tB s fd args us-> .h1->sp vs H Q E->
  codeAny (model P w) A (.call .ai args) (CR CX .a0 P w H s Q E) s
theorem ah.imp{P:Program}{w:World}{K:ag}{mg: .d}{base:Heap}{CX:fG}{k:Nat}{f:Addr}{fd:FuncData}{ps: .H}{sp d:Sp}(F: .J P w K CX k f fd ps sp) (h:∀vs H Q E,d vs H Q E->sp vs H Q E): .J P w K CX k f fd ps d:=⟨λvs H Q E q=>F.len vs H Q E (h _ _ _ _ q),λA outer s H args us vs Q E M g S D L=>F.run A .a0 s H args us vs Q E M g S D (h _ _ _ _ L)⟩
theorem lH.make{P:Program}{w:World}{K:ag}{mg: .d}{base:Heap}{A:Around}{outer: .d6}{s:Shared}{H:Hp}(e:lH P w K mg base A .a0 s H)(C:Addr)(us: .q)(i: .rK):lH P w K mg base (.vd A ⟨.w::us,i⟩) .a0 s H:=⟨by first|exact e.frames|(simpa[Around.under,Code.envs,Code.isFrame,pushEnvs]using e.frames),e.mod,e.bs,e.kj,e.hW,e.mz,e.aw,e.bare⟩
section
variable{X:Cx}{pins: .D}{σ:St}{H:Hp}{s s':Shared}
theorem Inv.wC(I: .k):lH .a6 X.w X.K X.mg .ca X.A .bv s H:=⟨.va,.yz,I.bs,cn .v8 I.sz,I.stack,I.xX,I.aw,.rF⟩
theorem Inv.after{Q:VK}{u:Value}(I: .k)(h:CE .bv .a6 X.w H s Q u s'): .iR u s':=by obtain⟨v,H',os,bare,un,aw,r,q⟩:=h;obtain⟨n,g,d,t,i⟩:=s';obtain rfl:i=s.os:=os;exact⟨v,H',I.call (h':=n) (g':=g) (d':=d) (t':=t) (ch:=[]) un aw bare (λb z=>.hW z),r,q⟩
end
def u4(sp:Sp)(dvs: .s)(E:St->XK)(t:TA):TE:=.Ib H (sp (vs++dvs) H1 Q (E σ))
def x6(C:Addr)(m:Str)(sp:Sp)(dvs: .s)(E:St->XK)(ta:TE)(t:TA):TE:=.j7 (∃a dx fs,x= .B/\H1 a= .kL/\ .cy fs m/\t σ H1 λvs H2=>sp (x::(vs++dvs)) H2 Q (E σ))
def BY(C:Addr)(sp:Sp)(dvs: .s)(E:St->XK)(t:TA):TE:=.Ib H (∀x dx,H1 x=none->H1 dx=none->dx≠x->sp (.a4::(vs++dvs)) (.eL (upd H1 dx (.own x)) x C dx []) (λv H2=>v= .au/\ .iH H2) (E σ))
def Binds(K:ag)(fd:FuncData)(ps: .H)(ds: .q):Prop:=.B3 (.j0-> .jr (us++ds)-> .tB s fd ⟨.fg⟩ (us++ds))
theorem Binds.all{K:ag}{fd:FuncData}{ps: .H}(h:∀us: .q,.a8= .aV->bindArgs fd ⟨.fg⟩= .o9):Binds K fd ps []:=λs us _ R=>by rw[cC]at R⊢;exact .of_eq (h us R)
def Passes(CX:fG)(X:Cx)(E:St->XK):Prop:=∀(pins: .D) (σ:St) (H:Hp) (s:Shared) (e:Value) (s':Shared),.k->CX .bv H s (E σ) e s'->X.xe e s'
section
variable{X:Cx}{CX:fG}{k:Nat}{f C:Addr}{fd:FuncData}{ps: .H}{sp:Sp}{dvs: .s}{ds: .q}{E:St->XK}{x m:Str}{p pos apos:Pos}{e o:Expr}{es: .bK}{ta:TE}{t:TA}
theorem rk{pins: .D}{σ:St}{H:Hp}{s:Shared}{Q:VK}{us: .q}{vs: .s}(F: .hw)(M: .h7)(S: .kv)(hd: .ku)(W: .iY)
  (I: .k)(r: .h1)(h:sp (vs++dvs) H Q (E σ)): .Cl .ai us s:=by
 rw[171,vs++dvs,us++ds,.r5 hd]
 rw[311,.jr (us++ds),.kj,F.len _ _ _ _ h]
 refine pE (qt (F.run X.A .bv s H ⟨.fg⟩ (us++ds) (vs++dvs) Q (E σ) M I.wC (S s us I.bT R) D h) λr s' j=> ?_)
 cases r with
 |error e=>exact W pins σ H s e s' I j
 |ok d=>
  cases d with
  |ret u=>exact I.after j
  |next=>rw[21,j]
  |brk=>rw[21,j]
  |cont=>rw[21,j]
theorem Be(F: .hw)(M: .h7)(y: .bR)(j: .cD= .I f)(G: .me X.K)(S: .kv)(hd: .ku)(W: .iY)
  (N: .g7)(d: .bu= .a:=by decide)(g: .fm= .fl:=by rfl)(i: .iG= .a:=by rfl):
  .kb x p (e::es) (u4 sp dvs E t):=by
 rw[224,.oC I y j d,.u4 I G (.kf s I h λus U ⟨vs,H1,n,r,q⟩=>⟨n.bT,?_⟩) g i]
 exact rk F M S hd W n r q
theorem Bf(F: .hw)(M: .h7)(y: .bR)(j: .cD= .I f)(G: .me X.K)(S: .kv)(hd: .ku)(W: .iY)
  (d: .bu= .a:=by decide): .kb x p [] (u4 sp dvs E f9):=by
 rw[146,.oC I y j d,vW I.bT G (rk (us:=[]) F M S hd W I .nil h)]
theorem Ub{pl: .lV}(g: .jo o)(c: .oa C)(j:Meth X.K C m f)(F: .hw)(M: .h7)(S: .kv)(hd: .ku)(W: .iY)(N: .g7)
  (R: .fm= .fl:=by rfl)(d: .iG= .a:=by rfl)
  (V: .qL o m (e::es)=(do
   let G<-eval o X.env
   standAt apos.atName
   let (f,first)<-holding [G] (getMethod G m pl)
   callWith pos f first (backTo pos (starEach (e::es) X.env)) (backToKw pos (keywordEach [] X.env))):=by rfl):
  .ka o m (e::es) (x6 C m sp dvs E ta t):=by
 rw[301,.yJ (.mm s H _ I h λu U ⟨x,H1,n,z,a,dx,fs,ex,y,l,q⟩=> ?_) V]
 obtain rfl: .hH u a:=z
 rw[35,Ao n y c j l ?_,ql (first:=.cW) (h₀:=.ca) I.ok.mod.kin j.kp (aE (N pos pins U σ H1 _ n q) λus B ⟨vs,H2,i,r,L⟩=>⟨i.bT,?_⟩) R d,rk (us:=.B::us) (vs:=.B::vs) F M S hd W i (.cons Y r) L]
theorem Uc{pl: .lV}(g: .jo o)(c: .oa C)(j:Meth X.K C m f)(F: .hw)(M: .h7)(S: .kv)(hd: .ku)(W: .iY)
  (V: .qL o m []=(do
   let G<-eval o X.env
   standAt apos.atName
   let (f,first)<-holding [G] (getMethod G m pl)
   callWith pos f first (backTo pos (starEach [] X.env)) (backToKw pos (keywordEach [] X.env))):=by rfl):
  .ka o m [] (x6 C m sp dvs E ta f9):=by
 rw[301,.yJ (.mm s H _ I h λu U ⟨x,H1,n,i,a,dx,fs,ex,d,l,q⟩=> ?_) V]
 obtain rfl: .hH u a:=i
 rw[2,Ao n d c j l ?_,vW (first:=.cW) n.bT j.kp (rk (us:=.cW) (vs:=.cW) F M S hd W n (.dE Y) q)]
structure Mk(K:ag)(C f:Addr):Prop where
 makes: .c (PySem.W.makesIn K C)
 init: .Dg K .w f
 fn: .Id K .ai
 kp: .Ic K .w true
theorem IT{pins: .D}{σ:St}{H:Hp}{s:Shared}{Q:VK}{us: .q}{vs: .s}(M:Mk X.K C f)(F: .hw)(q: .rL k)(S: .kv)(hd: .ku)
  (W: .iY)(I: .k)(r: .h1)
  (h:∀x dx,H x=none->H dx=none->dx≠x->sp (.a4::(vs++dvs)) (.jt dx x x C dx) (λv H2=>v= .au/\ .iH H2) (E σ)):
  .Cl .w us s:=by
 have j:=h .b7 .u (.rG (qb _)) .hc (dj (si _))
 have d:=Inv.made (C:=C) I
 rw[171,V.ref .b7::(vs++dvs),.hN .b7 (us++ds),.cons Y (.r5 hd)]
 have R: .jr (.oP .b7++ds):=by
  have e:=.kj
  rw[F.len _ _ _ _ j]at e
  exact e.symm
 refine pE (Qz (f:=f) I.bT M.makes M.init (kg.mp M.fn) (qt (F.run _ .bv _ _ ⟨.oP .b7,[]⟩ (.hN .b7 (us++ds)) _ _ (E σ) (q.make C us []) (d.wC.make C us []) (S _ (.oP .b7) d.bT R) D j) λr s' i=> ?_))
 cases r with
 |error e=>exact W pins σ _ _ e s' d i
 |ok n=>
  cases n with
  |ret u=>
   obtain⟨v,H',z,y,g,G⟩:=d.after i
   subst g
   exact⟨y,⟨V.ref .b7,H',z,Y,G⟩⟩
  |next=>rw[21,i]
  |brk=>rw[21,i]
  |cont=>rw[21,i]
theorem mU(M:Mk X.K C f)(F: .hw)(z: .rL k)(y: .bR)(j: .cD= .I C)(S: .kv)(hd: .ku)(W: .iY)
  (N: .g7)(d: .bu= .a:=by decide)(g: .fm= .fl:=by rfl)(i: .iG= .a:=by rfl):
  .kb x p (e::es) (BY C sp dvs E t):=by
 rw[224,.oC I y j d,.u4 I M.kp (.kf s I h λus U ⟨vs,H1,n,r,q⟩=>⟨n.bT,?_⟩) g i]
 exact IT M F z S hd W n r q
theorem uR(M:Mk X.K C f)(F: .hw)(g: .rL k)(y: .bR)(j: .cD= .I C)(S: .kv)(hd: .ku)(W: .iY)
  (d: .bu= .a:=by decide): .kb x p [] (BY C sp dvs E f9):=by
 rw[146,.oC I y j d,vW I.bT M.kp (IT (us:=[]) M F g S hd W I .nil h)]
end
structure nE(N P: .H)(sc:Scope):Prop where
 kind: .y9 sc.kind
 co:sc.isCoroutine= .a
 gen:sc.isGenerator= .a
 nd:N.Nodup
 pre:N.take P.length=P
 par:∀x∈P,.D7 sc x .bh∨ .D7 sc x .cH
 Q4:∀y∈sc.names,y.2≠ .free
theorem Ej{kindOf: .De .sC}{x:Str}:∀{binds: .rK} {m: .d},(∀v,(x,v)∉binds)-> .Df binds m x=m x
 |[],_,_=>rfl
 |(n,v)::r,m,h=>by
  unfold bindL
  rw[Ej λw U=>.k1 w U]
  split
  ·have:x≠n:=by rintro rfl;exact h v bX
   simp[this]
  ·rfl
theorem Eh{kindOf: .De .sC}{x:Str}:∀{binds: .rK} {m: .d},(∀v,(x,v)∉binds)-> .Dd binds m x=m x
 |[],_,_=>rfl
 |(n,v)::r,m,h=>by
  unfold bindC
  rw[Eh λw U=>.k1 w U]
  split
  ·rfl
  ·have:x≠n:=by rintro rfl;exact h v bX
   simp[this]
theorem Ei{kindOf: .De .sC}{x:Str}{v:Value}:∀{P: .H} {vs: .q} {i:Nat} {m: .d},P.Nodup-> .a1 P= .aa-> .a1 vs= .aQ->kindOf x= .bh->
  .Df (P.zip vs) m x= .aQ
 |[],_,_,_,_,h,_,_=>by simp at h
 |_::_,[],_,_,_,_,h,_=>by simp at h
 |p::P,w::vs,0,m,nd,h1,h2,hk=>by
  simp at h1 h2;subst h1;subst h2
  show .Df ((p,w)::P.zip vs) m p=_
  unfold bindL
  rw[Ej λv D=>(.Dc).1 (zj D).1,af hk]
  simp
 |p::P,w::vs,i+1,m,nd,h1,h2,hk=>by
  show .Df ((p,w)::P.zip vs) m x=_
  unfold bindL
  exact Ei (i:=i) (.Dc).2 (by simpa using h1) (by simpa using h2) hk
theorem Eg{kindOf: .De .sC}{x:Str}{v:Value}:∀{P: .H} {vs: .q} {i:Nat} {m: .d},P.Nodup-> .a1 P= .aa-> .a1 vs= .aQ->kindOf x≠ .bh->
  .Dd (P.zip vs) m x= .aQ
 |[],_,_,_,_,h,_,_=>by simp at h
 |_::_,[],_,_,_,_,h,_=>by simp at h
 |p::P,w::vs,0,m,nd,h1,h2,hk=>by
  simp at h1 h2;subst h1;subst h2
  show .Dd ((p,w)::P.zip vs) m p=_
  unfold bindC
  rw[Eh λv D=>(.Dc).1 (zj D).1,aa hk]
  simp
 |p::P,w::vs,i+1,m,nd,h1,h2,hk=>by
  show .Dd ((p,w)::P.zip vs) m x=_
  unfold bindC
  exact Eg (i:=i) (.Dc).2 (by simpa using h1) (by simpa using h2) hk
def start(N: .H)(vs: .s):St:=vs.map some++ .rh (N.length- .qr)
def e_(CX:fG)(P:Program)(w:World)(K:ag)(mg: .d)(base:Heap)(N: .H)(g:Str)(d:Scope)(f:Addr)(W:Value)(A:Around)(outer: .d6)(s:Shared)(H:Hp)(E:XK):Cx where
 prog:=P
 w:=w
 K:=K
 mg:=mg
 base:=base
 A:=A.deeper (.iZ g d f W)
 N:=N
 ey:=s
 rQ:=H
 env:=.iZ g d f W
 outer:=.a0
 stack:=.iZ g d f W:: .a0
 ex:=[]
 calm:=true
 fn:=λ_=>true
 pn:=[]
 xe:=λe s'=>.bx P w (A.deeper (.iZ g d f W)) (PySem.leaving (.iZ g d f W) e) (λ_ i=>CX .a0 H s E e i) (λM i=>CX .a0 H s E M i) s'
theorem Ez{z:Scope}{n:Nat}{x:Str}(h: .gj x= .cH):∃c,.O (.sd n z []) x c:=by have q:=DL z.names n [] .oB;exact vS.mp q
theorem FO{CX:fG}{P:Program}{w:World}{K:ag}{mg: .d}{base:Heap}{N ps: .H}{g:Str}{d:Scope}{f:Addr}{W:Value}{A:Around}{outer: .d6}{s U:Shared}{H:Hp}{E:XK}{us: .q}{vs: .s}
  (S:nE N ps d)(hd: .tZ=none)(F:lH P w K mg base A .a0 s H)(R: .jr vs)(r: .h1)
  (x:InCallC s .u (bindL (.iZ g d f W).kindOf (.sj us) .rJ) (.sd .b7 d []) (bindC (.iZ g d f W).kindOf (.sj us) .rJ) U):
  Inv (e_ CX P w K mg base N g d f W A .a0 s H E) [] (.mn N) H U:=by
 have hpl: .K ps N.length:=by have:=dZ List.length S.pre;rw[eX]at this;omega
 obtain⟨h1,tk,rfl,G⟩:=x.done
 have I:∀b:Addr,b∉(e_ CX P w K mg base N g d f W A .a0 s H E).ex:=λb z=>.FC (b∈([]: .g))
 refine⟨⟨F.mod,S.kind,Y,Y,.y,λy z c h1 h2=> ?_,λy B=> ?_,λy c _ h=> ?_,λ_=>hd,Around.frames_deeper F.frames,.inr ⟨Y,Y⟩,λb z=>.qw (I b),F.bs,F.kj,λb _ _=>I b,λb z=>.qw (I b),F.hW,F.mz⟩,
  rfl,F.bare,Un.kept G,⟨_,x.toInCall.ns,λi y v h1 h2 h3=> ?_⟩,λy c h=>⟨_,x.cell y c h⟩,.sk F,λy c h=> ?_,λp hp=>.hW (.HP p ([]: .D)),F.aw.kept G,?_⟩
 ·exact name_of_addr x.apart (hH h1) (hH h2)
 ·have B: .fv y= .cH∨ .fv y= .kI:=B
  rcases B with B|B
  ·exact Ez B
  ·rw[16,S.Q4 _ (hH B)]
 ·exact nI (x.above y c (hH h))
 ·have hi:i< .qr:=by
   unfold start at h2
   by_cases hi:i< .qr
   ·exact hi
   ·rw[ze (by simpa using hi)]at h2
    rw[C7]at h2
    split at h2<;>cases h2
  have M: .a1 vs= .aQ:=by
   unfold start at h2
   rw[Ld (by simpa using hi),gE]at h2
   cases e:vs[i]? with
   |none=>rw[189,e]
   |some a=>rw[189,e];rfl
  obtain⟨u,L,D⟩:=r.get M
  have hp: .a1 ps= .d3:=by
   rw[<-S.pre,List.getElem?_take_of_lt (by omega)];exact h1
  rw[112,ps.Nodup,by rw[<-S.pre];exact S.nd.sublist (List.take_sublist _ _),⟨u,D,?_⟩]
  rcases S.par y (lO hp)with k|k
  ·rw[14,⟨k,Ei j hp L k⟩]
  ·obtain⟨c,e⟩:=Ez (n:=.b7) k
   refine .inr ⟨.inl k,c,e,?_⟩
   have q:=x.cell y c e
   rw[69,Eg j hp L (by show .fv y≠_;rw[k];decide),q]
 ·exact F.aw.fresh (nI (x.above y c (hH h)))
 ·unfold start
  show _=N.length
  rw[113,bL,bh,lN]
section
variable{X:Cx}{x:Str}{p pos:Pos}{e:Expr}{es: .bK}{t:TA}{id T:String}{r: .e5}
def rq(r: .e5)(t:TA):TE:=.Ib H (r vs H1 Q)
theorem jT(B:gU X (.builtin id) r)(y: .bR)(j: .cD=none)(D: .jB x (.ps id))(N: .g7)(G: .tF:=by decide)(d: .bu= .a:=by decide)
  (g: .fm= .fl:=by rfl)(q: .iG= .a:=by rfl): .kb x p (e::es) (rq r t):=by
 rw[146,jY (jP I y j D ?_ G d),PyProof.Rows.callWith_builtin1 (.kf s I h λus U ⟨vs,H1,n,i,R⟩=>B pins U σ H1 vs us Q n i R) g q]
theorem jk(B:gU X (.type T) r)(y: .bR)(j: .cD=none)(D: .jB x (.fI T))(N: .g7)(G: .tF:=by decide)(d: .bu= .a:=by decide)
  (g: .fm= .fl:=by rfl)(q: .iG= .a:=by rfl): .kb x p (e::es) (rq r t):=by
 rw[146,jY (jP I y j D ?_ G d),nP (.kf s I h λus U ⟨vs,H1,n,i,R⟩=>B pins U σ H1 vs us Q n i R) g q]
end
end L2
namespace HT
open PySem PyProof.Rows
section
variable{prog:Program}{w:World}{A:Around}{E: .E}{s:Shared}
theorem MM{t b:Addr}{vs ws: .q}{Q: .E}(V: .mZ t .qC)(S: .mZ b .tA)(D: .aY vs)
  (h1:ws=[]-> .bV t s)(h2: .aY ws-> .bV .u (.BC s "tuple" (.gx (vs++ws))))
  (hsz: .qr+ .ah<= .W): .cz (binaryOp .Add .bc .gl):=by
 obtain⟨⟨cls,G,data,i⟩,d,B,n,hd⟩:=id V
 obtain⟨⟨F,y,data2,z⟩,q,g,j,R⟩:=id S
 simp only at B hd g R
 subst B hd g R
 rw[10,.qC++ .tA,.yE vs ws,by simp]
 by_cases U:ws=[]
 ·exact concat_meets ⟨_,d,Y⟩ ⟨_,q,Y⟩ GW IY DJ DI (DH _ _) (tuple_addW1 t b .qC .tA n j G y i z (by simpa using D) (by simp[U])) ⟨d,q,h1 U⟩
 ·rw[15,concat_meets ⟨_,d,Y⟩ ⟨_,q,Y⟩ GW IY DJ DI (DH _ _) (tuple_addW2 t b .qC .tA n j G y i z (by simpa using D) (by simpa using U) (by rw[cj,cj];exact hsz)) ⟨d,q,?_⟩,e,h2 U]
def aT(n d:Nat): .aI->Nat
 |none=>d
 |some v=>.yn v v .Z v n
theorem uU(n d:Nat):aT n d none=d:=rfl
theorem ph(n d k:Nat):aT n d (some .bq)=min k n:=.BK (.yn .bq .bq .Z .bq n) (min k n) .gJ i0
theorem BB(n d:Nat)(hd:d<=n)(o: .aI):aT n d o<=n:=by
 cases o with
 |none=>exact hd
 |some v=>
  show(.yn v v .Z v n)<=n;by_cases D:v<0
  ·rw[28,af D]
  ·rw[1,aa D,Nat.min_le_right _ _]
theorem EF(v:Int)(n d:Nat):(.db v (max (v+ .Z) 0) (min v .Z))=(.h9 n d .aQ):=by
 show(.db v (max (v+ .Z) 0) (min v .Z))=(.m (.yn v v .Z v n));by_cases D:v<0
 ·simp only[af D];omega
 ·simp only[aa D];omega
theorem Mb(lo hi: .aI)(n:Nat):Builtin.Slice.sliceAdjust lo hi 1 .Z=(.h9 n 0 lo,.h9 n n hi):=by
 have h1:¬((1:Int)<0):=by omega
 unfold Builtin.Slice.sliceAdjust;simp only[h1,lp];refine Prod.ext ?_ ?_
 ·cases lo with
  |none=>rfl
  |some v=>exact EF v n 0
 ·cases hi with
  |none=>rfl
  |some v=>exact EF v n n
theorem Up(i j:Nat): .Ia .er .fT=j-i:=by
 unfold Builtin.Slice.slicePlaces;have h1:(1:Int)>0:=by omega
 simp only[h1,jd,Int.ediv_one];split<;>omega
theorem Jm{v:Value}{o: .aI}{Q: .cq .aI}(p:IsPart v o)(h:Q o s): .cz (Builtin.Slice.slicePartIndex v):=by
 cases p with
 |none=>exact slicePart_none h
 |int i t=>exact slicePart_int h
theorem Jl{i:Addr}{j N:Value}{lo hi: .aI}{n:Nat}{Q: .cq (Int×Int×Nat)}(L: .Bm s i j N)(pl: .Bl j)(y: .Bk N)
  (h:Q (.h9 n 0 lo,1,aT n n hi-aT n 0 lo) s): .cz (Builtin.Slice.sliceApplied .fH (pure .Z)):=by
 rw[298,L]
 unfold Builtin.Slice.sliceApplied Builtin.Slice.sliceFields
 rw[67,.nb d B j Y (.nb d B N Y (.nb d B .none Y .cE)),slicePart_none ?_]
 show .fo (.kZ ((1:Int)==0) _) s
 rw[218,.n,Jm pl (ak (Jm y (ak .cE)))]
 rw[61,.fo (match Builtin.Slice.sliceAdjust lo hi 1 (n:Int)with|(lo,hi)=>pure (lo,(1:Int),.Ia lo hi)) s,Mb lo hi n]
 rw[38,.fo (pure (.h9 n 0 lo,(1:Int),.Ia (.h9 n 0 lo) (.h9 n n hi))) s,Up,aZ h]
theorem Uo(xs: .bf)(i k:Nat):((List.range k).filterMap λ(m:Nat)=>xs[(.n6 .er (.ew*1))]?).toArray=(.HF (xs.toList.drop i) k):=by
 rw[65,(λ(m:Nat)=>xs[(.n6 .er (.ew*1))]?)=λm=>xs[i+m]?,by
  funext m;rw[204,(.n6 .er (.ew*1))=i+m]
  rw[this]];rw[123,pick_run xs i k,List.filterMap_map];have D:((λx=>xs[x]?)∘λx=>i+x)=λm=>xs[i+m]? :=rfl;rw[D]at this;rw[this]
theorem N8{t i:Addr}{items: .bf}{j N:Value}{lo hi: .aI}{Q: .E}(V: .Bn t)(L: .Bm s i j N)(pl: .Bl j)(y: .Bk N)
  (U:¬(.g8=0/\ .iM= .bm))
  (h: .bV .u (.BC s "tuple" (.gx (.I9 .g8 (.iM- .g8)))))
  (hsz: .bm<= .W): .cz (.Gf .bc):=by
 have g:sizeOk (.gx (.I9 .g8 (.iM- .g8))):=by
  show(.I9 .g8 (.iM- .g8)).toArray.size<= .W
  rw[cj,eX,kU,rE]
  omega
 have D: .iM<= .bm:=BB _ _ .y hi
 rw[298,L]
 have z:s.TypeIs .fH "slice":=⟨os,d,G⟩
 unfold getItem
 try with_reducible refine ju ?_
 first|refine ak (aZ ?_)|skip
 rw[67,wpAny_sequenceKey .m2 (by decide) ?_,.tQ "__getitem__" .m2 sx (vb sx .m2 entry_tuple_getitem ?_ (args_tuple_getitem _ _))]
 show .fo (Builtin.Tuple.tupleItemsOf .bc>>=_) s
 rw[67,tupleItemsOf_ V ?_,Cf z ?_]
 rw[218,.Ge,Jl L pl y ?_]
 have n:¬(.c ((.h9 .bm 0 lo)==0&& .tP&&(.iM- .g8)== .bm)):=by
  intro q
  rw[bU,bU]at q
  have R:(.h9 .bm 0 lo)=0:=eq_of_beq q.1.1
  have F: .iM- .g8= .bm:=eq_of_beq q.2
  exact U ⟨.ga⟩
 rw[29,.fo (.kZ ((.h9 .bm 0 lo)==0&& .tP&&(.iM- .g8)== .bm) _) s,aa n,Uo]
 first
  |exact ak (m:=Builtin.Tuple.tupleExact _) (pH (aZ ⟨_,rfl,aZ h⟩) g)
  |exact ak (m:=Builtin.Tuple.tupleExact _) (pH (ak (aZ (aZ ⟨_,rfl,aZ h⟩))) g)
  |exact ak (ak (m:=Builtin.Tuple.tupleExact _) (pH (aZ (aZ ⟨_,rfl,aZ h⟩)) g))
  |exact ak (ak (m:=Builtin.Tuple.tupleExact _) (pH (aZ ⟨_,rfl,aZ h⟩) g))
end
end HT
namespace L2
open PySem PySem.Spec PyProof.Rows
abbrev TO:=St-> .oO (.bT .aI)
def PO(X:Cx)(e:Option Expr)(t:TO):Prop:=.HT (.bT .aI) (.k-> .gc Q-> .dR (evalPart e .S) (λu s'=>∃o H',.kH/\IsPart u o/\ .dL o))
def X8:TO:=.D5 none H
def Yd(t:TE):TO:=.n2 H (λx H1=>∃i,x= .aL/\Q (some i) H1)
section
variable{X:Cx}{e:Expr}{te:TE}{lo hi:Option Expr}{tl th:TO}{pos p2:Pos}
theorem rb:PO X none X8:=by intro pins s σ H Q I h;rw[evalPart_none];exact aZ ⟨none,H,I,.none,h⟩
theorem mY(h: .eB):PO X (some e) (Yd te):=by intro pins s σ H Q I d;rw[9,evalPart_some,aE (h pins s σ H _ I d) λu U ⟨x,H1,n,g,R⟩=> ?_];obtain⟨i,rfl,q⟩:=R;obtain⟨t,rfl⟩:=g;exact⟨some i,H1,n,.hX i,q⟩
def sH(X:Cx)(r:V-> .aI-> .qR):Prop:=∀(pins: .D) (s:Shared) (σ:St) (H:Hp) (x:V) (v j N:Value) (lo hi: .aI) (i:Addr) (Q:VK),.k-> .hu-> .Bm s i j N-> .Bl j-> .Bk N->r x lo hi H Q->∃T id,.BE (.type T) "__getitem__" (.BF id)/\s.TypeIs v T/\ .gv (.Gf v) s
def Yg(r:V-> .aI-> .qR)(te:TE)(tl th:TO):TE:=fun σ H Q=>te σ H λx H1=>tl σ H1 λl H2=>th σ H2 λu d=>r x l u d Q
theorem o_{r:V-> .aI-> .qR}(M:sH X r)(g: .eB)(R:PO X lo tl)(hu:PO X hi th): .A (.u5 e (.Slice lo hi none p2)) (Yg r te tl th):=by rw[224,Subscript_ (.mm s H _ I h λv U ⟨x,H1,n,i,q1⟩=> ?_),wpAny_Slice (aE (R pins U σ H1 _ n q1) λj B ⟨l,H2,W,pl,L⟩=>aE (hu pins B σ H2 _ W L) λN d ⟨u,D,z,pu,G⟩=> ?_)];rw[9,evalPart_none,.cE];have F: .cL D (.I8 d (.w8 j N .none)):=.Bp z d λb ob q=>.co q;obtain⟨T,id,S,ht,y⟩:=M pins (.I8 d (.w8 j N .none)) σ D x v j N l u .I7 Q F i (Heap.IsSliceOf.new ..) pl pu G;show .gv (subscriptTail e (.Slice lo hi none p2) v (.ref .I7)) (.I8 d (.w8 j N .none));exact tail_any (ops:=.f4 .I7 v) ht S y (by with_unfolding_all rfl)
def fU(xs: .s)(lo hi: .aI): .s:=(.eS .oh).take (.na .r .r- .oh)
theorem EO(xs: .s)(lo hi: .aI): .K (fU xs lo hi) .r:=by unfold fU;rw[eX,kU];omega
def U9(K:ag):V-> .aI-> .qR:=.Gd (x= .B/\ .eq/\¬(.oh=0/\ .na .r .r= .r)/\∀p,H p=none-> .bV p (.g5 p (fU xs lo hi)))
theorem VI:sH X (U9 X.K):=by
 intro pins s σ H x v j N lo hi i Q I M L pl y h;obtain⟨a,xs,rfl,W,U,q⟩:=h;rw[297,.cl W];rw[168,.eY= .r,by rw[cj];exact r.length.symm,⟨"tuple",_,sx.lookup,.m2,?_⟩,HT.N8 V L pl y (by rw[d];exact U) ?_ (.os d)];rw[d];rw[2,⟨.e4,_,.I2 I (.tup (fU xs lo hi)) (λb R q=>.co q) .y ?_,Y,q _ .hc⟩,⟨cn (EO xs lo hi) hz,_,(r.drop .oh).take (.na .r .r- .oh),.I0 _⟩]
def US(K:ag):R2:=λx y H Q=>∃a b xs ys,x= .B/\y= .gl/\ .eq/\aM K H b ys/\ .aY xs/\ .gm .r ys<= .W/\(ys=[]->Q .B H)/\(.aY ys->∀p,H p=none-> .bV p (.g5 p (xs++ys)))
theorem Vals.AO{xs: .s}{us: .q}(r: .eG):us=[]↔xs=[]:=by
 cases r with
 |nil=>simp
 |cons _ _=>simp
theorem TN: .ff .Add (US X.K):=by intro pins s σ H x y v u Q I M F h;obtain⟨a,b,xs,ys,rfl,rfl,N,S,W,hz,R,L⟩:=h;cases M;cases F;obtain⟨g,i,d,_⟩:=.cl N;obtain⟨V,D,p2,_⟩:=.cl S;rw[35,HT.MM d p2 (λz=>W (i.AO.mp z)) (λz=>⟨.B,H,I,Y,R (D.AO.mp z)⟩) .a2 (by rw[<-i.length,<- .kj];exact hz),⟨.e4,_,.I2 I (.tup (xs++ys)) (λb j q=>.co q) .y ?_,Y,L (λw=>z (D.AO.mpr w)) _ .hc⟩,⟨.os bL,_,i.append D,.I0 _⟩]
end
def lr(n:Nat)(i:Int): .B1:=if 0<=i then(.bJ (i<n) i.toNat)else .bJ (- .Z<=i) (.n6 i n)
def nU{α:Type}(xs: .av)(i:Int):Option α:=(lr .r i).bind λj=>xs[j]?
theorem FU{n:Nat}{i:Int}{j:Nat}(h:lr n i= .hv):seqIndex? i n= .hv/\j<n/\ - .Z<=i/\i<n:=by
 unfold lr at h;by_cases F:0<=i
 ·rw[af F]at h;by_cases h1:i<n
  ·rw[af h1]at h;rw[131,i.toNat,j,eD h,⟨.xf (.I6 h1),.ga,h1⟩]
  ·rw[3,aa h1]
 ·rw[aa F]at h;by_cases h1: - .Z<=i
  ·rw[af h1]at h;rw[131,.n6 i n,j,eD h,⟨.xf (.I5 h1),by omega,h1,by omega⟩]
  ·rw[3,aa h1]
theorem zT{α:Type}{xs: .av}{i:Int}{v:α}(h:nU xs i= .aQ):∃j,seqIndex? i .r= .hv/\xs[j]? = .aQ/\j< .r/\ -(.r:Int)<=i/\i< .r:=by
 unfold nU at h
 cases e:lr xs.length i with
 |none=>rw[3,e]
 |some j=>rw[e]at h;obtain⟨h1,h2,h3,h4⟩:=FU e;exact⟨j,h1,h,h2,h3,h4⟩
theorem bG{α:Type}{xs: .av}{j:Nat}{v:α}(h:xs[j]? = .aQ):nU xs .fT= .aQ:=by
 have D:j< .r:=.dD h;rw[10,lr .r .fT,.hv,by unfold lr;rw[.rb,.rb];simp]
 unfold nU;rw[55,h]
def Lz(b:Expr):Prop:=∀o i,.D2 b o i= .HM [o,i] o i
def vC(X:Cx)(r:R2):Prop:=∀(value slice:Expr) (pins: .D) (s:Shared) (σ:St) (H:Hp) (x y:V) (v u:Value) (Q:VK),.k-> .hu-> .fB y->r x y H Q-> .D2 slice v u= .HM [v,u] v u-> .gv (subscriptTail value slice v u) s
def i5(X:Cx)(id:String)(r:V-> .e5):Prop:=∀(pins: .D) (s:Shared) (σ:St) (H:Hp) (x:V) (xs: .s) (v:Value) (us: .q) (Q:VK),.k-> .hu-> .eG->r x xs H Q-> .gv (.oJ id (v::us)) s
section
variable{X:Cx}{a b:Expr}{ta tb:TE}{pos:Pos}
theorem bz{r:R2}(M:vC X r)(N: .eH)(S: .km)(L:Lz b:=by exactλ_ _=>rfl): .A (.u5 a b) (x8 r ta tb):=by intro pins s σ H Q I h;exact Subscript_ (zU N S I h λv u B x y H2 W d F q=>M a b pins B σ H2 x y v u Q W d F q (L _ _))
def UX(K:ag):R2:=λx y H Q=>∃p xs i v,x= .aK/\y= .aL/\ay K H p xs/\nU xs i= .aQ/\Q v H
def UZ(K:ag):R2:=λx y H Q=>∃p xs i v,x= .aK/\y= .aL/\aM K H p xs/\nU xs i= .aQ/\Q v H
def UY:R2:=λx y H Q=>∃z i c,x= .str z/\y= .aL/\ .aT z/\nU z.cps.toList i= .ae/\ .gw .bY H
theorem c7:vC X (UX X.K):=by
 intro value slice pins s σ H x y v u Q I M N h L;obtain⟨p,xs,i,z,rfl,rfl,B,n,q⟩:=h;cases M;obtain⟨t,rfl⟩:=N;obtain⟨g,r,pl,hz⟩:=.gi B;rw[353,n];obtain⟨w,V,d⟩:=r.get h2;have R:=.cQ;have G:=qN;have fin: .iR w s:=⟨z,H,I,d,q⟩;by_cases F:0<=i
 ·have D:i.toNat=j:=by rw[.I6 h5]at h1;exact eD h1
  exact item_listR .r2 F (by omega) (by rw[D];simpa using V) fin L
 ·have D:(.n6 i .u0)=j:=by rw[.I5 h4]at h1;rw[cj,<-R];exact eD h1
  exact subscriptTail_builtinR (x:=w) pl.isList.typeIs slot_list_getitem.lookup (wpAny_getItem_list_neg (Q:=λr s'=>r=w/\ .iR r s') .r2 (by omega) (by rw[cj]<;>omega) (by omega) (by rw[D];simpa using V) ⟨Y,fin⟩) L
theorem cF:vC X (UZ X.K):=by intro value slice pins s σ H x y v u Q I M F h L;obtain⟨p,xs,i,z,rfl,rfl,B,n,q⟩:=h;cases M;obtain⟨t,rfl⟩:=F;obtain⟨g,r,pl,hz⟩:=.cl B;rw[353,n];obtain⟨w,V,d⟩:=r.get h2;have R:=.cQ;have G:=qN;have fin: .iR w s:=⟨z,H,I,d,q⟩;exact subscriptTail_builtinR (x:=w) pl.typeIs slot_tuple_getitem.lookup (getItem_tuple (j:=j) (Q:=λr s'=>r=w/\ .iR r s') pl (by omega) (by omega) (.tX R h1) (by simpa using V) ⟨Y,fin⟩) L
theorem Pj:vC X UY:=by
 intro value slice pins s σ H x y v u Q I M d h L;obtain⟨z,i,c,rfl,rfl,hz,g,q⟩:=h;obtain⟨t,rfl⟩:=M;obtain⟨t',rfl⟩:=d;rw[353,g];have R:z.cps.toList.length= .c0:=by simp[Str.length]
 rw[R]at h1 h4 h5;have G:=qN;exact tail_any (nq s z t) slot_str_getitem.lookup (getItem_str (c:=c) (by have F: .f5 i (-(2^63:Int))= .a:=.g2;have D:decide (i≥2^63)= .a:=.g2;rw[F,D,Bool.or_false]) (by rw[h1];simpa using h2) ⟨.jV,.eb _,⟨_,Y⟩,q⟩) L
theorem QD(g: .q)(n j:Nat)(u:Value):Obj.mapSeq (·.setIfInBounds j u) (.zk n)=(.zq (g.set j u).toArray n):=by simp[Obj.mapSeq]
theorem Inv.lst{pins: .D}{σ:St}{H:Hp}{s:Shared}{p:Addr}{xs: .s}(I: .k)(h:H p= .cu):
  .HY (.h3 g/\ .D8 p n/\ .r<= .W):=by
 obtain⟨z,g,n,r,e⟩:=.lc p h
 exact⟨g,n,r,e,z⟩
theorem Inv.Qr{pins: .D}{σ:St}{H:Hp}{s:Shared}{p:Addr}{xs ys: .s}{g its': .q}{n W:Nat}{f:Obj->Obj}(I: .k)(h:H p= .cu)
  (d: .D8 p n)(N:f (.zk n)=(.zq its'.toArray W))(r: .yF its')(hz: .aT ys)(t:Nat):
  .xx (.bZ H p ys) (.D9 p f) t:=by
 rw[10,(.D9 p f).get? p,some (.zq its'.toArray W),by
  rw[nG f d (by rw[N]<;>rfl),N]]
 rw[2,I.write (x:=p) (e:=p) (by rw[h];trivial) .ao (λb u S q=>(jz _ _ (eQ S)).trans q) ⟨_,e⟩ ?_,⟨hz,its',W,r,e⟩]
def U6:V->V->V-> .oO .f1:=λo i v H Q=>∃p xs k j,o= .aK/\i= .int k/\H p= .cu/\lr .r k= .hv/\Q (.bZ H p (xs.set j v))
theorem set_list:DB X U6:=by
 intro pins s σ H o i v M iv u Q I ro B y h;obtain⟨p,xs,k,j,rfl,rfl,hp,D,q⟩:=h;cases ro;obtain⟨t,rfl⟩:=B;obtain⟨g,n,r,d,hz⟩:=I.lst hp;obtain⟨h1,h2,h3,h4⟩:=FU D;have R:=.cQ;have z:=qN;have L: .cL (.bZ H p (xs.set j v)) {s with heap:=.D9 p (Obj.mapSeq (·.setIfInBounds j u))}:=I.Qr hp d (QD g n j u) (r.set y j) (.os pX) .ag;by_cases F:0<=k
 ·have G:k.toNat=j:=by rw[.I6 h4]at h1;exact eD h1
  exact PySem.W.ki_setAt d F (by omega) (.tX R h4) (.I4 ⟨_,L,q⟩)
 ·have G:(.n6 k .u0)=j:=by rw[.I5 h3]at h1;rw[cj,<-R];exact eD h1
  exact PySem.W.ki_setBack d (by omega) (.tX R h3) (by omega) (.I4 ⟨_,L,q⟩)
theorem VL(lo hi: .aI)(n:Nat):(.I3 lo hi n).1=(.m (.w6 n))/\(.I3 lo hi n).2.1=(.m (.na n n))/\(.bA (.I3 lo hi n))=1:=by
 refine⟨.ad,Y⟩
 ·cases lo with
  |none=>simp[sliceBounds,HT.aT]
  |some i=>
   simp only[sliceBounds,HT.aT,Option.getD_none,show(1:Int)>0 by decide,jd];by_cases h:i<0
   ·simp only[h,jd]<;>omega
   ·simp only[h,lp]<;>omega
 ·cases hi with
  |none=>simp[sliceBounds,HT.aT]
  |some i=>
   simp only[sliceBounds,HT.aT,Option.getD_none,show(1:Int)>0 by decide,jd];by_cases h:i<0
   ·simp only[h,jd]<;>omega
   ·simp only[h,lp]<;>omega
theorem VJ(g: .q)(lo hi: .aI):slicePick .aO lo hi none=(.HF (g.drop (.w6 .r7)) (.na .r7 .r7- .w6 .r7)):=by obtain⟨h1,h2,h3⟩:=VL lo hi .eY;unfold slicePick;rw[h1,h2,h3];simp only[sliceRange_one,pick_run,cj]<;>rfl
def U7(K:ag):V-> .aI-> .qR:=.Gd (x= .B/\ .fh/\∀p,H p=none-> .lb p H p (fU xs lo hi))
theorem Jj:sH X (U7 X.K):=by intro pins s σ H x v j N lo hi i Q I M L pl y h;obtain⟨a,xs,rfl,W,q⟩:=h;rw[297,.gi W];have d:=.cQ;rw[0,⟨"list",_,slot_list_getitem.lookup,V.isList.typeIs,?_⟩,wpAny_getItem_list_slice V.isList L pl y .none (by simp) ?_ (by rw[cj]<;>omega)];rw[VJ,<-d];rw[2,⟨.e4,_,.I2 I (.lst (fU xs lo hi)) (λb R q=>.co q) .y ?_,Y,q _ .hc⟩,⟨cn (EO xs lo hi) hz,_,0,(r.drop .oh).take (.na .r .r- .oh),.ee⟩]
def mx: .c1 V
 | .au=>true
 | .bl _=>true
 | .int _=>true
 | .str _=>true
 |_=>.a
def lY:V-> .c1 V
 | .au,.au=>true
 | .bl a,.bl b=>a==b
 | .bl a,.int b=>(if a then 1 else 0)==b
 | .int a,.bl b=>a==(if b then 1 else 0)
 | .int a,.int b=>a==b
 | .str a,.str b=>a==b
 |_,_=>.a
theorem Np{A:Around}{s:Shared}{y x:V}{u v:Value}(F: .fB y)(M: .hu)(d: .yI y)(B: .yI x):SeqAt.EqAt A s u v (lY y x):=by
 cases y with
 |au=>
  cases F
  cases x with
  |au=>rw[59,SeqAt.EqAt.same _]
  |bl b=>rw[59,SeqAt.EqAt.none_bool b]
  |int b=>rw[88,SeqAt.EqAt.none_int b t]
  |str b=>rw[88,SeqAt.EqAt.none_str b t]
  |_=>rw[5,.Db,d7]
 |bl a=>
  cases F
  cases x with
  |au=>rw[59,SeqAt.EqAt.bool_none a]
  |bl b=>rw[59,SeqAt.EqAt.bool_bool a b]
  |int b=>rw[88,SeqAt.EqAt.bool_int a b t]
  |str b=>rw[88,SeqAt.EqAt.bool_str a b t]
  |_=>rw[5,.Db,d7]
 |int a=>
  obtain⟨t',rfl⟩:=F
  cases x with
  |au=>rw[59,SeqAt.EqAt.int_none a t']
  |bl b=>rw[59,SeqAt.EqAt.int_bool a t' b]
  |int b=>rw[88,SeqAt.EqAt.int_int a t' b t]
  |str b=>rw[88,SeqAt.EqAt.int_str a t' b t]
  |_=>rw[5,.Db,d7]
 |str a=>
  obtain⟨t',rfl⟩:=F
  cases x with
  |au=>rw[59,SeqAt.EqAt.str_none a t']
  |bl b=>rw[59,SeqAt.EqAt.str_bool a t' b]
  |int b=>rw[88,SeqAt.EqAt.str_int a t' b t]
  |str b=>rw[88,SeqAt.EqAt.str_str a t' b t]
  |_=>rw[5,.Db,d7]
 |_=>rw[5,show .sB from d,d7]
def gZ(x:V)(u:Value):Bool:=match u with
 | .none=>lY .au x
 | .bool b=>lY .ev x
 | .int i _=>lY .aL x
 | .str z _=>lY (.str z) x
 |_=>.a
theorem E3{x y:V}{u:Value}(r: .fB y)(f: .yI y):gZ x u=lY y x:=by
 cases y with
 |au=>rw[76]
 |bl b=>rw[76]
 |int i=>rw[75]
 |str z=>rw[75]
 |_=>rw[5,show .sB from f,d7]
theorem sW{x:V}:∀{xs: .s} {us: .q},.eG-> .gO xs mx-> .yH us x=xs.any λy=>lY y x
 |_,_,.nil,_=>rfl
 |y::xs,u::us,.cons r t,f=>by
  rw[kT,bU]at f
  rw[y4,y4,E3 r f.1,sW t f.2]
theorem uA{A:Around}{s:Shared}{x:V}{v:Value}(M: .hu)(B: .yI x):∀{xs: .s} {us: .q},.eG-> .gO xs mx->∀u∈us,SeqAt.EqAt A s u v (gZ x u)
 |_,_,.nil,_=>λu L=>by cases L
 |y::xs,u::us,.cons r t,f=>λF L=>by
  rw[kT,bU]at f
  rcases bu.mp L with rfl|L
  ·rw[1,E3 r f.1,Np r M f.1 B]
  ·exact uA M B t f.2 F L
def hZ(x:V)(xs: .s):Bool:=xs.any λy=>lY y x
def IE(K:ag)(neg:Bool):R2:=λx y H Q=>∃p xs,y= .aK/\(ay K H p xs∨aM K H p xs)/\ .yI x/\ .gO xs mx/\ .cx (if neg then ! hZ x xs else hZ x xs)
theorem mS: .eF .In (IE X.K .a):=by
 intro pins s σ H x y v u Q I M F h;obtain⟨p,xs,rfl,j,B,fs,q⟩:=h;cases F;rcases j with j|j
 ·rw[243,.gi j,SeqAt.in_listAt (gZ x) .r2 (λw U=>uA M B r fs w (by simpa using U)) ⟨.bl _,H,I,Y,?_⟩,.Da g x= .yH g x,sW r fs,q]
 ·rw[243,.cl j,SeqAt.in_tupleAt (gZ x) pl (λw U=>uA M B r fs w (by simpa using U)) ⟨.bl _,H,I,Y,?_⟩,.Da g x= .yH g x,sW r fs,q]
theorem HG: .eF .NotIn (IE X.K true):=by
 intro pins s σ H x y v u Q I M F h;obtain⟨p,xs,rfl,j,B,fs,q⟩:=h;cases F;rcases j with j|j
 ·rw[243,.gi j,SeqAt.notIn_listAt (gZ x) .r2 (λw U=>uA M B r fs w (by simpa using U)) ⟨.bl _,H,I,Y,?_⟩,.Da g x= .yH g x,sW r fs,q]
 ·rw[243,.cl j,SeqAt.notIn_tupleAt (gZ x) pl (λw U=>uA M B r fs w (by simpa using U)) ⟨.bl _,H,I,Y,?_⟩,.Da g x= .yH g x,sW r fs,q]
theorem z8: .r6 X "len" (∃p ys,xs= .iL/\(.ob H p ys∨aM X.K H p ys)/\ .dr .tY):=by
 intro pins s σ H xs us Q I r h;obtain⟨p,ys,rfl,j,q⟩:=h;rw[352,.r4];have G:=qN;rcases j with j|j
 ·rw[351,.gi j,.yG];exact Calls.call_len_list .r2 (by simp only[cj]<;>omega) ⟨.j6 .tY,⟨.ag+1,by rw[cj,d]⟩,q⟩
 ·rw[351,.cl j,.yG];exact len_tuple pl (by simp only[cj]<;>omega) ⟨.j6 .tY,⟨.ag+1,by rw[cj,d]⟩,q⟩
theorem MF: .r6 X "len" (∃z,xs=(.cX z)/\ .aT z/\ .dr .c0):=by intro pins s σ H xs us Q I r h;obtain⟨z,rfl,hz,q⟩:=h;rw[223,r];have G:=qN;exact len_str (by omega) ⟨.j6 .c0,⟨_,Y⟩,q⟩
theorem MG: .sE X .o7 (∃p ys,xs= .iL/\(.ob H p ys∨aM X.K H p ys)/\∀l,H l=none-> .lb l H l ys):=by
 intro pins s σ H xs us Q I r h;obtain⟨p,ys,rfl,j,q⟩:=h;rw[352,.r4]
 have fin:∀(g: .q),.yF g-> .aT ys->∀(h':Heap) (V:Nat),(∀b o',.hK b o'-> .aM=some o')->
   .r3 .u (.BD .o7 none .aO V #[])-> .iR .e4 .dX:=λg U hz h' V kp e=>
  ⟨.e4,_,.xG I .ag kp (show dk .a6 X.w _ h' _ (.lst ys)from⟨hz,g,V,U,e⟩),Y,q _ .hc⟩
 rcases j with j|j
 ·obtain⟨g,U,pl,hz⟩:=.gi j;have i:=.yG;obtain⟨o,d,B,n,hd⟩:=pl.isList;exact call_list_seq p .ao d B hd (λh' V kp e=>fin g U hz h' V kp e) (by simp only[cj]<;>omega)
 ·obtain⟨g,U,pl,hz⟩:=.cl j;have i:=.yG;obtain⟨o,d,B,n,hd⟩:=pl;exact call_list_seq p (.inr Y) d B hd (λh' V kp e=>fin g U hz h' V kp e) (by simp only[cj]<;>omega)
theorem MK: .sE X .h2 (∃p ys,xs= .iL/\((.ob H p ys/\∀l,H l=none-> .bV l (.g5 l ys))∨(aM X.K H p ys/\ .bV p H))):=by
 intro pins s σ H xs us Q I r h;obtain⟨p,ys,rfl,h⟩:=h;rw[352,.r4];rcases h with⟨j,q⟩|⟨j,q⟩
 ·rw[351,.gi j,.yG];rw[145,call_tuple_list .r2 (λh' kp=> ?_) (by simp only[cj]<;>omega),.mv,I.kept (t':=.ag) kp];have W: .cL (.g5 .Bx ys) (.I1 h' (.hS .aO)):=.xG n .ag .D4 (show dk .a6 X.w _ _ _ (.tup ys)from⟨hz,g,U,.I0 _⟩);exact⟨.ref .Bx,_,W,Y,q _ (.sk n)⟩
 ·obtain⟨g,U,pl,hz⟩:=.cl j;exact call_tuple_same pl ⟨.aK,H,I,Y,q⟩
def B4(K:ag)(T:String)(x:V)(H:Hp):Prop:=match x with
 | .str _=>T="str"
 | .int _=>T="int"
 | .ref p=>(T="list"/\∃xs,ay K H p xs)∨(T="tuple"/\∃o,.qA K p/\o.cls= .h2/\o.dict=none)∨
   (T="dict"/\((∃F,H p=some (.dK F))∨∃F,H p=some (.dT F)))∨(T="set"/\∃S n,H p=some (.set S n))
 |_=>.bU
theorem J4{pins: .D}{σ:St}{H:Hp}{s:Shared}{T:String}{x:V}{v:Value}(I: .k)(r: .hu)(ty:B4 X.K T x H):
  s.TypeIs v T/\∀a,v= .B->∃R,.hK a R/\R.dict=none:=by
 cases x with
 |str z=>
  obtain⟨t,rfl⟩:=r
  cases(show T="str" from ty)
  exact⟨nq s z t,.y7⟩
 |int i=>
  obtain⟨t,rfl⟩:=r
  cases(show T="int" from ty)
  exact⟨.Gl s i,.y7⟩
 |ref p=>
  cases r
  rcases ty with⟨rfl,xs,j⟩|⟨rfl,o,G,B,hd⟩|⟨rfl,G⟩|⟨rfl,S,n,G⟩
  ·obtain⟨g,_,pl,_⟩:=.gi j
   refine⟨pl.isList.typeIs,λa e=> ?_⟩
   cases e
   obtain⟨o,n,e,c,hd,_⟩:=pl
   exact⟨o,e,hd⟩
  ·refine⟨⟨o,I.bT p o G,B⟩,λa e=> ?_⟩
   rw[53,⟨o,I.bT _ o G,hd⟩]
  ·have z:∃o,.jx p/\o.ExactDict:=by
    rcases G with⟨F,G⟩|⟨F,G⟩
    ·obtain⟨_,_,_,_,o,_,_,e,ex,_⟩:=.lc p G
     exact⟨o,e,ex⟩
    ·obtain⟨_,_,_,_,o,_,_,e,ex,_⟩:=.lc p G
     exact⟨o,e,ex⟩
   obtain⟨o,e,ex⟩:=z
   refine⟨⟨o,e,ex.1⟩,λa D=> ?_⟩
   cases D
   exact⟨o,e,ex.2.1⟩
  ·obtain⟨o,_,_,_,e,ex,_⟩:=.lc p G
   refine⟨⟨o,e,ex.1⟩,λa D=> ?_⟩
   cases D
   exact⟨o,e,ex.2.1⟩
 |_=>rw[21,ty]
def JN(K:ag)(T:String)(r:V-> .e5)(to:TE):TE:=.CV σ H (B4 K T x H1/\r x [] H1 Q)
def XU(K:ag)(T:String)(r:V-> .e5)(to:TE)(t:TA):TE:=.CV σ H (B4 K T x H1/\t σ H1 λxs H2=>r x xs H2 Q)
variable{o e:Expr}{es: .bK}{to:TE}{t:TA}{name:Str}{apos cpos:Pos}{T id:String}{r:V-> .e5}
theorem Bd(F:PlainAttrs T)(slot:Slot T name id)(g: .CU id= .CT)(j:i5 X id r)(d: .ov o)
  (z: .md o name o= .Y o:=by rfl)(q: .r8 cpos.line:=by rfl): .A (.kY o name apos [] [] cpos) (JN X.K T r to):=by
 rw[34,wpAny_Call_method0_late z q (aE (d pins s σ H _ I h) λv U ⟨x,H1,n,i,ty,R⟩=> ?_)]
 obtain⟨h1,h2⟩:=J4 n i ty
 exact⟨T,id,F,slot,g,.cc,rH Y (LP (j pins U σ H1 x [] v [] Q n i .nil R))⟩
theorem fA(F:PlainAttrs T)(slot:Slot T name id)(G: .CU id= .CT)(j:i5 X id r)(d: .ov o)(N: .g7)
  (z: .md o name o= .Y o:=by rfl)
  (g: .c ((.wf cpos (e::es)).all (λx=> ! x.1)&&(backToKw cpos (keywordEach [] .S)).all (λx=>x.1.isSome)
   &&decide (.gm (.io e es) ([]:List Keyword)+(if([]:List Keyword).isEmpty then 0 else 1)<30)):=by rfl)
  (q: .r8 cpos.line:=by rfl)(L: .fm= .fl:=by rfl)(y: .zy cpos es= .a:=by rfl):
  .A (.kY o name apos (e::es) [] cpos) (XU X.K T r to t):=by
 rw[34,wpAny_Call_method_late z g q Y (aE (d pins s σ H _ I h) λv U ⟨x,H1,n,i,ty,R⟩=> ?_)]
 rw[93,J4 n i ty,⟨T,id,F,slot,G,.cc,?_⟩]
 have M:=N cpos pins U σ H1 _ n R
 rw[L]at M⊢
 rw[2,rH (by show(.a|| .zy cpos es)= .a;rw[y]<;>rfl) (yC ?_),aE M λus B ⟨vs,H2,W,D,S⟩=>j pins B σ H2 x vs v us Q W i D S]
end
def zk(X:Cx)(id:String)(r:V-> .e5):Prop:=∀(pins: .D) (s:Shared) (σ:St) (H:Hp) (x:V) (xs: .s) (v:Value) (us: .q) (Q:VK),.k-> .hu-> .eG->r x xs H Q-> .gv (.oJ id (v::us)) s
theorem Vals.one:∀{x:V} {us: .q},.ne [x]->∃u,us=[u]/\ .kK
 |_,_,.cons r .nil=>⟨_,Y,r⟩
theorem Vals.zero:∀{us: .q},.ne []->us=[]
 |_,.nil=>rfl
theorem Vals.dropLast{xs: .s}{us: .q}(h: .eG):Vals xs.dropLast us.dropLast:=by
 induction h with
 |nil=>rw[71]
 |cons r t j=>
  cases t with
  |nil=>rw[71]
  |cons q t'=>rw[62,r,j]
theorem Vals.reverse{xs: .s}{us: .q}(h: .eG):Vals .A4 us.reverse:=by
 induction h with
 |nil=>rw[71]
 |cons r t j=>rw[13,kW,kW,Vals.append j (.dE r)]
theorem Nq{α:Type}(l: .av):l.eraseIdx (.cw-1)=l.dropLast:=by
 induction l with
 |nil=>rfl
 |cons a r j=>
  cases r with
  |nil=>rfl
  |cons b r=>
   rw[10,(.io a (b::r))-1,((.io b r)-1)+1,by have h1: .aA (a::b::r) (.cQ+2):=rfl;have h2: .aA (b::r) .cv:=rfl;omega]
   rw[e,List.eraseIdx_cons_succ,j]
   all_goals rfl
section
variable{X:Cx}{pins: .D}{σ:St}{H:Hp}{s:Shared}{l b:Addr}{xs ys zs: .s}
theorem Inv.wY{g its': .q}{n:Nat}{f: .bf-> .bf}{t':Nat}(I: .k)(W:H l= .cu)
  (e: .D8 l n)(N:f .aO=its'.toArray)(D: .yF its')(hz: .aT ys):
  .xx (.bZ H l ys) (.D9 l (Obj.mapSeq f)) t':=by
 have q:=PySem.IsL.update e f
 rw[N]at q
 rw[2,.HZ I l l W .ds .ao (λj u S L=>(jz .G (Obj.mapSeq f) (eQ S)).trans L) ⟨_,q⟩ ?_,⟨hz,its',_,D,q⟩]
theorem Inv.Ql{g: .q}{t':Nat}(I: .k)(D: .yF g)(hz: .aT ys): .xx (.bZ H .u ys) (.xF s .aO) t':=I.laid (λ_ _ q=>.co q) .y ⟨hz,g,0,D,.ee⟩
theorem Inv.fresh(I: .k):H .u=none:=.hc
theorem Inv.oK(I: .k)(W:H l= .cu): .r<= .W/\ .HY (.h3 g/\ .r= .r7/\ .D8 l n):=by obtain⟨z,g,n,r,e⟩:=.lc l W;exact⟨z,g,n,r,.cQ,e⟩
theorem G1{n:Nat}(h:n<= .W):Builtin.List.listTooLong n= .a:=by unfold Builtin.List.listTooLong;exact .g2
end
section
variable{X:Cx}
def UP:V-> .e5:=λx vs H Q=>∃l xs y,x= .ou/\vs=[y]/\H l= .cu/\ .r< .W/\ .ea (.bZ H l (xs++[y]))
theorem ib:zk X "list.append" UP:=by intro pins s σ H x vs v us Q I M D h;obtain⟨l,xs,y,rfl,rfl,W,hz,q⟩:=h;cases M;obtain⟨u,rfl,ru⟩:=D.one;rw[172,W];rw[0,kl F.slot_list_append ⟨_,e,Y⟩ F.entry_list_append (F.args_list_append_2 _ _) (PySem.list_append l .aO n u .u1) ⟨e,?_⟩,⟨.au,_,.Gn (g++[u]) W e (.r5 (.dE ru)) ?_,Y,q⟩];rw[98,bL,Lg]
def UU:V-> .e5:=λx vs H Q=>∃l b xs zs,x= .ou/\vs=(.c3 b)/\H l= .cu/\H b= .a7 zs/\ .gm .r zs<= .W/\ .ea (.bZ H l (xs++zs))
theorem uE:zk X "list.extend" UU:=by
 intro pins s σ H x vs v us Q I M B h;obtain⟨l,b,xs,zs,rfl,rfl,W,S,hz,q⟩:=h;cases M;obtain⟨u,rfl,ru⟩:=B.one;cases ru;rw[172,W];obtain⟨z2,V,j,i,y,D⟩:=I.oK S;have hsz: .eY+ .BG<= .W:=.Go cj
 rw[168,¬ .c (! g.toArray.isEmpty&&Builtin.List.listTooLong (.eY+ .BG)),by rw[G1 hsz,Cn];exact d7,kl F.slot_list_extend ⟨_,e,Y⟩ F.entry_list_extend (F.args_list_extend_2 _ _) (AutoSeq1.list_extend_list_list_0 l .aO n b V.toArray j d .u1 (by omega)) ⟨e,D,?_⟩,⟨.au,_,.Gn (g++V) W e (.r5 i) ?_,Y,q⟩];rw[28,bL]
def U3:V-> .e5:=λx vs H Q=>∃l xs y,x= .ou/\vs=[]/\H l= .cu/\xs[.r-1]? = .d3/\Q y (.bZ H l xs.dropLast)
theorem GQ:zk X "list.pop" U3:=by
 intro pins s σ H x vs v us Q I M D h;obtain⟨l,xs,y,rfl,rfl,W,j,q⟩:=h;cases M;have i:=D.zero;subst i;rw[172,W];obtain⟨u,L,ru⟩:=r.get j;rw[168,(.aO)[.eY-1]? = .V,by show(.aO)[.r7-1]? = .V;rw[<-Cj,<-R];exact L,kl F.slot_list_pop ⟨_,e,Y⟩ F.entry_list_pop (F.args_list_pop_1 _) (MeetsSeq.list_pop_last l .aO n u d .u1) ⟨e,?_⟩,⟨y,_,I.wY (its':=g.dropLast) W e ?_ r.dropLast ?_,ru,q⟩]
 ·show g.toArray.eraseIdxIfInBounds (.eY-1)=g.dropLast.toArray;rw[cj,List.eraseIdxIfInBounds_toArray,Nq]
 ·rw[28,List.length_dropLast]
def UQ:R2:=λx y H Q=>∃l b xs zs,x= .ou/\y= .gl/\H l= .cu/\H b= .a7 zs/\ .gm .r zs<= .W/\∀p,H p=none-> .lb p H p (xs++zs)
theorem mR: .ff .Add UQ:=by
 intro pins s σ H x y v u Q I M F h;obtain⟨l,b,xs,zs,rfl,rfl,W,S,hz,q⟩:=h;cases M;cases F;rw[172,W];obtain⟨z2,V,j,B,i,D⟩:=I.oK S;refine PySem.P.add_list e D ?_ (.Go cj);have d: .aO++V.toArray=(.yE g V):=by simp
 rw[1,d,⟨.ref _,_,I.Ql (t':=.ag) (.r5 B) (by rw[bL];omega),Y,q _ I.fresh⟩]
end
mutual
inductive Dp(K:ag)(H:Hp): .bk V PyData
 |au:Dp K H .au .none
 |bl (b:Bool):Dp K H .ev (.bool b)
 |int (i:Int):Dp K H .aL .aL
 |str (x:Str):Dp K H .iD .iD
 |lst {a:Addr} {xs: .s} {ds: .yD}: .fh->pQ K H xs ds->Dp K H .B (.list ds)
 |tup {a:Addr} {xs: .s} {ds: .yD}: .eq->pQ K H xs ds->Dp K H .B (.tuple ds)
inductive pQ(K:ag)(H:Hp): .bk .s .yD
 |nil:pQ K H [] []
 |cons {v:V} {vs: .s} {d:PyData} {ds: .yD}:Dp K H v d->pQ K H vs ds->pQ K H (v::vs) (d::ds)
end
section
variable{X:Cx}{pins: .D}{σ:St}{H:Hp}{s:Shared}
mutual
theorem Dp.reads(I: .k):∀(d:PyData) (v:V) (u:Value),Dp X.K H v d-> .cA->∃as,Reads .G u d as
 | .none,_,_,h,r=>by
  rw[350,⟨_,Reads.none⟩]
 | .bool b,_,_,h,r=>by
  rw[350,⟨_,Reads.bool b⟩]
 | .int i,_,_,h,r=>by
  cases h
  rw[190,⟨_,Reads.int i t⟩]
 | .str x,_,_,h,r=>by
  cases h
  rw[190,⟨_,Reads.str x t⟩]
 | .list ds,_,_,h,r=>by
  cases h with
  |lst hs ha=>
   cases r
   obtain⟨its,rv,⟨o,n,ho,hc,_,hd⟩,_⟩:=.gi hs
   rw[216,Dp.readsAll I ds _ its ha rv,⟨_,Reads.list ho hc hd hr⟩]
 | .tuple ds,_,_,h,r=>by
  cases h with
  |tup hs ha=>
   cases r
   obtain⟨its,rv,⟨o,ho,hc,n,hd⟩,_⟩:=.cl hs
   rw[216,Dp.readsAll I ds _ its ha rv,⟨_,Reads.tuple ho hc hd hr⟩]
 | .dict _,_,_,h,_=>by cases h
theorem Dp.readsAll(I: .k):∀(ds: .yD) (vs: .s) (us: .q),pQ X.K H vs ds-> .h1->∃as,ReadsAll .G us ds as
 |[],_,_,h,r=>by
  rw[350,⟨_,ReadsAll.nil⟩]
 |d::ds,_,_,h,r=>by
  cases h with
  |cons h1 h2=>
   cases r with
   |cons r1 r2=>
    obtain⟨as,q1⟩:=Dp.reads I d _ _ h1 r1
    obtain⟨bs,q2⟩:=Dp.readsAll I ds _ _ h2 r2
    exact⟨_,ReadsAll.cons q1 q2⟩
end
end
section
variable{X:Cx}
def U2(K:ag):R2:=λx y H Q=>∃d e,Dp K H x d/\Dp K H y e/\ .c (SeqAt.shaped d)/\ .c (SeqAt.shaped e)/\ .cx (! PyData.eqv d e)
theorem TR(L:X.A.units+64<cLine): .eF .NotEq (U2 X.K):=by intro pins s σ H x y v u Q I M F h;obtain⟨d,e,hd,g,j,n,q⟩:=h;obtain⟨as,i⟩:=Dp.reads I d x v hd M;obtain⟨bs,D⟩:=Dp.reads I e y u g F;exact SeqAt.compareNe_shaped i D j n L ⟨.bl _,H,I,Y,q⟩
end
abbrev Ct(h:Heap)(c:Addr)(v: .gz):Prop:=h.IsCell c v
def Vg(d z:Scope):Scope:={d with names:=d.names.map λ(n,k)=>if(k== .free&& .yA z&& .gj n== .cH)then(n,.cell)else(n,k)}
def e8(cells: .cJ): .kJ-> .cJ-> .cJ
 |[],acc=>acc
 |(n,k)::r,acc=>if k== .free then .yC r ((n,.HW n)::acc)else .yC r acc
theorem EG(env:Env)(f:Str× .sC-> .cJ->Sem (ForInStep .cJ))
  (N:∀n k c,f (n,k) c=if k== .free then(do let a<-cellOf env n;pure (.yield ((n,a)::c)))else pure (.yield c)):
  ∀(names: .kJ) (acc: .cJ),(∀y∈names,.kG y.2->∃c,.HX y.1 .ae)->forIn .eE acc f=pure (e8 env.cells .eE acc)
 |[],acc,_=>by rw[vE];rfl
 |(n,k)::r,acc,h=>by
  rw[zd,N]
  have j:=λacc=>EG env f N r acc λy g=>.k1 y g
  unfold e8
  by_cases G: .eh k .vc
  ·rw[af G,af G]
   obtain⟨c,B⟩:=h (n,k) bX (by simpa using G)
   rw[65,cellOf env n=pure c,by unfold cellOf;rw[B]]
   rw[292,.px (env.cells.lookup n)=c,by rw[B];rfl,D,j _]
  ·rw[13,aa G,aa G,j _]
theorem MQ{d:Scope}{env:Env}(h: .HR (.kG y.2) (∃c,.HX y.1 .ae)):closureFor d env=pure (e8 env.cells .fE []):=by simp only[closureFor];rw[EG env _ (λn k c=>rfl) .fE [] h];rfl
theorem mem_lookup{α:Type}:∀{l: .hI α} {n:Str} {c:α},(n,c)∈l->∃V,.O l n V
 |(k,v)::r,n,c,h=>by
  rw[nH]
  cases S:n==k with
  |true=>exact⟨_,Y⟩
  |false=>
   rcases bu.mp h with e|h
   ·cases e;simp at S
   ·exact mem_lookup h
theorem wy{cells: .cJ}:∀{names: .kJ} {acc: .cJ} {n:Str} {c:Addr},(n,c)∈ .yC .eE acc->(n,c)∈acc∨((n,.free)∈ .eE/\c= .HW n)
 |[],_,_,_,h=>.oB
 |(m,k)::r,acc,n,c,h=>by
  unfold e8 at h
  split at h
  ·rename_i G
   have G: .kG k:=by simpa using G
   rcases wy h with h|⟨h1,h2⟩
   ·rcases bu.mp h with e|h
    ·cases e;rw[8,⟨G▸bX,Y⟩]
    ·rw[14,h]
   ·rw[8,⟨.aH h1,h2⟩]
  ·rcases wy h with h|⟨h1,h2⟩
   ·rw[14,h]
   ·rw[8,⟨.aH h1,h2⟩]
theorem Aa{cells: .cJ}:∀{names: .kJ} {acc: .cJ} {p:Str×Addr},p∈acc->p∈ .yC .eE acc
 |[],_,_,h=>h
 |(m,k)::r,acc,p,h=>by
  unfold e8
  split
  ·exact Aa (.aH h)
  ·exact Aa h
theorem Ab{cells: .cJ}:∀{names: .kJ} {acc: .cJ} {n:Str},(n,.free)∈ .eE->(n,.HW n)∈ .yC .eE acc
 |(m,k)::r,acc,n,h=>by
  unfold e8
  rcases bu.mp h with e|h
  ·rw[53,Aa bX]
  ·split
   ·exact Ab h
   ·exact Ab h
theorem tq:∀{names: .kJ} {h:Heap} {acc: .cJ} {x:Str} {c:Addr},(x,c)∈ .yB .bD .eE->
  (x,c)∈acc∨((x,.cell)∈ .eE/\ .bD<=c/\Ct (pushCells h .eE) c none)
 |[],_,_,_,_,h=>.oB
 |(n,k)::r,h,acc,x,c,j=>by
  unfold cellsFrom at j
  unfold pushCells
  split at j
  ·rename_i G
   rw[af G]
   have G:k= .cell:=by simpa using G
   rw[<-gk h (.gB "cell" (.cell none))]at j
   rcases tq j with j|⟨h1,h2,h3⟩
   ·rcases bu.mp j with e|j
    ·cases e
     rw[8,⟨G▸bX,.y,_,Br r _ _ _ .ee,Y⟩]
    ·rw[14,j]
   ·rw[gk]at h2
    rw[8,⟨.aH h1,zq h2,h3⟩]
  ·rename_i G
   rw[aa G]
   rcases tq j with j|⟨h1,h2,h3⟩
   ·rw[14,j]
   ·rw[8,⟨.aH h1,h2,h3⟩]
theorem wx:∀{names: .kJ} {n:Nat} {acc: .cJ} {p:Str×Addr},p∈acc->p∈ .yB n .eE
 |[],_,_,_,h=>h
 |(m,k)::r,n,acc,p,h=>by
  unfold cellsFrom
  split
  ·exact wx (.aH h)
  ·exact wx h
theorem z9:∀{names: .kJ} {n:Nat} {acc: .cJ} {x:Str},(x,.cell)∈ .eE->∃c,(x,c)∈ .yB n .eE
 |(m,k)::r,n,acc,x,h=>by
  unfold cellsFrom
  rcases bu.mp h with e|h
  ·rw[53,⟨n,wx bX⟩]
  ·split
   ·exact z9 h
   ·exact z9 h
theorem z_:∀{names: .kJ} {h:Heap} {acc: .cJ} {x y:Str} {c:Addr},(∀p∈acc,p.2< .bD)->(∀x y c,(x,c)∈acc->(y,c)∈acc->x=y)->
  (x,c)∈ .yB .bD .eE->(y,c)∈ .yB .bD .eE->x=y
 |[],_,_,_,_,_,_,hi,h1,h2=>hi _ _ _ h1 h2
 |(n,k)::r,h,acc,x,y,c,hl,hi,h1,h2=>by
  unfold cellsFrom at h1 h2
  split at h1
  ·rename_i G
   rw[af G]at h2
   rw[<-gk h (.gB "cell" (.cell none))]at h1 h2
   refine z_ (h:=h.push _) .hR (λx y c a b=> ?_) h1 h2
   ·rw[gk]
    rcases bu.mp hp with rfl|hp
    ·exact si _
    ·exact sh (hl p hp)
   ·rcases bu.mp a with e|a<;>rcases bu.mp b with M|b
    ·cases e;cases M;rfl
    ·cases e;rw[56,hl _ b]
    ·cases M;rw[56,hl _ a]
    ·exact hi _ _ _ a b
  ·rename_i G
   rw[aa G]at h2
   exact z_ hl hi h1 h2
theorem QU{M:Model}{A:Around}{E: .E}{s:Shared}{d:Scope}{q:Addr}{i: .cJ}{g:Str}{func: .aU}{code:Value}{y:Env}{j:Addr}{Q: .cq Env}
  (h:Q (newEnv d .u q (.sd .b7 d i) g func code .d3 j) {s with heap:=.yu s .mS .fE}):
  .ht (newFunctionEnv d q i [] g func code .d3 j) s:=by
 simp only[newFunctionEnv,Lv,jd]
 rw[67,wpAny_alloc ?_,wpAny_layCells _ (λn k c=>rfl) .fE i _ _ ?_]
 rw[show({s with heap:=.v9 s}:Shared).heap.objs.size= .b7 from gk .. ]
 rw[1,vE,.qY (aZ h)]
theorem AG{z:Scope}:∀{names: .kJ} {x:Str} {k:NameKind},
  .O (names.map λ(n,k)=>if(k== .vc&& .yA z&& .gj n== .cH)then(n,NameKind.cell)else(n,k)) x k->
  ∃U,names.lookup x=some U/\(k=U∨(.kG U/\k= .cell))
 |[],_,_,h=>by simp at h
 |(n,k₀)::r,x,k,h=>by
  have j:= @AG z r x k
  rw[134,List.lookup x ((.aq (k₀== .vc&& .yA z&& .gj n== .cH) (n,NameKind.cell) (n,k₀))::(r.map _))= .e0]
  cases W:x==n with
  |true=>
   simp only[nH,W]
   by_cases B: .c (k₀== .vc&& .yA z&& .gj n== .cH)
   ·rw[242,af B]
    cases h'
    simp only[bU,kg]at B
    exact⟨k₀,Y,.inr ⟨B.1.1,Y⟩⟩
   ·rw[242,aa B]
    cases h'
    exact⟨_,Y,.ao⟩
  |false=>
   simp only[nH,W]
   by_cases B: .c (k₀== .vc&& .yA z&& .gj n== .cH)
   ·rw[242,af B]
    exact j h'
   ·rw[242,aa B]
    exact j h'
structure vf(N: .H)(sc scope:Scope)(own: .uZ):Prop where
 kind: .y9 scope.kind
 uniq:∀y∈scope.names,scope.names.lookup y.1= .oK y
 ix:∀p∈own,N[p.2]? =some p.1
 free:∀y∈scope.names,.kG y.2-> .D7 sc y.1 .cH∨ .D7 sc y.1 .kI
 own:∀y∈scope.names,y.2= .local∨y.2= .cell->y.1∈ .HN∨y.1∉N
def wipe(σ:St): .cY->St
 |[]=>σ
 |v::vs=>(.dm).set v none
theorem B_(σ:St):∀vs: .cY,.aA .dm σ.length
 |[]=>rfl
 |v::vs=>by unfold wipe;rw[pX,B_ σ vs]
theorem Ca{σ:St}{i:Nat}{x:V}:∀{vs: .cY},.a1 .dm=some .aa-> .a1 σ=some .aa/\i∉vs
 |[],h=>⟨h,by simp⟩
 |v::vs,h=>by
  unfold wipe at h
  by_cases hi:v=i
  ·subst hi
   by_cases D:v<(.dm).length
   ·rw[3,zg D]
   ·rw[3,pW (by simpa using D)]
  ·rw[zf hi]at h
   obtain⟨h1,h2⟩:=Ca h
   exact⟨h1,by simp only[bu,not_or];exact⟨λe=>hi e.symm,h2⟩⟩
abbrev Cx.d_(X:Cx)(s:Shared)(H:Hp)(d:Scope)(g:Env)(fp: .g):Cx:={X with ey:=s,rQ:=H,env:=g,outer:=.bv,ex:=fp,fn:=λx=>.fv x== .cH,pn:=[],xe:=.gP}
section
variable{X:Cx}{pins: .D}{σ:St}{H:Hp}{s:Shared}
theorem Mw{d:Scope}{own: .uZ}{fp: .g}(I: .k)(ok:vf X.N .l9 d own)(hN:X.N.Nodup)(hfp:∀b∈fp,.nj X H b/\b< .u):
  Inv (X.d_ s H d (compEnvC d (.v5 .b7 d []) .u .S) fp) [] (wipe σ .v0) H {s with heap:=.yu s .mS .fE}:=by
 have hfree: .HR (.kG y.2) (∃c,.pu y.1= .ae):=λy g e=>by
  rcases ok.free y g e with k|k
  ·exact .HQ I _ k
  ·exact I.ok.has _ (.inr k)
 generalize N:compEnvC d (cellsFrom (s.heap.objs.size+1) d.names (e8 X.env.cells d.names [])) s.heap.objs.size X.env=cenv
 have kp: .pb .ch (.iC (.yu s .mS .fE)= .l):=λb o e=>Br _ _ _ _ .eO
 have W: .yw= .u:=.HV
 have L:cenv.cells= .v5 .b7 d []:=.HV
 have hsc:cenv.scope=Vg d .l9:=.HV
 rw[<-gk .G (.gB "dict" .mS)]at L
 have cm:∀{y c},(y,c)∈e8 .zf .fE []-> .pu y= .ae/\c< .u:=λ{y c} j=>by
  rcases wy j with j|⟨h1,rfl⟩
  ·cases j
  ·obtain⟨c,B⟩:=hfree _ h1 Y
   rw[B]
   obtain⟨w,z⟩:=.j2 _ _ B
   exact⟨Y,z.lt⟩
 have mem:∀{y c},.mx= .ae->(.pu y= .ae/\c< .u)∨(.b7<=c/\Ct (.yu s .mS .fE) c none):=λ{y c} e=>by
  rw[L]at e
  rcases tq (hH e)with j|⟨_,h2,h3⟩
  ·rw[14,cm j]
  ·rw[gk]at h2;rw[8,⟨h2,h3⟩]
 have look:∀{y},.fv y= .kI->∃c,.mx= .ae/\ .pu y= .ae:=λ{y} R=>by
  have g:(y,.vc)∈ .fE:=hH R
  obtain⟨V,M⟩:=mem_lookup (wx (names:=.fE) (n:=(.v9 s).objs.size) (Ab (cells:=.zf) (acc:=[]) g))
  rw[<-L]at M
  refine⟨V,M,?_⟩
  rw[L]at M
  rcases tq (hH M)with j|⟨h1,_,_⟩
  ·exact(cm j).1
  ·rw[123,ok.uniq _ h1,R];cases this
 have okB:(X.d_ s H d cenv fp).Ok:=by
  refine⟨.yz,by show cenv.scope.kind=_;rw[hsc];exact ok.kind,by show cenv.globals=_;rw[<-N];exact .vb,by show cenv.builtins=_;rw[<-N];exact .yy,by show .u<= .yw;rw[W];exact .y,
   λy z c F D=> ?_,λy g=> ?_,λy c z e=> ?_,I.ok.hd,.va,.ao,λb S=>⟨?_,λy c e z=> ?_⟩,I.bs,cn .v8 I.sz,λb o e S=> ?_,λb S z=> ?_,I.stack,I.xX⟩
  ·rw[39,.mx= .ae,F,cenv.cells.lookup z= .ae,D]
   rw[L]at F D
   rw[15,z_ .hR (λy z c a b=>I.ok.inj y z c (cm a).1 (cm b).1) (hH F) (hH D),gk,sh (cm (y:=p.1) (c:=p.2) hp).2]
  ·show∃c,.mx= .ae
   have key:∀k,.yx= .e0->(k= .cell∨ .kG k)->∃c,.mx= .ae:=λk G hk'=>by
    unfold Env.kindOf at G
    rw[hsc]at G
    obtain⟨U,e,r⟩:=AG G
    have:U= .cell∨ .kG U:=by
     rcases r with rfl|⟨rfl,_⟩
     ·exact hk'
     ·rw[8,Y]
    rcases this with rfl|rfl
    ·obtain⟨c,j⟩:=z9 (n:=(.v9 s).objs.size) (acc:=e8 .zf .fE []) (hH e)
     obtain⟨V,M⟩:=mem_lookup j
     exact⟨V,by rw[L];exact M⟩
    ·obtain⟨c,h1,_⟩:=look e
     exact⟨c,h1⟩
   rcases g with g|g
   ·exact key _ g .ao
   ·exact key _ g (.inr Y)
  ·have z: .eh (.fv y) (some NameKind.cell):=z
   have z: .fv y= .cH:=by simpa using z
   rw[10,.mx,.ae,e]
   rw[L]at e
   rcases tq (hH e)with j|⟨_,h2,_⟩
   ·rcases wy j with j|⟨h1,_⟩
    ·cases j
    ·have q:=ok.uniq _ h1
     rw[215,z]
   ·rw[gk]at h2
    exact zq h2
  ·rw[38,b≠ .yw,W,dj (hfp b S).2]
  ·rw[10,.mx,.ae,e]
   rcases mem e with⟨h1,_⟩|⟨h1,_⟩
   ·exact(.kW (hfp b S).1).1 y c h1 z
   ·have h2: .b7<=b:=.HU h1
    rw[56,cY (hfp b S).2 (zq h2)]
  ·rcases(hfp b S).1.2.2.2.1 with z|z
   ·exact I.ok.uG b o e z
   ·rw[56,cY (bM e) (cn .v8 z)]
  ·rcases bu.mp (I.BU b z)with z|z
   ·exact(hfp b S).1.2.1 z
   ·exact(.bA (hfp b S).1).1 z
 refine⟨okB,Y,.rF,Un.kept kp,⟨.rJ,?_,λi y av F D e3=> ?_⟩,.Cu,?_,.Cu,.hR,.D6 kp,by rw[B_];exact I.len⟩
 ·rw[38,Heap.Ns _ .yw _,W,Heap.Ns.keeps (Heap.Ns.new ..) λb o e=>Br _ _ _ _ e]
 ·obtain⟨D,hne⟩:=Ca D
  have hfr: .fv y= .kI/\(.yx= .cH∨ .yx= .kI):=by
   have key:∀k,cenv.scope.names.lookup y= .e0->k= .local∨k= .cell∨ .kG k-> .fv y= .kI/\(.yx= .cH∨ .yx= .kI):=λk G hk'=>by
    have hk0:=G
    rw[hsc]at G
    obtain⟨U,e,r⟩:=AG G
    have no:¬(U= .local∨U= .cell):=λhh=>by
     rcases ok.own _ (hH e) hh with M|M
     ·obtain⟨p,hp,hpy⟩:=iC.mp M
      have e3:=ok.ix p hp
      have:p.1=y:=hpy
      rw[this]at e3
      exact hne (iC.mpr ⟨p,hp,xk hN e3 F⟩)
     ·exact M (lO F)
    rcases r with rfl|⟨rfl,rfl⟩
    ·rcases hk' with rfl|rfl|rfl
     ·rw[5,.ao,no]
     ·rw[5,.inr Y,no]
     ·exact⟨e,.inr hk0⟩
    ·exact⟨e,.inl hk0⟩
   have e3:sM cenv.scope y:=e3
   rcases e3 with e3|e3|e3
   ·exact key _ e3 .ao
   ·exact key _ e3 .xl
   ·exact key _ e3 (.tx Y)
  obtain⟨m,hn,R⟩:=I.loc
  have hvis:sM .l9 y:=(ok.free _ (hH hfr.1) Y).elim (λk=>.inr (.inl k)) (λk=>.tx k)
  obtain⟨w,r,q⟩:=R i y av F D hvis
  refine⟨w,r,.inr ⟨hfr.2,?_⟩⟩
  obtain⟨c,h1,h2⟩:=look hfr.1
  rcases q with⟨k,_⟩|⟨_,V,M,z⟩
  ·have k: .eC y= .bh:=k
   rcases ok.free _ (hH hfr.1) Y with U|U<;>rw[show .eC y=_ from U]at k<;>cases k
  ·rw[277,h2,⟨c,h1,z.keeps kp⟩]
 ·rw[10,.mx,.ae,e]
  rcases mem e with⟨h1,_⟩|⟨_,z⟩
  ·obtain⟨w,z⟩:=.j2 y c h1
   exact⟨w,z.keeps kp⟩
  ·exact⟨_,z⟩
 ·rw[38,H .yw=none,W,.hc]
 ·rw[10,.mx,.ae,e]
  rcases mem e with⟨h1,_⟩|⟨h1,_⟩
  ·exact .oN y h1
  ·exact .rG (zq h1)
 ·rw[5,.HP p (([]: .D)++[]),by simp]
theorem Mg{E: .E}{D:Addr}{xs: .s}{y:V}{v:Value}{Q: .E}(I: .k)(d:H D= .cu)(hz: .r< .W)(r:RelV y v)
  (h:∀s',.cL (.bZ H D (xs++[y])) s'->Q .none s'): .lo (.oJ "list.append" (.f4 D v)) Q E s:=by
 obtain⟨z,g,n,B,e⟩:=.lc D d
 have R:=B.length
 rw[0,append_at (hsz:=.u1) e λh' W F=> ?_,h .dX (I.write (t':=.ag) (by rw[d];trivial) .ao (λb u S q=>.hb b S q) ⟨_,F⟩ ⟨.os bL,g++[v],n+1,B.append (.dE r),?_⟩)]
 rw[F]
 simp
def vV(X:Cx)(j: .bK)(t:TT):Prop:=.HT .yv (.k-> .gc Q-> .dR (forIn j true λc r=>.aq r (do let ok<-isTrue c X.env (eval c X.env);pure (ForInStep.yield ok)) (pure (ForInStep.yield r))) (TP X pins σ Q))
def Yn:TT:=.D5 true H
theorem uT:vV X [] Yn:=λ_ _ _ H _ I h=>wpAny_tests_nil ⟨H,I,h⟩
theorem Iu{c:Expr}{t:TT}(h:PT X c t):vV X [c] t:=λpins s σ H Q I U=>wpAny_tests_one (h pins s σ H Q I U)
end
theorem ry{α:Type}{t:Sem α}{Q n: .cq α}{M:Model}{A:Around}{E: .E}{s:Shared}(h:wpAny M A t Q .gP s)(U:∀a s,Q a s->n a s):wpAny M A t n E s:=f_ h U (.HS z)
theorem MY{prog:Program}{w:World}{A:Around}{R: .mb}{s:Shared}{z target iter:Expr}{j: .bK}{d:Scope}{pos:Pos}{L acc:Value}{env:Env}(I: .cq Nat)
  (i:∀n s,I n s-> .v7 (pyNext L) (λr N=>match r with
   |none=>R (.ok .next) N
   |some v=>.v7 (letOwnedTupleGo target L v) (λ_ B=>.v7 (assign target env v) (λ_ g=>
     .v7 (forIn j true λc r=>.aq r (do let ok<-isTrue c env (eval c env);pure (ForInStep.yield ok)) (pure (ForInStep.yield r))) (λok y=>
      if .c ok then .v7 (.gd z) (λx M=>
       .v7 (.oJ "list.append" [acc,x]) (λ_ S=>∃m,m<n/\I m S) w A s' M) w A s' y
      else∃m,m<n/\I m y) w A s' g) w A s' B) w A s' N) w A s' s)
  (n:Nat)(h:I n s):
  codeAny .hM A (.compLoop (.v1 z [.v2 target j] d) 0 L acc env) R s:=by
 rw[48,codeAny_loop Y I (λn s U=> ?_) n h,wpAny _ A ((compTurn (.v1 z [.v2 target j] d) 0 L acc env).onRaise (λx=>do noteFrame x env;theTreesLotGoes x)) _ _ s]
 rw[58,wpAny_noted ?_,compTurn_list,.sy (ak (f_ (i n s U) (λr N q=> ?_) .v6))]
 cases r with
 |none=>exact aZ q
 |some v=>
  rw[67,f_ q (λ_ B G=> ?_) .v6,f_ G (λ_ g D=>ak (f_ D (λok y F=> ?_) .v6)) .v6]
  cases ok with
  |false=>exact aZ ⟨Y,F⟩
  |true=>
   exact ak (ak (f_ F (λx M V=>ak (f_ V (λ_ S W=>aZ (aZ ⟨Y,W⟩)) .v6)) .v6))
section
variable{X:Cx}
def JQ(N:TI)(g:TG)(U:TT)(te:TE)(vs: .cY):TE:=fun σ H Q=>N σ H λB H1=>∀D,H1 D=none-> .vS .lK ((∃m,W 0 m .q9)/\∀i m H,W i m H->
 (.iv B/\ .bV D H)∨(B.go i H/\∃z: .f1,(∀H',z H'->∃M,M<m/\W .z M H')/\∀x H',.tl i H x-> .sq x .dm H' (.qk= .dm/\U σ2 H2 λb V=>
  .jk (te σ2 V (.x7 (q D= .gK/\ .iu< .W/\z (.qj q D [y])))) (z V))))
theorem Qg{pins: .D}{s:Shared}{σ:St}{H:Hp}{Q:VK}{elt tg iter:Expr}{ifs: .bK}{d:Scope}{own: .uZ}{pos pos':Pos}{wi:TI}{g:TG}{tt:TT}{te:TE}{use:Option (.aw->Sem Unit)}{Qf: .E}
  (hc: .dO)(hN:X.N.Nodup)(I: .k)(hi:PI X tg iter wi)(ok:vf X.N .l9 d own)
  (hg: .v3 (PG (X.d_ s H d (compEnvC d cl C .S) fp) tg g))(V: .v3 (vV (X.d_ s H d (compEnvC d cl C .S) fp) ifs tt))
  (he: .v3 (PE (X.d_ s H d (compEnvC d cl C .S) fp) elt te))(L:∀x,.Ci .S x=pure x)
  (h:JQ wi g tt te .v0 σ H Q)
  (hRR:∀D C s' m H',.kH-> .eW D-> .qB s' C-> .nj X H' C->compPost (.y6 .a6) X.A X.xe use Qf (.ref D) C (.ok .next) s'):
  .dR (comprehension (.v1 elt [.v2 tg ifs] d) d .S pos' (newList []) .a (.Y iter) use) Qf:=by
 have hfree: .HR (.kG y.2) (∃c,.pu y.1= .ae):=λy hy e=>by
  rcases ok.free y hy e with k|k
  ·exact .HQ I _ k
  ·exact I.ok.has _ (.inr k)
 refine wpAny_comprehension_free (use:=use) Y L (MQ hfree) ok.kind (λy hy e=>.xf (ok.uniq y hy)) (aE (hi pins s σ H _ I h) λxv U hx=>aE hx .GW)
 obtain⟨it,fp,tn,B,H2,e,I2,T,st2,f2,q⟩:=h2
 subst e
 refine pH (QU ?_) (by show 0<= .W;decide)
 generalize hD:s2.heap.objs.size=D
 have hDn:H2 D=none:=I2.aw.fresh (sg hD)
 obtain⟨W,⟨m0,w0⟩,turn⟩:=q D hDn
 generalize hs3:({s2 with heap:=s2.heap.push {cls:=.type "list",data:=.seq ([]:List Value).toArray}}:Shared)=s3
 have I3: .cL (.gn H2) s3:=by
  rw[<-hs3]
  rw[117,I2.laid (t':=s2.toks) .D4 (sg hD) ⟨.ab,[],0,.nil,?_⟩,hD,.ee]
 have h3:s3.heap= .zu s2 (.gx ([]: .q)):=by rw[<-hs3]
 have sz:∀b∈fp,b<s2.heap.objs.size:=λb S=>by
  obtain⟨o,e,_⟩:=T.obj _ _ st2 b S
  exact bM e
 have f3:∀b∈fp,.nj X (.gn H2) b/\b< .fx:=λb S=>by
  have hlt:=sz b S
  rw[15,⟨⟨?_,(f2 b S).2⟩,by rw[h3,gk];exact sh hlt⟩,aC (by rw[<-hD];exact dj hlt),(f2 b S).1]
 have st3:tn 0 s3.heap:=T.keep _ _ _ st2 λb _ o e=>by rw[h3];exact .eO
 have I4:=Mw I3 ok hN f3
 have pg:=hg s3 (.gn H2) .fx (.v5 (.fx+1) d []) fp
 have pt:=V s3 (.gn H2) .fx (.v5 (.fx+1) d []) fp
 have pe:=he s3 (.gn H2) .fx (.v5 (.fx+1) d []) fp
 show codeAny _ _ (.compStart (.v1 elt [.v2 tg ifs] d) 0 .v4 (.ref D) (compEnvC d (.v5 (.fx+1) d []) .fx .S)) (compPost (.y6 .a6) X.A X.xe use Qf (.ref D) .fx) {s3 with heap:=.yu s3 .mS .fE}
 have nfp:∀b∈fp,(.gn H2) b=none:=.si (f3 b S).1
 generalize hce:compEnvC d (cellsFrom (s3.heap.objs.size+1) d.names (e8 X.env.cells d.names [])) s3.heap.objs.size X.env=ce at I4 pg pt pe⊢
 have cL:ce.locals= .fx:=by subst hce;rfl
 generalize hH3:upd H2 D (.lst [])=H3 at I3 I4 pg pt pe w0 nfp f3
 generalize hs4:({s3 with heap:=pushCells (s3.heap.push {cls:=.type "dict",data:=.dict #[]}) d.names}:Shared)=s4 at I4⊢
 have st4:tn 0 s4.heap:=T.keep _ _ _ st3 λb _ o e=>by rw[<-hs4];exact Br _ _ _ _ .eO
 have stat:∀{σ':St} {H':Hp} {s':Shared},Inv (.oM d) [] σ' H' s'-> .kt->∀b∈fp,dG (.oM d) [] H' b:=λ{σ' H' s'} I' G b S=>
  ⟨G b S,(I'.ok.wD b S).1,I'.ok.qu b S,.inl S,λx c e=>(I'.ok.wD b S).2 x c e,λp hp=>.hW (.HP p (([]: .D)++[]))⟩
 have loop:codeAny (.y6 .a6) X.A (.compLoop (.v1 elt [.v2 tg ifs] d) 0 .v4 (.ref D) ce) (compPost (.y6 .a6) X.A X.xe use Qf (.ref D) .fx) s4:=by
  refine MY (λn s'=>∃i H',Inv (.oM d) [] (wipe σ .v0) H' s'/\tn i .dN/\ .kt/\W i n H') ?_ m0 ⟨0,H3,I4,st4,nfp,w0⟩
  rintro n s5 ⟨i,H5,I5,st5,n5,w5⟩
  rcases turn i n H5 w5 with⟨stop,qq⟩|⟨go,Nx,hNx,step⟩
  ·have td:=T.done (.oM d) Y rfl rfl hc i [] s5 _ H5 .gP I5 (stat I5 n5) st5 stop
   refine ry td λr s6 ⟨M,I6⟩=> ?_
   subst M
   have I7: .cL H5 s6:=I3.z4 (ch:=fp) I6.os I6.base I6.aw I6.bare λb S=>⟨.uY (f3 b S).1,(f3 b S).1.2.1,.yq (f3 b S).1,(.kW (f3 b S).1).2⟩
   have nC:H5 .fx=none:=by
    have z:H5 ce.locals=none:=I6.free
    rw[cL]at z
    exact z
   obtain⟨m,G,_⟩:=I6.loc
   have G: .qB s6 ce.locals:=G
   rw[cL]at G
   exact hRR D .fx s6 m H5 I7 qq G (I3.iO .y nC)
  ·have ti:=T.item (.oM d) Y rfl rfl hc i [] s5 _ H5 .gP I5 (stat I5 n5) st5 go
   refine ry ti λr s6 ⟨u,M,h6⟩=> ?_
   subst M
   refine ry h6 λ_ s7 ⟨x,F,I7,r7,y7,st7,n7⟩=> ?_
   have I7':=I7.pinned (stat I7 n7) (T.obj _ _ st7)
   rw[349,ry (pg _ s7 _ F x u _ I7' r7 (step x F y7)) λ_ s8 ⟨σ8,H8,I8,hw8,q8⟩=> ?_,ry (pt _ s8 σ8 H8 _ I8 q8) λb s9 ⟨H9,I9,q9⟩=> ?_,∀{s':Shared} {H':Hp},Inv (.oM d) ([]++q_ fp s7.heap) σ8 H' s'->Nx H'->∃m,m<n/\∃i H',Inv (.oM d) [] (wipe σ .v0) H' s'/\tn i .dN/\ .kt/\W i m H',λ{s' H'} I' nx=>by
    obtain⟨m',hm,N⟩:=hNx H' nx
    have pin':∀b∈fp,∀o,s7.heap.get? b= .l-> .FD b .l/\ .dg=none:=λb S o e=>
     let z:=I'.pin (b,o) (iB _ (iB _ (qS S e)))
     ⟨z.1,z.2.1⟩
    have R: .aA (wipe σ .v0) σ8.length:=by rw[<-hw8,B_]
    refine⟨m',hm,.z,H',(I'.nv (pins:=[])).weak R (λj v e=> ?_),.GU T _ _ _ st7 (pin' b S o e).1,.fe,N⟩
    ·rw[<-hw8]at e
     exact(Ca e).1
    ·obtain⟨o,e,_⟩:=T.obj _ _ st7 b S
     exact(pin' b S o e).2]
   cases b with
   |false=>
    simp only[pL,lp]at q9⊢
    exact fin I9 q9
   |true=>
    simp only[jd]at q9⊢
    rw[2,ry (pe _ s9 σ8 H9 _ I9 q9) λz s10 ⟨yv,H10,I10,r10,acc,hD10,hz10,nx⟩=> ?_,Mg (X:=.oM d) I10 hD10 hz10 r10 λs11 I11=>fin I11 nx]
 exact codeAny_compStart_list loop (T.self X.A 0 _ _ _ st4 loop)
theorem o8{z tg iter:Expr}{j: .bK}{d:Scope}{own: .uZ}{pos:Pos}{N:TI}{g:TG}{U:TT}{te:TE}(B: .dO)(hN:X.N.Nodup)(hi:PI X tg iter N)(ok:vf X.N .l9 d own)
  (y: .v3 (PG (X.d_ s H d (compEnvC d cl C .S) fp) tg g))(V: .v3 (vV (X.d_ s H d (compEnvC d cl C .S) fp) j U))
  (he: .v3 (PE (X.d_ s H d (compEnvC d cl C .S) fp) z te))(L:∀x,.Ci .S x=pure x:=by intro _;rfl):
  .A (.v1 z [.v2 tg j] d) (JQ N g U te .v0):=by
 intro pins s σ H Q I h
 rw[9,eval_ListComp,Qg B hN I hi ok y V he L h λD C s' m H' i q G f=>⟨m,G,λR W=> ?_⟩]
 obtain⟨n,f1,f2,f3,F,M⟩:=f
 exact⟨.ref D,H',.DY i s'.toks (.hb b S e) n f1 f3 F M,Y,q⟩
end
theorem Gu{lo:Int}{n:Nat}{g:TG}{U:TT}{te:TE}{vs: .cY}{σ:St}{H1:Hp}{D:Addr}{G: .f1}(Pv: .lK)(F:Pv 0 .q9)
  (L:∀i H,i<n->Pv i H-> .sq (.int (lo+i)) .dm H (.qk= .dm/\U σ2 H2 λb V=>
   .jk (te σ2 V (.x7 (q D= .gK/\ .iu< .W/\Pv .z (.qj q D [y])))) (Pv .z V)))(hd:∀H,Pv n H->G H):
  .vS .lK ((∃m,W 0 m .q9)/\∀i m H,W i m H->
   (.iv (kS lo n)/\G H)∨((kS lo n).go i H/\∃z: .f1,(∀H',z H'->∃M,M<m/\W .z M H')/\∀x H',(kS lo n).iX i H x H'-> .sq x .dm H' (.qk= .dm/\U σ2 H2 λb V=>
    .jk (te σ2 V (.x7 (q D= .gK/\ .iu< .W/\z (.qj q D [y])))) (z V)))):=by
 rw[284,⟨λi m H=>m=n-i/\i<=n/\Pv i H,⟨n,.o0,F⟩,?_⟩]
 by_cases j:i<n
 ·refine .inr ⟨j,.dl,.F9 ⟨n- .z,.it,j,d⟩ ?_⟩
  obtain⟨e,y⟩:=y
  subst e y
  exact L i _ j p
 ·rw[99,i=n,⟨.y,hd H p⟩]
theorem wU{K:ag}{a:Addr}{xs: .s}{g:TG}{U:TT}{te:TE}{vs: .cY}{σ:St}{H1:Hp}{D:Addr}{G: .f1}(Pv: .lK)(F:Pv 0 .q9)(R:∀i H,i<= .r->Pv i H-> .fh)
  (L:∀i x H,.iN= .aa->Pv i H-> .sq x .dm H (.qk= .dm/\U σ2 H2 λb n=>
   .jk (te σ2 n λy B=>∃acc,B D= .gK/\ .iu< .W/\Pv .z (.qj B D [y])) (Pv .z n)))(hd:∀H,Pv .r H->G H):
  .vS .lK ((∃m,W 0 m .q9)/\∀i m H,W i m H->
   (.iv (lM K a)/\G H)∨((lM K a).go i H/\∃z: .f1,(∀H',z H'->∃M,M<m/\W .z M H')/\∀x H',(lM K a).iX i H x H'-> .sq x .dm H' (.qk= .dm/\U σ2 H2 λb n=>
    .jk (te σ2 n λy B=>∃acc,B D= .gK/\ .iu< .W/\z (.qj B D [y])) (z n)))):=by
 rw[284,⟨λi m H=>m= .r-i/\i<= .r/\Pv i H,⟨.r,.o0,F⟩,?_⟩]
 rw[348,R i H hi p,i< .r]
 ·rw[347,.inr ⟨⟨xs,xs[i],.HO⟩,.dl,.F9 ⟨.r- .z,.it,j,d⟩ ?_⟩,L i x _ (y xs q) p]
 ·rw[99,i= .r,⟨⟨xs,q,.y⟩,hd H p⟩]
def Eo(N: .H)(z d:Scope)(own: .uZ):Bool:=
 (match d.kind with| .function=>true|_=>.a)&&(d.names.all λy=>.a9 (.fv y.1) (.oK y))&&(own.all λp=>.a9 (N[p.2]?) (some p.1))&&
  (d.names.all λy=>match y.2 with
   | .free=>(match z.names.lookup y.1 with|some .cell=>true|some .free=>true|_=>.a)
   | .local=>.g0 y.1 .HN||decide (y.1∉N)
   | .cell=>.g0 y.1 .HN||decide (y.1∉N)
   |_=>true)
theorem nW{N: .H}{z d:Scope}{own: .uZ}(h: .c (Eo N z d own)):vf N z d own:=by
 unfold Eo at h;simp only[bU,j7,cR]at h;obtain⟨⟨⟨h1,h2⟩,h3⟩,h4⟩:=h;refine⟨?_,h2,h3,λy g e=> ?_,λy g e=> ?_⟩
 ·split at h1
  ·assumption
  ·cases h1
 ·have q:=h4 y g;simp only[e]at q;split at q<;>first|exact .inl (by assumption)|exact .inr (by assumption)|cases q
 ·have q:=h4 y g;rcases e with e|e<;>(simp only[e,lG,cR]at q;exact q)
section
variable{κ:Type}[DecidableEq κ]
def kP(F: .oL V)(k:κ): .s6:=(F.find? λd=>.a9 d.1 k).map (·.2)
theorem J_{p:κ×V}{r: .oL V}{k:κ}(e:p.1=k):kP (p::r) k= .oK p:=by simp[kP,za,e]
theorem J9{p:κ×V}{r: .oL V}{k:κ}(e:¬p.1=k):kP (p::r) k=kP r k:=by simp[kP,za,e]
theorem J8(k:κ):∀F: .oL V,(F.any λd=>.a9 d.1 k)=(kP F k).isSome
 |[]=>rfl
 |p::r=>by
  rw[y4]
  rw[17,p.1,k]
  ·simp only[J_ e,bC e,Bool.true_or,Lv]
  ·rw[80,J9 e,aW e,yA,J8 k r]
theorem gG.Pb{o: .s6}{u: .gz}(r:gG o u):o.isSome=u.isSome:=by
 cases o with
 |none=>cases u with
  |none=>rfl
  |some _=>exact .D3 .bU
 |some _=>cases u with
  |none=>exact .D3 .bU
  |some _=>rfl
theorem KV.val{F: .oL V}{vs: .oL .aw}(r:KV F vs)(k:κ):gG (kP F k) (.xK vs):=by
 unfold KV at r
 induction r with
 |nil=>exact .bo
 | @cons p q ps g h t j=>
  obtain⟨h1,h2⟩:=h;rw[17,p.1,k]
  ·have M:q.1=k:=h1.symm.trans e;have b: .xK (q::g)= .oK q:=by simp[valueAt,za,M]
   rw[13,J_ e,b,h2]
  ·have M:¬q.1=k:=λz=>e (h1.trans z);have b: .xK (q::g)= .xK g:=by simp[valueAt,za,M]
   rw[13,J9 e,b,j]
end
theorem FZ{P:Program}{w:World}{k:Key}{u:Value}(r: .fB (kV k)): .yt P w k u:=by
 cases k with
 |inl i=>rw[144,∃t,u= .rI t];subst e;exact QH P w i t
 |inr x=>rw[144,∃t,u= .ys x];subst e;exact QI P w x t
def Du(i:Expr):Prop:=∀G iv,.D2 i G iv= .HM [G,iv] G iv
theorem XR{prog:Program}{w:World}{A:Around}{E: .E}{s:Shared}{env:Env}{value slice:Expr}{pos:Pos}{T id:String}{Q: .E}
  (R: .BE (.type T) "__getitem__" (.BF id))(L:Du slice)
  (h: .bx prog w A (.gd value) (λo N=>.bx prog w A (.gd slice) (λi g=>g.TypeIs o T/\ .bx prog w A (getItem o i) Q E g) E N) E s):
  .cz (.gd (.u5 value slice)):=by
 refine Subscript_ (.yr h (λo N q=>.yr q (λi g D=> ?_) x) x)
 obtain⟨I,D⟩:=D
 unfold subscriptTail
 rw[58,ak ?_,getitemInPython_of_ne I.not_modules,ak (Kq I R ?_)]
 have fin: .bx prog w A (.D2 slice o i) (λr y=>.bx prog w A (letTemporaryGo value o r>>=λ_=>pure r) Q E y) E g:=by
  rw[1,L o i,wpAny_operating (.yr D (λr y F=>ak (wpAny_letTemporaryGo (aZ F))) x)]
 first
  |exact aZ (ak fin)
  |exact ak (aZ (ak fin))
  |exact ak fin
theorem Mz: .jB "reversed" (.fI "reversed"):=by decide+kernel
section
variable{X:Cx}{pins: .D}{σ:St}{H:Hp}{s:Shared}{h':Heap}
theorem Inv.YG{t':Nat}{ch: .g}(I: .k)(k: .rH b (.ch-> .aM= .l))(N: .D0 X H b): .uX t':=by
 rw[346,H b= .V->b∉ch,(by have q:=(N b z).1;rw[q]at e;cases e)]
 rw[345,s.gens,s.drawn,ch,λb S=>⟨.uY (N b S),(N b S).2.1,.yq (N b S),(.kW (N b S)).2⟩,k b o B e,⟨o.slots,k b o B e⟩,λ_ _ _ _ n=>n,⟨o,k b o B e⟩,λ_ _ e=>e,λ_ _ _ e=>e,⟨.D1 e⟩,?_,.CY,.rF]
 ·rw[344,⟨o,es,i,.yp _ o ((N _ z).2.1 Y) d,r⟩]
 ·rw[343,.mp u e,k c v ?_ q,.ux,.mo]
  ·rw[49,g b u e]
  ·exact g c _ z
theorem Inv.J3{t':Nat}{ch: .g}{T:Addr}{R:HO}(I: .k)(k: .rH b (.ch-> .aM= .l))(N: .D0 X H b)(y: .u<=T)
  (new:dk .a6 X.w (upd H T R) h' T R): .CZ (upd H T R) t':=by
 have G:H T=none:=.rG y
 rw[346,H b= .V->b∉ch,by
  have q:=(N b z).1
  rw[45,q]]
 rw[345,s.gens,s.drawn,ch,λb S=>⟨.uY (N b S),(N b S).2.1,.yq (N b S),(.kW (N b S)).2⟩,k b o B e,⟨o.slots,k b o B e⟩,λb o _ e n=> ?_,⟨o,k b o B e⟩,λb xs e=> ?_,λb o u e=> ?_,⟨#[],?_⟩,?_,.CY,.rF]
 ·rw[54,.mQ e y,n]
 ·rw[1,.jm e G,e]
 ·rw[1,.jm e G,e]
 ·rw[.jm e G,e];simp
 ·rw[344,⟨o,es,i,.yp _ o ((N _ z).2.1 Y) d,r⟩]
 ·by_cases S:b=T
  ·subst S
   rw[213,aB,new]
  ·rw[aC S]at e
   rw[343,.mp u e,k c v ?_ q,λc q=>.dS q G q,λc xs q=>.dS q G q]
   ·rw[49,g b u e]
   ·exact g c _ z
end
section
variable{X:Cx}
theorem xE{tg:Expr}{pins: .D}{σ:St}{H:Hp}{s:Shared}{R: .bT It}{B:It}{y: .tC Nat}{tk:Nat}(I: .k)(o:Obj)
  (T:Turn .a6 X.w X.K tg B [.u] .u y)(st:y 0 (.E7 o))(q:R B H):vU X pins σ tg R .e4 {s with heap:=.E7 o,toks:=tk}:=by
 refine⟨.u,[.u],y,B,H,Y,I.kept λb d e=>.eO,T,st,.fe,q⟩
 rw[121,b= .u,I.iO .y .hc]
end
def rZ(lo c:Int)(n:Nat):It:=⟨λi _=>i<n,λi H x H'=>H'=H/\x= .int (lo+ .jL*c),λi _=>n<=i⟩
theorem YC{P:Program}{w:World}{K:ag}{tg:Expr}(L:Addr)(lo c:Int)(n:Nat): .ol P w K tg (rZ lo c n) [L] L (IsRangeIter h L (lo+ .jL*c) (.Z- .jL) c) where
 mem:=by simp
 obj:=λi h st b S=>by
  rw[121,b=L,⟨_,st,(λv z=>nomatch z)⟩]
 keep:=λi h h' st k=>.kg L _ st
 item:=by
  rw[241,L]
  have W:=Walks.range (prog:=.a6) (w:=X.w) .c7 L lo c n
  refine W.item i s _ _ y st λv h' tk D M R=> ?_
  obtain⟨t,rfl⟩:=D
  have j: .uX tk:=.Cq I (R b o (by simpa using S) e) q f1 f3 V G
  exact⟨_,Y,oI (s:=.qT) (n:="range_iterator") M rfl rfl (by decide) ⟨.int (lo+ .jL*c),H,j,⟨t,Y⟩,⟨Y,Y⟩,M,.uW b S⟩⟩
 done:=by
  rw[241,L]
  exact wpAny_pyNext_range_end .c7 st (by have:n<=i:=y;omega) λh' g=>⟨Y,.kF (g b o S e) q V G⟩
 self:=λA i s Q E st h=>wpAny_pyIter_rangeiter st h
def v3(i j c:Int)(n:Nat):Prop:=c≠0/\c.natAbs<1073741824/\ .c (Builtin.Range.small i j c)/\Builtin.Range.rangeSize i j c=n
theorem v3.neg{i j:Int}(N: .yo<=i)(g:i<2^62)(S: .yo<=j)(d:j<2^62):v3 i j (-1) (.uy i j):=⟨.fw,PySem.W.small_down N g S d,PySem.W.rangeSize_downNat i j⟩
def Oz(ta:TA):TI:=.HH σ H (∃(i j c:Int) (n:Nat),vs=[.aL,.pY,.int c]/\v3 i j c n/\R (rZ i c n) H1)
section
variable{X:Cx}{tg:Expr}
theorem Ui{a b c:Expr}{ta:TA}{p pos:Pos}(y:Gl X "range")(hm:X.mg "range"=none)(N: .cm [a,b,c] ta)
  (L: .b1 [a,b,c]= .da (.a,.Y a) [b,c]:=by rfl)(G: .w9 [b,c]= .a:=by rfl):
  PI X tg (.hO "range" p [a,b,c] [] pos) (Oz ta):=by
 rw[169,I,y,hm,boot_range,.kf s I h λus U ⟨vs,H1,M,r1,q1⟩=> ?_,L,G]
 obtain⟨i,j,k,n,e,⟨z,S,V,c3⟩,q⟩:=q1
 subst e
 cases r1 with
 |cons r B=>
  cases B with
  |cons r' B=>
   cases B with
   |cons d B=>
    cases B
    obtain⟨t,rfl⟩:=r
    obtain⟨t',rfl⟩:=r'
    obtain⟨g,rfl⟩:=d
    rw[0,call_range_3 z ?_ (.inl (LB S)),wpAny_pyIter_range (IsRange.new ..) V ?_]
    rw[219,.Bq H1 (.jg U "range" (.w8 (.hX i) (.int j t') (.int k g))),.ur M U.toks,.CX U W _ (YC _ i k n) ?_ q]
    rw[39,i+ .kE*k=i,by simp,.Z- .kE=Builtin.Range.rangeSize i j k,by rw[c3];simp]
    show IsRangeIter _ _ (i+ .kE*k) (.Z- .kE) k
    rw[13,F,D,cW _ rfl]
end
theorem NT{lo c:Int}{n:Nat}{g:TG}{tb:TS}{D:Ends}{σ:St}{H:Hp}(Pv: .pd)(F: .gu 0)
  (L:∀i σ H,i<n-> .g9-> .mw (.int (lo+ .jL*c)) H .dl .dl)(hd:∀σ H,.gu n-> .ha):
  .tR 0 m σ H (W i m σ H->
   (.iv (rZ lo c n)/\ .ha)∨((rZ lo c n).go i H/\ .tS (N σ' H'->∃M,M<m/\ .tT M H') ((rZ lo c n).iX i H x H'-> .mw x H' N N))):=by
 rw[299,⟨.xv (m=n-i) (i<=n/\ .g9),⟨n,.o0,F⟩,?_⟩,i<n]
 ·refine .inr ⟨j,.dl,.xu ⟨n- .z,.it,j,d⟩ ?_⟩
  obtain⟨e,y⟩:=y
  subst e y
  exact L i σ _ j p
 ·rw[99,i=n,⟨.y,hd σ H p⟩]
def C0(K:ag)(a:Addr)(n:Nat):It:=⟨.HL (i<n/\∃(xs: .s) (x:V),.fh/\xs[n-1-i]? = .aa) (H'=H/\∀xs,.fh->xs[n-1-i]? = .aa),λi _=>n<=i⟩
theorem YD{P:Program}{w:World}{K:ag}{tg:Expr}(a L:Addr)(n:Nat): .ol P w K tg (C0 K a n) [L] L (i<=n/\h.IsRevIter L a (.Z-1- .jL)) where
 mem:=by simp
 obj:=λi h st b S=>by
  rw[152,b=L]
  obtain⟨_,o,e,c,d⟩:=st
  exact⟨o,e,.y2 d⟩
 keep:=λi h h' st k=>⟨st.1,st.2.at λo e=>.kg L o e⟩
 item:=by
  intro X hP U hK B i pins s σ H E I N st y
  subst hP U hK
  obtain⟨R,xs,x,j,W⟩:=y
  obtain⟨g,rv,p,hz⟩:=.gi j
  rw[342,rv.get W,L]
  obtain⟨_,hit⟩:=st
  have F: .Z-1-(.m i)=(.gE (n-1) i):=by omega
  rw[F]at hit
  refine wpAny_pyNext_rev_item hit .u3 (x:=u) (by simpa using hu) .HK
  have D:(.gE (n-1) i)-1= .Z-1-(.lr i):=by omega
  rw[D]at M
  have I1: .mv:=.kF (.dA sb b S e) q V G
  rw[341,id M,⟨u,Y,.HI .dX e c d ⟨x,H,I1,ru,⟨Y,.HJ (I.GB hy j) W⟩,⟨R,M⟩,.uW b S⟩⟩]
 done:=by
  intro X hP U hK B i pins s σ H E I N st y
  subst hP U hK
  rw[151,L]
  obtain⟨R,hit⟩:=st
  have hge:n<=i:=y
  have F: .Z-1-(.m i)= -1:=by omega
  rw[F]at hit
  exact wpAny_pyNext_rev_end .c7 hit λh' eb=>⟨Y,.kF (eb b o S e) q V G⟩
 self:=λA i s Q E st h=>Ko st.2 h
def Ox(K:ag)(ta:TA):TI:=.HH σ H (∃(a:Addr) (xs: .s),vs= .cW/\ay K H1 a xs/\R (C0 K a .r) H1)
section
variable{X:Cx}{tg:Expr}
theorem Uj{e:Expr}{ta:TA}{p pos:Pos}(y:Gl X "reversed")(j:X.mg "reversed"=none)(N: .cm [e] ta)(L: .bt e=[(.a,.dC)]:=by rfl):PI X tg (.BB p [e] [] pos) (Ox X.K ta):=by
 rw[169,I,y,j,Mz,.kf s I h λus U ⟨vs,H1,n,M,G⟩=> ?_,L,Y];obtain⟨a,xs,e,z,q⟩:=G;subst e
 cases M with
 |cons r B=>
  cases B;cases r;obtain⟨g,D,d,hz⟩:=n.list z;have S:=.kj;have F:(.m .eY)-1= .zU .r- .kE:=by simp only[cj];omega
  rw[0,call_reversed_list d.isList (Ko (l:=a) (i:=(.m .eY)-1) ⟨.ma⟩ ?_),.CX U n _ (YD a _ .r) ⟨.ab,?_⟩ q];rw[32,F,⟨.ma⟩]
end
def CZ(x:Str):It:=⟨λi _=>i< .oq,λi H v H'=>H'=H/\∃c,.xE x= .ae/\v= .jV,λi _=>.oq<=i⟩
theorem J2{P:Program}{w:World}{K:ag}{tg:Expr}(L:Addr)(x:Str)(t:Tok)(ty:String)(j:ty="str_ascii_iterator"∨ty="str_iterator"):
  .ol P w K tg (CZ x) [L] L (h.IsStrIter L ty x t i) where
 mem:=by simp
 obj:=λi h st b S=>by
  rw[152,b=L]
  obtain⟨o,e,c,d⟩:=st
  exact⟨o,e,.y2 d⟩
 keep:=λi h h' st k=>let ⟨o,ho,r⟩:=st;⟨o,k L (by simp) o ho,r⟩
 item:=by
  rw[143]
  obtain⟨q,f1,f2,f3,V,f5⟩:=.Gj L
  have W:Walks .a6 X.w X.A L [L] [L] .oq (SignAt x) (λi h=>h.IsStrIter L ty x t i):=by
   rcases j with e|e
   ·rw[55,Walks.strAscii .c7 L x t]
   ·rw[55,Walks.strWide .c7 L x t]
  have hno:["enumerate","zip","dict_itemiterator","dict_reverseitemiterator","odict_iterator","itertools.zip_longest","itertools.pairwise"].contains ty= .a:=by
   rcases j with e|e
   ·rw[e];decide
   ·rw[e];decide
  refine W.item i s _ _ y st λv h' tk D M kk=> ?_
  obtain⟨c,u,R,rfl⟩:=D
  have n: .uX tk:=.Cq I (kk b o (by simpa using S) e) q f1 f3 V f5
  obtain⟨oi,e,cc,G⟩:=id M
  exact⟨_,Y,oI (s:=.qT) e cc G hno ⟨.jV,H,n,⟨u,Y⟩,⟨Y,c,R,Y⟩,M,.uW b S⟩⟩
 done:=by
  rw[143]
  obtain⟨q,f1,f2,f3,V,f5⟩:=.Gj L
  have hx: .xE x=none:=KA y
  rcases j with e|e
  ·rw[240,e,wpAny_pyNext_ascii_end .c7 st hx λh' g=>⟨Y,.kF (g b o S e) q V f5⟩]
  ·rw[240,e,wpAny_pyNext_wide_end .c7 st hx λh' g=>⟨Y,.kF (g b o S e) q V f5⟩]
 self:=λA i s Q E st h=>by
  rcases j with e|e
  ·rw[240,e,wpAny_pyIter_striter_ascii st h]
  ·rw[240,e,wpAny_pyIter_striter_wide st h]
def OA(te:TE):TI:=fun σ H R=>te σ H λv H1=>∃x,v= .iD/\R (CZ x) H1
theorem Uk{X:Cx}{tg e:Expr}{te:TE}(g: .eB):PI X tg e (OA te):=by
 rw[188,.mm s H _ I h λv U ⟨y,H1,n,i,x,ex,q⟩=> ?_];subst ex;obtain⟨t,rfl⟩:=i;cases N:x.cps.all (·<128)
 ·exact wpAny_pyIter_wide N (.CX U n _ (J2 _ x t "str_iterator" (.inr Y)) ⟨.ma⟩ q)
 ·exact wpAny_pyIter_ascii N (.CX U n _ (J2 _ x t "str_ascii_iterator" .ao) ⟨.ma⟩ q)
theorem MA: .jB "zip" (.fI "zip"):=by decide+kernel
theorem Ka:∀l: .hI Tok,Vals (.vR (.cC l)) .HG
 |[]=>.nil
 |p::r=>.cons ⟨p.2,Y⟩ (Ka r)
theorem BV:∀{ys: .H} {us: .q},.ne .rE->StrsAre us ys
 |[],_,.nil=>.nil
 |y::ys,_,.cons r t=>by
  obtain⟨k,rfl⟩:=r
  exact .cons y k (BV t)
def Bt(ys: .H):Hp-> .ap VK:=λH Q=>∀p,H p=none-> .lb p H p .rE
section
variable{X:Cx}{pins: .D}{σ:St}{H:Hp}{s:Shared}{Q:VK}
theorem AE{l: .hI Tok}{ys: .H}{k:Nat}(I: .k)(e: .cC l=ys)(hz: .aT ys)(h:Bt ys H Q):
  .iR .e4 {s with toks:=k,heap:=.zu s (.gx .HG)}:=by
 have hp:=.hc
 rw[117,⟨.e4,.bZ H .u .rE,I.laid (.CW q) .y ⟨.os bh,.HG,_,?_,.ee⟩,Y,h _ hp⟩,e,Ka l]
end
section
variable{X:Cx}
theorem QR:i5 X "str.split" (.CS (x= .gS/\xs=(.cX b)/\(b.length==0)= .a/\ .cZ+2<= .W/\Bt (.uU b) H Q)):=by
 intro pins s σ H x xs v us Q I M rs h;obtain⟨a,b,rfl,rfl,S,hz,h⟩:=h;obtain⟨t,rfl⟩:=M
 cases rs with
 |cons i rs=>
  cases rs;obtain⟨u,rfl⟩:=i;have R: .aT (.uU b):=cn (PyProof.Rows.split_le a b) hz;have G: .aT (Builtin.Str.partsBetween a (.Gz a b .cZ (.aG a)) b.length):=by have d:=StrLaws.occ_length_le a b 0 .cZ (.aG a);rw[length_partsBetween];omega
  cases h1:(decide (a.length<b.length)||decide (Builtin.Str.strKind a<Builtin.Str.strKind b))
  ·cases N:(Builtin.Str.occurrences a b 0 a.length (a.length+1)).isEmpty
   ·rw[227,kl yK (nq _ _ _) CA (Cy _ _) (meets_str_split_sep a b t u h1 S N (by omega) G) ?_,.iR .e4 {s with toks:=_,heap:=.zu s (.gx (strsFrom .ag (Builtin.Str.partsBetween a (.Gz a b .cZ (.aG a)) b.length)))},strsFrom_eq,AE (ys:=.uU b) I (.uV (numbered_texts _ _) ((aa (GU h1)).trans (aa (GU N)))) R h]
   ·rw[2,kl yK (nq _ _ _) CA (Cy _ _) (meets_str_split_not_found a b t u h1 S N) ?_,AE (l:=[(a,t)]) (ys:=.uU b) (k:=.ag) I ((aa (GU h1)).trans (af N)).symm R h]
  ·rw[2,kl yK (nq _ _ _) CA (Cy _ _) (meets_str_split_cannot_occur a b t u h1) ?_,AE (l:=[(a,t)]) (ys:=.uU b) (k:=.ag) I (af h1).symm R h]
theorem QQ:i5 X "str.join" (λx xs H Q=>∃a p,∃ys: .H,x= .gS/\xs= .iL/\(.ob H p .rE∨aM X.K H p .rE)/\
  (.rc ys (·.length))+ .tY* .cZ<=16777216/\ .gw (.Fc a) H):=by
 intro pins s σ H x xs v us Q I M rs h
 obtain⟨a,p,ys,rfl,rfl,hp,hz,h⟩:=h
 obtain⟨t,rfl⟩:=M
 cases rs with
 |cons i rs=>
  cases rs
  cases i
  rcases hp with hp|hp
  ·obtain⟨g,r,⟨o,n,d,B,_,hd⟩,_⟩:=.gi hp
   exact PyProof.Rows.join_list (items:=.aO) ⟨o,d,B,n,hd⟩ (by rw[Lm];exact BV r) hz λt' k=>⟨.str _,.eb k,⟨t',Y⟩,h⟩
  ·obtain⟨g,r,j,_⟩:=.cl hp
   exact PyProof.Rows.join_tuple (items:=.aO) j (by rw[Lm];exact BV r) hz λt' k=>⟨.str _,.eb k,⟨t',Y⟩,h⟩
theorem QM{id:String}{C: .ap Str}{g: .ju V}(rule:∀(a:Str) (t:Tok) (s:Shared) (Q: .E),C a->(∀(u:Value) (k:Nat),.fB (g a)->Q u .Ct)->
  .dR (.oJ id [.str a t]) Q):i5 X id (λx xs H Q=>∃a,x= .gS/\xs=[]/\C a/\Q (g a) H):=by
 intro pins s σ H x xs v us Q I M rs h
 obtain⟨a,rfl,rfl,B,h⟩:=h
 obtain⟨t,rfl⟩:=M
 cases rs
 exact rule a t s _ B λu k r=>⟨g a,.eb k,r,h⟩
theorem AM:i5 X "str.isdigit" (λx xs H Q=>∃a,x= .gS/\xs=[]/\True/\ .cx (Txt.isdigit a)):=QM (C:=λ_=>True) (g:=λa=>.bl (Txt.isdigit a)) λ_ _ s _ _ h=>PySem.SC.isdigit (h _ .ag Y)
theorem QN{id:String}{g: .ju (.ju V)}(rule:∀(a b:Str) (t u:Tok) (s:Shared) (Q: .E),(∀(v:Value) (k:Nat),RelV (g a b) v->Q v .Ct)->
  .dR (.oJ id [.str a t,.str b u]) Q):i5 X id (.CS (x= .gS/\xs=(.cX b)/\Q (g a b) H)):=by
 intro pins s σ H x xs v us Q I M rs h
 obtain⟨a,b,rfl,rfl,h⟩:=h
 obtain⟨t,rfl⟩:=M
 cases rs with
 |cons i rs=>
  cases rs
  obtain⟨u,rfl⟩:=i
  exact rule a b t u s _ λv k r=>⟨g a b,.eb k,r,h⟩
theorem GR:i5 X "str.startswith" (.CS (x= .gS/\xs=(.cX b)/\ .cx (Txt.startswith a b))):=QN (g:=λa b=>.bl (Txt.startswith a b)) λ_ _ _ _ s _ h=>PySem.SC.startswith (h _ .ag Y)
theorem tj: .sE X (.type "int") (∃a n,xs=(.cX a)/\ .Fu a .jZ/\ .cZ<=640/\ .dr n):=by
 intro pins s σ H xs us Q I rs h;obtain⟨a,n,rfl,G,R,h⟩:=h
 cases rs with
 |cons i rs=>cases rs;obtain⟨t,rfl⟩:=i;exact PySem.W.KIN.call_text G R ⟨.br,.eb _,⟨_,Y⟩,h⟩
end
section
variable{X:Cx}{o e:Expr}{to te:TE}
def X6(r:V-> .e5)(to:TE):TE:=.CV σ H ((∃a,x= .gS)/\r x [] H1 Q)
def BX(r:V-> .e5)(to te:TE):TE:=.CV σ H ((∃a,x= .gS)/\te σ H1 λy H2=>r x [y] H2 Q)
theorem Bj{id:String}{name:Str}{apos pos:Pos}{r:V-> .e5}(slot:Slot "str" name id)(ty: .CU id= .CT)(rule:i5 X id r)(d: .ov o)
  (z: .md o name o= .Y o:=by rfl)(q: .r8 .hd:=by rfl): .ka o name [] (X6 r to):=by
 rw[34,PySem.Call_method0 z q (.pD (d pins s σ H _ I h) ?_)]
 obtain⟨⟨a,rfl⟩,R⟩:=R
 obtain⟨t,rfl⟩:=_root_.id i
 exact⟨"str",_,CC,slot,ty,nq _ _ _,.y7,rH Y (LP (rule pins U σ H1 _ [] _ [] Q n i .nil R))⟩
theorem xB{id:String}{name:Str}{apos pos:Pos}{r:V-> .e5}(slot:Slot "str" name id)(ty: .CU id= .CT)(rule:i5 X id r)(d: .ov o)(g: .eB)
  (L: .bt e=[(.a,.dC)]:=by rfl)(z: .md o name o= .Y o:=by rfl)(q: .r8 .hd:=by rfl):
  .ka o name [e] (BX r to te):=by
 rw[34,PySem.Call_method1 z L q (.pD (d pins s σ H _ I h) ?_)]
 obtain⟨⟨a,rfl⟩,R⟩:=R
 obtain⟨t,rfl⟩:=_root_.id i
 rw[2,⟨"str",_,CC,slot,ty,nq _ _ _,.y7,rH Y (yC (vi ?_))⟩,.mm U H1 _ n R λu B ⟨y,H2,W,D,j⟩=>yD (rule pins B σ H2 _ [y] _ [u] Q W i (.dE D) j)]
theorem xC{apos pos:Pos}(d: .ov o)(g: .eB)(L: .bt e=[(.a,.dC)]:=by rfl)(z: .md o "split" o= .Y o:=by rfl)(q: .r8 .hd:=by rfl): .ka o "split" [e] (BX (.CS (x= .gS/\xs=(.cX b)/\(b.length==0)= .a/\ .cZ+2<= .W/\Bt (.uU b) H Q)) to te):=xB yK F.type_str_split QR d g L z q
theorem Bh{apos pos:Pos}(d: .ov o)(g: .eB)(L: .bt e=[(.a,.dC)]:=by rfl)(z: .md o "join" o= .Y o:=by rfl)(q: .r8 .hd:=by rfl): .ka o "join" [e] (BX (λx xs H Q=>∃a p,∃ys: .H,x= .gS/\xs= .iL/\(.ob H p .rE∨aM X.K H p .rE)/\(.rc ys (·.length))+ .tY* .cZ<=16777216/\ .gw (.Fc a) H) to te):=xB F.slot_str_join F.type_str_join QQ d g L z q
end
theorem IsPart.raw{v:Value}{o: .aI}(p:IsPart v o):∃l: .mh Int Tok,v=partValue l/\ .cC l=o:=by
 cases p with
 |none=>exact⟨none,Y,Y⟩
 |int i t=>exact⟨.ar i t,Y,Y⟩
def tr(n d:Nat): .aI->Int
 |none=>.ay
 |some i=>max 0 (min (.db i (i+ .Z) i) .Z)
theorem EE(n d:Nat)(o: .aI):tr n d o=(.m (HT.aT n d o)):=by
 cases o with
 |none=>rfl
 |some v=>
  show max (0:Int) (min (.db v (v+ .Z) v) .Z)=(.m (.yn v v .Z v n));by_cases D:v<0
  ·simp only[af D];omega
  ·simp only[aa D];omega
theorem VH(a b: .aI)(n:Nat): .rD a b n=sliceRange (tr n 0 a) (tr n n b) 1:=by
 have h1:((1:Int)>0)=True:=by simp
 cases a<;>cases b<;>first
  |rfl
  |(simp only[Builtin.Str.strSliceIndices,tr,h1,jd];rfl)
  |simp[Builtin.Str.strSliceIndices,tr]
theorem VG(a b: .aI)(n:Nat): .rD a b n=(List.range (HT.aT n n b-HT.aT n 0 a)).map (λk=>HT.aT n 0 a+k):=by
 rw[VH,EE,EE];generalize HT.aT n 0 a=p;generalize HT.aT n n b=q;simp only[sliceRange,show((1:Int)>0)=True from by simp,jd];by_cases j:(p:Int)<q
 ·have d:(((q:Int)-p+1-1)/1).toNat=q-p:=by first|omega|(simp;done)|(simp;omega)
  simp only[j,jd,d];refine C8 λk _=> ?_;omega
 ·rw[204,q-p=0]
  simp[j,this]
def nY(z:Str)(lo hi: .aI):Str:=.qi ((z.cps.toList.drop .hC).take (.mu- .hC))
theorem Jn(z:Str)(lo hi: .aI): .CR lo hi=nY z lo hi:=by
 rw[79,.hC<= .c0,HT.BB _ _ .ab _,.mu<= .c0,HT.BB _ _ .y _];have hp: .hC<= .ym .mu:=Nat.le_max_left _ _;have j: .ym .mu<= .c0:=Nat.max_le.mpr ⟨.cc⟩;have hd: .ym .mu- .hC= .mu- .hC:=by omega
 have e: .rD lo hi .c0=
   .rD (.qf .hC) (.qf (.ym .mu)) .c0:=by
  rw[PySem.StrLaws.strSliceIndices_plain hp j,hd,VG]
 have D: .CR lo hi=
   .CR (.qf .hC) (.qf (.ym .mu)):=by
  unfold PySem.StrLaws.sliceText
  rw[e]
 rw[D,PySem.StrLaws.sliceText_nat z hp j,hd];rfl
theorem M0(z:Str)(lo hi: .aI): .K (nY z lo hi) .c0:=by show(.HF (z.cps.toList.drop .hC) (.mu- .hC)).size<=z.cps.size;rw[cj,eX,kU,rE];omega
def U8:V-> .aI-> .qR:=λx lo hi H Q=>∃z,x= .str z/\ .aT z/\ .gw (nY z lo hi) H
theorem Jk{X:Cx}:sH X U8:=by
 intro pins s σ H x v j N lo hi i Q I M L pl y h;obtain⟨z,rfl,hz,q⟩:=h;obtain⟨t,rfl⟩:=M;obtain⟨os,d,G,B⟩:=L;obtain⟨l,rfl,rfl⟩:=IsPart.raw pl;obtain⟨u,rfl,rfl⟩:=IsPart.raw y;rw[0,⟨"str",_,F.slot_str_getitem.lookup,nq _ _ _,?_⟩,wpAny_getItem_str_slice (l:=l) (u:=u) (st:=none) ⟨os,d,G,B⟩ Y ?_];have R: .aT (.CR (.cC l) (.cC u)):=by rw[Jn];exact cn (M0 z _ _) hz
 rw[<-Jn]at q;unfold PySem.StrLaws.sliceText at q R;show Made.post (.aq (.tP&&(.rD (.cC l) (.cC u) .c0).length== .c0) (Made.val (.str z t)) (Made.str (.qi ((.rD (.cC l) (.cC u) .c0).filterMap (z.cps[·]?))))) (EP X pins σ Q) s;by_cases c: .c (.tP&&(.rD (.cC l) (.cC u) .c0).length== .c0)
 ·rw[af c]at q⊢;exact⟨.str z,H,I,⟨t,Y⟩,q⟩
 ·rw[aa c]at q R⊢;exact⟨R,.str _,.eb _,⟨_,Y⟩,q⟩
def inClass(s:Stmt)(j:Nat):Stmt:=match s with
 | .ClassDef _ _ _ body _ _ _ _ _ _ _=>body.getD j .HE
 |_=>.HE
def ja(s:Stmt):Arguments:=match s with
 | .FunctionDef _ a _ _ _ _ _ _ _ _=>a
 |_=>{posonlyargs:=[],args:=[],vararg:=none,kwonlyargs:=[],kw_defaults:=[],kwarg:=none,defaults:=[]}
def hI(s:Stmt): .e2:=match s with
 | .FunctionDef _ _ b _ _ _ _ _ _ _=>b
 |_=>[]
def d4(s:Stmt):Scope:=match s with
 | .FunctionDef _ _ _ _ _ _ z _ _ _=>z
 |_=>{kind:=.function,names:=[],isGenerator:=.a,isCoroutine:=.a}
structure fj(K:ag)(x qual:Str)(st:Stmt)(f:Addr)(fd:FuncData):Prop where
 ex:∃(oc:Value) (od: .aU) (kV doc pm:Value) (an: .aU) (cdv ct:Value) (osl: .u2),
  fd= .fk x qual (ja st) (hI st) .fu .none doc pm an cdv ct/\ .O K f ⟨oc,od,.func fd,osl⟩/\ .Cp K cdv qual
 kp: .me K
section
variable{P:Program}{w:World}{K:ag}{mg: .d}{base:Heap}
theorem fj.binds{x g:Str}{st:Stmt}{f:Addr}{fd:FuncData}{ps: .H}(F:fj K x g st f fd)
  (h: .qM (.a8= .aV->bindArgs (.fk x g (ja st) (hI st) .fu .none z pm q G ct) ⟨.fg⟩= .o9)):Binds K fd ps []:=by
 rw[312,.all (h kV z pm q G ct)]
theorem NZ{x g:Str}{st:Stmt}{f:Addr}{oc:Value}{U q: .aU}{i: .u2}{kV z pm G ct:Value}(l: .O K f ⟨oc,U,.func (.fk x g (ja st) (hI st) .fu .none z pm q G ct),i⟩) (c: .Cp K G g)(k: .me K):fj K x g st f (.fk x g (ja st) (hI st) .fu .none z pm q G ct):=⟨⟨oc,U,kV,z,pm,q,G,ct,i,Y,l,c⟩,k⟩
end
section
variable{X:Cx}
theorem pv(i:Nat){x:Str}{pos:Pos}(d: .hj= .aa:=by rfl)(D:sM .l9 x:=by first|exact Or.inl Y|exact Or.inr (Or.inl Y)|exact Or.inr (Or.inr Y))(hd: .bu= .a:=by decide) (W:(x==("__classdict__":Str))= .a:=by decide): .A .pf (x9 i):=Ud d D hd W
end
theorem aj{A B:Prop}(h:B): .aq .a A B:=by rw[aa d7];exact h
theorem aR{A B:Prop}(h:A): .aq true A B:=by rw[.M];exact h
theorem cE{c A B:Prop}[Decidable c](h1:c->A)(h2:¬c->B):if c then A else B:=by
 by_cases h:c
 ·rw[1,af h,h1 h]
 ·rw[1,.dP,h2 h]
theorem Nn{M:Model}{A:Around}{E: .E}{s:Shared}{base:Heap}{env:Env}{outer: .d6}{L e:Addr}{r:Obj}{vs: .bf}{head:Value}{c:Bool}{Q: .ge}
  (n: .oD=some (env:: .a0))(R: .ve base (env:: .a0))(D:env.frame=some L)
  (g: .hK e r)(hd: .kT= .fy)(hsz:1< .s1)
  (h:∀h' T t ts,.u<=T->(.ot b e (b∉hU (env:: .a0)-> .ch-> .aM= .l))->
   (.ot b e (.ch->∃i,.aM= .Dv i))->
   .r3 e (r.mapFields (·.setIfInBounds 1 (.ref T)))-> .r3 T t->t.data= .Jn->ts[3]? =some .vI->Q () .dX):
  .ht (do let a<-frameOf env;let pl<-entryPlaceOf L c;let b<-EntryCells.newEntry head a .none (rawInt L) .none pl;setField (.ref e) 1 b) s:=by
 have m:e∉(env:: .a0).filterMap (·.frame):=λj=>by
  obtain⟨_,o,d,x⟩:=R.mem j
  rw[g]at d;injection d with d;subst d;exact x vs hd
 rw[67,wpAny_frameOf_fun n R D λq k=> ?_,wpAny_entryPlaceOf λpl l=> ?_]
 unfold EntryCells.newEntry newFields
 rw[26,pH ?_ (l.sizeOk5 _ _ _ _ _)]
 have p:q.get? e= .bL:=(k.2.1 e m).trans g
 have u:=bA (h:=q) (.Jp .Jr none (.yE [head,.m9,.none,.vI,.none] (.Jq pl.isEmpty 6 .fq pl))) p
 have y:q.objs.size≠e:=eO (bM p)
 have v:=nM hd (·.setIfInBounds 1 (Value.ref q.objs.size))
 have z:=nG .Jo u (zA v)
 have B:=(jz (q.push (.Jp .Jr none (.yE [head,.m9,.none,.vI,.none] (.Jq pl.isEmpty 6 .fq pl)))) .Jo (eQ y)).trans (cW q Y)
 have keep: .ot b e (q.get? b= .l->
   .iC (.Jg q (.Jp .Jr none (.yE [head,.m9,.none,.vI,.none] (.Jq pl.isEmpty 6 .fq pl))) e .Jo)= .l):=
  λb o F S=>by
   rw[147,_,_,eQ F,.co S]
 refine vd u hd hsz (h _ q.objs.size _ _ (.El k.1) (λb o F C S=>keep b o F ((k.2.1 b C).trans S)) (λb o F S=> ?_) z B Y ?_)
 ·obtain⟨i,G⟩:=k.2.2 b o S
  exact⟨i,keep b _ F G⟩
 ·first|(simp;done)|(rcases l with rfl|⟨_,_,_,_,_,_,_,rfl⟩<;>simp)
def lJ(ok: .z6)(L:Addr)(ea:Addr)(cls:Value)(dx: .aU)(h:Heap):Prop:=∃r vs,.el ea r/\r.cls=cls/\r.dict=dx/\ .kT= .fy/\1< .s1/\ok ea/\(.mD= .s0∨∃T t ts c,.mD= .I T/\T≠ea/\ .el T t/\t.data= .Jn/\ts[3]? = .ae/\(c= .none∨c= .vI)/\ok T)
def jD(ok: .z6)(c:Value)(ea:Addr)(cls:Value)(dx: .aU)(h:Heap):Prop:=∃r vs T t ts,.el ea r/\r.cls=cls/\r.dict=dx/\ .kT= .fy/\ .mD= .I T/\T≠ea/\ .el T t/\t.data= .Jn/\ts[3]? = .ae/\ok ea/\ok T
theorem jD.NO{ok: .z6}{L ea:Addr}{cls c:Value}{dx: .aU}{h:Heap}(N:jD ok c ea cls dx h)(a:c= .none∨c= .vI):lJ ok L ea cls dx h:=by obtain⟨r,vs,T,t,ts,h1,h2,h3,h4,h5,j,m,R,F,B,e⟩:=N;exact⟨r,vs,.sm,(yp.mp h5).1,B,.inr ⟨T,t,ts,c,h5,j,m,R,F,a,e⟩⟩
theorem jD.mono{ok d: .z6}{c:Value}{ea:Addr}{cls:Value}{dx: .aU}{h:Heap}(N:jD ok c ea cls dx h)(k: .oV (ok b->d b)):jD d c ea cls dx h:=by obtain⟨r,vs,T,t,ts,h1,h2,h3,h4,h5,j,m,R,F,B,e⟩:=N;exact⟨r,vs,T,t,ts,.p2,j,m,R,F,k _ _ h1 B,k _ _ m e⟩
theorem GL(o:Obj)(f: .bf-> .bf):(o.mapFields f).dict=o.dict:=by unfold Obj.mapFields;cases o with|mk c d I i=>cases I<;>rfl
section
variable{X:Cx}{pins: .D}{σ:St}{H:Hp}{s:Shared}{ea:Addr}{cls:Value}{dx: .aU}{A:Around}{E: .E}
theorem Inv.G4{h':Heap}{ch: .g}(I: .k)(V: .D0 X H b)(keep: .rH b (b∉hU .bv-> .ch-> .aM= .l))
  (slot: .rH b (.ch->∃i,.aM= .Dv i)): .mv:=by
 rw[112,∀b u,H b= .V->b∉ch,(λb u e z=>by rw[(V b z).1]at e;cases e),I.z4 (s':=.dX) (ch:=ch) Y ⟨λb o q n S g=>keep b o g S q,λb o q n S g=>slot b o g q,λ_ _ _ n _=>n,λb o q g=> ?_,.mo,λ_ _ _ q=>q,λb ps q=>⟨.D1 q⟩⟩ .CY .rF (λb S=>⟨.uY (V b S),(V b S).2.1,.yq (V b S),(.kW (V b S)).2⟩)]
 ·obtain⟨i,t⟩:=slot b o g q
  exact⟨_,t⟩
 ·rw[361,.mp u e,λc v B q=> ?_,.ux,.mo]
  ·exact keep c v (j _ _ e) (λz=>by rw[I.xX c z]at e;cases e) q
  ·exact keep c v (j _ _ B) (λz=>by rw[I.xX c z]at B;cases B) q
theorem G3{M:Model}{Q: .ge}(I: .k)(L: .bv= .S:: .eI)(hf: .vp= .vo)(i: .oD=some .bv)
  (F:lJ (dG X pins H) .bH ea cls dx .G)
  (k:∀h',.mv-> .z5 X H .z8 ea dx h'->Q () .dX):
  .ht (noteFrame .z7 .S) s:=by
 obtain⟨r,vs,h1,h2,h3,h4,h5,j,m⟩:=F
 rw[311,.ve .ca (.S:: .eI),L,I.stack]
 have n: .oD=some (.S:: .eI):=by rw[i,L]
 have fin:∀(d:Heap) (ch: .g) (hd:Value) (G:Bool),(.D0 X H b)->(∀b∈ch,∃o ws,.ch/\ .gZ= .fields ws)->ea∈ch-> .Bu d .u->
   (.rH b (.ch->d.get? b= .l))->d.get? ea= .bL->
   .ht (do let a<-frameOf X.env;let pl<-entryPlaceOf X.env.locals G;let b<-EntryCells.newEntry hd a .none (rawInt X.env.locals) .none pl;setField (.ref ea) 1 b) {s with heap:=d}:=by
  intro d ch hd G V hcf h hsz kp p
  have u:d.FunFrames .ca (.S:: .eI):=R.of_keeps λb o S x=>by
   by_cases hbc:b∈ch
   ·obtain⟨o',ws,e1,D⟩:=hcf b hbc
    rw[212,e1]
    rw[5,D,x ws]
   ·exact⟨o,kp b o hbc S,Y⟩
  refine Nn (s:={s with heap:=d}) n u hf p h4 h5 λh' T t ts hT k1 k2 k3 B g v=> ?_
  have hT': .u<=T:=by rw[<-hsz];exact hT
  have y:T≠ea:=.pT (bM h1) (.HU (sk.mpr hT'))
  rw[2,k h' (I.G4 (ch:=ch) V (λb o S C q=>k1 b o (λz=>S (.tq h)) (by rw[<-L];exact C) (kp b o S q)) λb o S q=>k2 b o (λz=>S (.tq h)) (kp b o S q)) ?_,⟨_,_,T,t,ts,k3,(Dv _ _).trans h2,(GL _ _).trans h3,nM h4 _,by simp[h5],y,B,g,v,j,I.iO hT' (.rG hT')⟩]
 unfold noteFrame
 simp only[hf]
 rcases m with m|⟨T,t,ts,c,g1,g2,g3,U,g5,l,W⟩
 ·rw[15,ak (fP h1 h4 m ?_),.n,fin .G [ea] _ _ (λb S=>by rw[cX.mp S];exact j) (λb S=>by rw[cX.mp S];exact⟨r,vs,h1,h4⟩) (cX.mpr Y) Y (λb o _ q=>q) h1]
 ·rw[58,ak (fP h1 h4 g1 ?_),af (show .c (Value.ref T != .fq)from by simp),ak (fP g3 U g5 ?_)]
  rw[17,c,.z8]
  ·subst e
   rw[1,af (show .eh .z8 .z8 from by first|(simp;done)|exact Ef _),aZ (k .G I ⟨r,vs,T,t,ts,.sm,g1,g2,g3,U,g5,j,W⟩)]
  ·have G:c= .none:=l.resolve_right e
   subst G
   rw[aa (show¬(.eh .fq .z8)from by simp[rawInt])]
   rw[0,ak (vd g3 U (yp.mp g5).1 ?_),fin _ [ea,T] _ _ .fe .fe bX (Heap.size_after_update ..) (λb o S q=> ?_) ?_]
   ·rcases bu.mp S with rfl|S
    ·exact j
    ·rw[1,cX.mp S,W]
   ·rcases bu.mp S with rfl|S
    ·exact⟨r,vs,h1,h4⟩
    ·rw[1,cX.mp S,⟨t,ts,g3,U⟩]
   ·rw[147,_,_,λz=>.Jm z,q]
   ·rw[147,_,_,g2,h1]
theorem xN{M:Model}{Q: .ge}{c:Value}(fr: .aU)(I: .k)(N: .z5 X H c ea dx .G)
  (k:∀h',.mv-> .z5 X H (fr.elim .fq λf=>rawInt f) ea dx h'->Q () .dX):
  .ht (setFlight .z7 fr) s:=by
 obtain⟨r,vs,T,t,ts,h1,h2,h3,h4,h5,j,m,R,F,B,e⟩:=N
 have hsz:3<ts.size:=(yp.mp F).1
 unfold setFlight
 rw[111,ak (fP h1 h4 h5 ?_),af (show .c (Value.ref T != .fq)from by simp),vd m R hsz ?_,k _ (I.G4 (ch:=[T]) (λb S=>by rw[cX.mp S];exact e) (λb o S _ q=> ?_) λb o S q=>⟨o.slots,?_⟩) ?_]
 ·rw[147,_,_,λz=>.Jm z,q]
 ·rw[147,_,_,λz=>.Jm z,q]
 ·exact⟨r,vs,T,_,_,.xq (jz _ _ j),h2,h3,h4,h5,j,nG _ m (zA (nM R _)),nM R _,by simp[hsz],B,e⟩
theorem Qi{M:Model}{Q: .ge}(I: .k)(L: .bv= .S:: .eI)(a: .vp= .vo)(i: .oD=some .bv)
  (F:lJ (dG X pins H) .bH ea cls dx .G)
  (k:∀h',.mv-> .z5 X H .none ea dx h'->Q () .dX):
  .ht (PySem.leaving .S .z7) s:=by
 unfold PySem.leaving
 rw[221,G3 I L a i F λh1 n c=> ?_,.DR n c λh2 W v=>k h2 W v]
end
def ai(P:Program)(w:World):fG:=λouter H s E e s'=>∃ea cls dx H',e= .z7/\s'.os=s.os/\ .tD s'/\Un (hU .a0) [] H H' .G .dN/\ .l3 H' .dN/\jD (λb=>.u<=b/\ .dg=Option.none) .none ea cls dx .dN/\E cls dx H'
def gI(X:Cx)(E:St->XK):Prop:=∀(pins: .D) (σ:St) (H:Hp) (ea:Addr) (cls:Value) (dx: .aU) (s':Shared),.jq s'->lJ (dG X pins H) .bH ea cls dx .dN->E σ cls dx H->X.xe .z7 s'
theorem gI.passes{X:Cx}{E:St->XK}(h:gI X E):Passes .o1 X E:=by rintro pins σ H s e s' I ⟨ea,cls,dx,H',rfl,os,bare,un,aw,N,q⟩;have L: .kH:=I.z4 (ch:=[]) os un aw bare (λb z=>.hW z);rw[2,h pins σ H' ea cls dx s' L ((N.mono λb o S hz=> ?_).NO .ao) q,I.iO hz.1 hz.2]
section
variable{P:Program}{w:World}{K:ag}{mg: .d}{base:Heap}{N: .H}{qual:Str}{scope:Scope}{f:Addr}{cd:Value}{A:Around}{outer: .d6}{s:Shared}{H:Hp}{E:XK}
theorem Kx(n: .oD= .Co):gI (e_ .x P w K mg base N qual scope f cd A .a0 s H E) (λ_=>E):=by intro pins σ H' ea cls dx s' I F q;rw[35,Qi (X:=e_ .x P w K mg base N qual scope f cd A .a0 s H E) I Y rfl .va F λh' L a=> ?_,⟨ea,cls,dx,H',Y,L.os,L.bare,L.base,L.aw,a.mono λb o S hz=> ?_,q⟩,⟨(.uY hz).resolve_left (λz=>.FC (b∈([]: .g))),hz.1⟩]
theorem ef:PassesOwn (model P w) (e_ .x P w K mg base N qual scope f cd A .a0 s H E).A (e_ .x P w K mg base N qual scope f cd A .a0 s H E).env (e_ .x P w K mg base N qual scope f cd A .a0 s H E).xe:=PassesOwn.leaving
end
structure Catch(K:ag)(cls:Value)(C:Addr):Prop where
 exc: .vG C= .d2
 ty: .rR .w= .p3
 sub:∃c,cls= .bQ/\ .zi c .w= .d2
theorem Ey{K:ag}{M:Model}{A:Around}{E: .E}{s:Shared}{j C:Addr}{cls:Value}{r:Obj}{Q: .cq Bool}(X: .j0)(c: .kd cls C)(g: .hK j r)(B:r.cls=cls)(q:Q true s):
  .ht (excMatches (.ref j) .w) s:=by
 obtain⟨z,rfl,b⟩:=c.sub
 have G:∃o W,.qA K C/\ .gZ= .cls W:=by
  have e:=c.exc
  unfold PySem.W.mroIn PySem.W.clsIn at e
  split at e
  ·rename_i d;exact⟨_,_,d,Y⟩
  ·cases e
 obtain⟨o,W,f,h⟩:=G
 have f1: .mF .G (isInstance .w .h2) .a:=(LN X c.ty).andThen (PySem.W.Looks.of_pure tc_notTuple)
 have f2: .mF .G (isExcClass .w) true:=by
  unfold isExcClass
  rw[48,PySem.W.Looks.andThen (a:=true) ?_ (vY X c.exc),.mF .G (do return match (<-loadHead C).data with| .cls _=>true|_=>false) true]
  rw[248,.vF (X _ _ f) ?_,h]
 have f3: .mF .G (typeOf (.ref j)) .fp:=by
  rw[248,.vF g ?_,B]
 unfold excMatches
 rw[0,.mE f1,ak .cE]
 simp only[zd,vE,bind_assoc,pure_bind]
 refine .mE f2
 simp only[Cp,pL,lp,pure_bind]
 rw[0,.mE f3,.mE (vY X b)]
 simp only[jd,pure_bind]
 exact aZ q
def xo(g:Addr)(cls:Value)(G: .aU)(fr:Bool):HO:=.ext λh=>∃r vs,.el g r/\r.cls=cls/\r.dict=G/\ .kT= .fy/\1< .s1/\(.c fr-> .mD= .s0)
theorem Ci{P:Program}{w:World}{H:Hp}{h:Heap}{g:Addr}{cls:Value}{G: .aU}{fr:Bool}{r:Obj}{vs: .bf}(h1: .el g r)(h2:r.cls=cls)(h3:r.dict=G)(h4: .kT= .fy)(h5:1< .s1)(j: .c fr-> .mD= .s0):dk P w H h g (xo g cls G fr):=⟨⟨r,vs,.p2,j⟩,⟨r,h1⟩,λ_ _ ⟨o',c,a,b⟩ k=>⟨o',c,k _ a,b⟩⟩
section
variable{X:Cx}{pins: .D}{σ:St}{H:Hp}{s:Shared}{a:Addr}{o:HO}
theorem Inv.JY(I: .k)(fp: .nj X H a)(hex:X.ex=[])(d:dk .a6 X.w (.es a) .G a o): .cL (.es a) s:=by
 obtain⟨f1,f2,f3,V,G,f⟩:=fp;have V: .hx<=a:=V.resolve_left (by rw[hex];simp);have ne:∀b u,H b= .V->b≠a:=λb u q z=>by rw[z,f1]at q;cases q
 refine⟨.oF I,⟨I.base.keep,I.base.slot,λb u q n W=> ?_,I.base.there,λb xs q=> ?_,λb u xs q=> ?_,λb ps q=> ?_⟩,I.loc,I.cell,?_,.Ds,.Jb ?_,I.len⟩
 ·rw[54,.mQ q V,.oU b u q n W]
 ·have:=I.base.jt b xs q;rw[54,ne _ _ this,this]
 ·have:=I.base.iP b u xs q;rw[54,ne _ _ this,this]
 ·obtain⟨more,this⟩:=I.base.jr b ps q;exact⟨more,.bp (ne _ _ this) this⟩
 ·rw[54,eQ f2,.i0]
 ·rw[54,G x c e,.oN x e]
 ·rw[371,I.pin p hp,⟨l,.bp (f p hp) T,N,A,p5⟩]
 ·by_cases S:b=a
  ·subst S;rw[215,aB];exact d
  ·rw[69,aC S,(.mp u q).jq (λc v _ z=>z) (λc z=>.bp (ne _ _ z) z) λc xs z=>.bp (ne _ _ z) z]
theorem Inv.mark{b:Around}{c:Bool}{xe: .E}(I: .k)(N:b.frames=X.A.frames)(B: .c c->b.handled=none):Inv {X with A:=b,calm:=c,xe:=xe} pins σ H s:=⟨⟨.yz,.hl,.vb,.yy,.mR,I.ok.inj,I.ok.has,I.ok.tf,B,N.trans .va,I.ok.cH,I.ok.wD,I.ok.bs,.v8,I.ok.uG,I.ok.qu,I.ok.hW,I.ok.mz⟩,.wd I,.yS I I I,.kw,I.pin,.yR⟩
theorem Inv.unmark{b:Around}{c:Bool}{xe: .E}(ok:X.Ok)(I:Inv {X with A:=b,calm:=c,xe:=xe} pins σ H s): .k:=⟨ok,.wd I,.yS I I I,.kw,I.pin,.yR⟩
def forget(σ:St):St:=σ.map .rJ
theorem NV{σ:St}{i:Nat}{v:V}:¬ .a1 (forget σ)= .yQ:=by unfold forget;rw[gE];cases σ[i]? <;>simp
theorem Inv.NW{h':Heap}{t':Nat}{M: .d}(I: .k)(G:h'.Ns .bH M)(m: .m7 .bH h'): .ej (forget σ) H (.je t'):=by
 have kp:∀b u,.j8-> .sF b .V-> .aM= .V:=λb u S q=>.dA m b S q;have nl:∀b u,H b= .V-> .j8:=λb u q z=>by rw[z,.i0]at q;cases q
 rw[158,.oS .bH,by obtain⟨_,k,d,_⟩:=.Dw z;exact absurd (bM d) (sk.mpr .mR)]
 have g:∀b u,.Dt= .V-> .j8:=λb u q z=>absurd (bM q) (.tq (sk.mpr .mR));obtain⟨t,es,h,j,_⟩:=G;refine⟨.oF I,⟨λb u q n S W=>kp _ _ (g b u q) (.uw b u q n S W),λb u q n S W=> ?_,I.base.free,λb u q W=> ?_,.Cv I I I⟩,⟨M,⟨t,es,h,j,.q7⟩,λi x v _ D _=>absurd D NV⟩,.Ds,.kw,.Jb ?_,?_⟩
 ·obtain⟨r,e⟩:=I.base.slot b u q n S W;exact⟨r,kp _ _ (g b u q) e⟩
 ·obtain⟨o',e⟩:=I.base.there b u q W;exact⟨o',kp _ _ (g b u q) e⟩
 ·obtain⟨v,k,d,hd⟩:=.j2 x c e;exact⟨v,k,kp _ _ (I.i8 x c e) d,hd⟩
 ·rw[371,I.pin p hp,⟨kp _ _ N l,T,N,A,p5⟩]
 ·rw[361,.mp u q,λc v B z=>kp _ _ ?_ z,λ_ z=>z,λ_ _ z=>z]
  ·exact nl _ _ q
  ·exact nl _ _ B
 ·unfold forget;rw[1,bh,I.len]
end
def Ends.forget(D:Ends):Ends:=⟨fun σ H=>D.nx .Jl H,D.rt,fun σ H=>D.bk .Jl H,fun σ H=>D.ct .Jl H⟩
def Yi(K:ag)(C:Addr)(i:Nat)(tb:(St->XK)->TS)(ts:TS):TS:=λD σ H=>tb (fun σ1 cls G m=>.kd cls C/\∀g,m g=none->ts D.forget (σ1.set i (.I g)) (upd m g (xo g cls G .a))) D σ H
def Yh(K:ag)(C:Addr)(tb:(St->XK)->TS)(ts:TS):TS:=λD σ H=>tb (fun σ1 cls _ m=>.kd cls C/\ts D σ1 m) D σ H
abbrev Cx.gS(X:Cx)(pn: .D)(xe: .E):Cx:={X with pn:=pn,xe:=xe}
abbrev Cx.gB(X:Cx)(A:Around):Cx:={X with A:=A,calm:=.a,xe:=.gP}
theorem lJ.mono{ok d: .z6}{L g:Addr}{cls:Value}{G: .aU}{h:Heap}(F:lJ ok L g cls G h)(k:∀b,ok b->d b):lJ d L g cls G h:=by obtain⟨r,vs,h1,h2,h3,h4,h5,j,m⟩:=F;refine⟨r,vs,.p2,k _ j,m.imp id ?_⟩;rintro⟨T,t,ts,c,g1,g2,g3,U,P,l,W⟩;exact⟨T,t,ts,c,g1,g2,g3,U,P,l,k _ W⟩
section
variable{X:Cx}{pins pins': .D}{σ:St}{H:Hp}{s:Shared}{xe: .E}
theorem Inv.gS(I: .k):Inv (.mG .w0) [] σ H s:=⟨⟨.yz,.hl,.vb,.yy,.mR,I.ok.inj,I.ok.has,I.ok.tf,I.ok.hd,.va,I.ok.cH,I.ok.wD,I.ok.bs,.v8,I.ok.uG,I.ok.qu,I.ok.hW,I.ok.mz⟩,.wd I,.yS I I I,.kw,λp hp=>I.pin p (by simpa using hp),.yR⟩
theorem Inv.pC(ok:X.Ok)(I:Inv (.mG .w0) pins' σ H s): .k:=⟨ok,.wd I,.yS I I I,.kw,λp hp=>I.pin p (.tG gV hp),.yR⟩
theorem SP.pC{D:Ends}{f:Flow}{s':Shared}(ok:X.Ok)(h:SP (.mG .w0) [] D f s'): .rl X D f s':=by
 cases f with
 |next=>rw[148,⟨σ',H',I.pC ok,q⟩]
 |brk=>rw[148,⟨σ',H',I.pC ok,q⟩]
 |cont=>rw[148,⟨σ',H',I.pC ok,q⟩]
 |ret u=>obtain⟨v,σ',H',I,r,q⟩:=h;exact⟨v,σ',H',I.pC ok,r,q⟩
theorem SP.J5{D:Ends}{A:Around}{f:Flow}{s':Shared}(ok:X.Ok)(h: .rl (X.gB A) D f s'): .rl X D f s':=by
 cases f with
 |next=>rw[148,⟨.DU I ok,q⟩]
 |brk=>rw[148,⟨.DU I ok,q⟩]
 |cont=>rw[148,⟨.DU I ok,q⟩]
 |ret u=>obtain⟨v,σ',H',I,r,q⟩:=h;exact⟨v,.DU I ok,r,q⟩
end
section
variable{X:Cx}{body gB: .e2}{b₀:Stmt}{x n:Str}{xp hpos pos:Pos}{i:Nat}{C:Addr}{tb:(St->XK)->TS}{ts:TS}
theorem JZ{h₀:ExceptHandler}{j:List ExceptHandler}{pins: .D}{σ:St}{H:Hp}{s:Shared}{D:Ends}(E:St->XK)(L: .bv= .S:: .eI)(N: .vp= .vo)
  (S: .Jk .E (St->XK) (gI (.mG pn) E-> .zd xe-> .rm (.mG pn) (tb E)))
  (I: .k)(h:tb E D σ H)
  (w:∀(U:Shared) (σ1:St) (m:Hp) (g:Addr) (cls:Value) (G: .aU),.ej σ1 m U-> .z5 X m .none g G U.heap->E σ1 cls G m->
   .go (handleBy .q5 .S (h₀::j)) (.uu X D) U):
  .Cf (.Try body (h₀::j) [] [] pos) .S (.uu X D):=by
 refine wpAny_Try_except (f_ (S .w0 _ E ?_ PassesOwn.looking [] s σ H D I.gS h) .IB λe U q=>q)
 ·intro pins' σ1 m g cls G U c F P
  have l: .ej σ1 m U:=c.pC I.ok
  have d:lJ (dG X pins m) .bH g cls G U.heap:=F.mono λb z=>⟨z.1,z.2.1,(.bA z).1,.uY z,.yq z,λp hp=>(.kW z).2 p (.tG gV hp)⟩
  rw[2,G3 l L N l.ok.frames d λh2 W v=> ?_,.DR W v λh3 r k=>w {U with heap:=h3} σ1 m g cls G r k P]
 ·have t:=SP.pC I.ok q
  cases f with
  |next=>exact pF t
  |brk=>exact t
  |cont=>exact t
  |ret u=>exact t
theorem Ip(L: .bv= .S:: .eI)(N: .vp= .vo)(hex:X.ex=[])(hN:X.N.Nodup)(hi: .hj= .jZ)(R: .eC n= .bh)
  (y: .bR)(j: .cD= .I C)
  (S: .Jk .E (St->XK) (gI (.mG pn) E-> .zd xe-> .rm (.mG pn) (tb E)))
  (b:∀(A:Around),eF (X.gB A) (b₀::gB) ts)(d: .bu= .a:=by decide):
  PS X (.Try body [.ExceptHandler (some (.mN xp)) .jZ (b₀::gB) hpos] [] [] pos) (Yi X.K C i tb ts):=by
 intro pins s σ H D I h
 rw[0,JZ _ L N S I h λU σ1 H1 g cls G I1 N1 ⟨l,hts⟩=> ?_,wpAny_handleBy_cons (codeAny_handlers_test ?_) (by intro q;cases q)]
 have I1':Inv (.DS X g) pins σ1 H1 U:=I1.mark Y .s8
 refine iR (X:=.DS X g) I1' y j ?_ d
 obtain⟨oe,vs,T,oT,tts,h1,h2,h3,h4,h5,h6,h7,h8,F,B,e⟩:=id N1
 rw[6,Ey I1.bT l h1 h2 ?_,codeAny_handlers_suite_as ?_,.DR I1 N1 λh' W N2=> ?_]
 obtain⟨oe',vs',T',oT',tts',g1,g2,g3,g4,P,g6,g7,g8,g9,g10,g11⟩:=N2
 have I3: .ej σ1 (upd H1 g (xo g cls G .a)) {U with heap:=h'}:=W.JY g10 hex (Ci g1 g2 g3 g4 (yp.mp P).1 .s8)
 rw[0,xY (v:=.q5) I3 hN hi (.inl R) Y (λs4 w=> ?_) (.inr R),f_ (b (.Eb X g) pins s4 _ _ D.forget (w.mark Y .s8) (hts g g10.1)) (λf p q=> ?_) (.HS z)]
 have t: .rl X D.forget f p:=SP.J5 I.ok q
 have fin:∀(σ':St) (H':Hp),.ej σ' H' p->(∀c,.ej (L2.forget σ') H' c-> .rl X D f c)-> .go (do bindName X.env n .none;unbindBehindTheSuite X.env n hpos) (λ_ c=>.rl X D f c) p:=by
  intro σ' H' Q k
  obtain⟨m,hn,_⟩:=id Q.loc
  refine wpAny_nameGoes (show .y8 n= .bh from R) hn (by rw[Q.ok.kind];rfl) λh6 M hn' sb=>k _ (Q.NW hn' sb)
 cases f with
 |next=>rw[372,.DT σ' H' Q ⟨_,_,K,V⟩]
 |brk=>rw[372,.DT σ' H' Q ⟨_,_,K,V⟩]
 |cont=>rw[372,.DT σ' H' Q ⟨_,_,K,V⟩]
 |ret u=>obtain⟨v,σ',H',Q,r,V⟩:=t;exact .DT σ' H' Q ⟨.cT,K,r,V⟩
theorem Bq(L: .bv= .S:: .eI)(N: .vp= .vo)
  (y: .bR)(j: .cD= .I C)
  (S: .Jk .E (St->XK) (gI (.mG pn) E-> .zd xe-> .rm (.mG pn) (tb E)))
  (b:∀(A:Around),eF (X.gB A) (b₀::gB) ts)(d: .bu= .a:=by decide):
  PS X (.Try body [.ExceptHandler (some (.mN xp)) none (b₀::gB) hpos] [] [] pos) (Yh X.K C tb ts):=by
 intro pins s σ H D I h
 rw[0,JZ _ L N S I h λU σ1 m g cls G K c ⟨l,k⟩=> ?_,wpAny_handleBy_cons (codeAny_handlers_test ?_) (by intro q;cases q)]
 have u:Inv (.DS X g) pins σ1 m U:=K.mark Y .s8
 refine iR (X:=.DS X g) u y j ?_ d
 obtain⟨r,vs,T,t,w,h1,h2,h3,h4,h5,M,P,R,F,B,e⟩:=id c
 rw[6,Ey K.bT l h1 h2 ?_,codeAny_handlers_suite ?_,.DR K c λh' W v=> ?_]
 exact f_ (b (.Eb X g) pins _ _ _ D (W.mark Y .s8) k) (λf p q=>SP.J5 I.ok q) (.HS z)
end
structure jG(K:ag)(C:Addr):Prop where
 obj:∃(nm q:Str) (N:Addr) (bs bm: .q) (hdct:Bool) (sn: .H) (sub: .q) (ab:Bool) (col: .Jh) (dd: .aU) (k0 k1 k2 k3 k5: .gz),
  .O K C (excClassObj nm q C N bs bm hdct sn sub ab col dd k0 k1 k2 k3 k5 "Exception.__new__")/\ .s3 bm/\ .J9 bm .jf/\ .Jj bm= .a/\ .Ji bm= .a/\ .c hdct
abbrev g0(C t:Addr):Obj:=.Dx .w #[.bc,.none,.none,.none,.m5,.none]
abbrev fE(us: .q):Obj:=.Ed (.gx us)
section
variable{prog:Program}{w:World}{A:Around}{R: .mb}{E: .E}{h:Heap}{g: .yT}{d:Drawn}{t:Nat}{os:OsState}
variable{nm q:Str}{C N:Addr}{bs bm: .q}{hdct:Bool}{sn: .H}{sub: .q}{ab:Bool}{col: .Jh}{dd: .aU}{k0 k1 k2 k3 k5: .gz}
theorem EC{rest: .q}{M:Model}{Q: .ge}(l: .el C (excClassObj nm q C N bs bm hdct sn sub ab col dd k0 k1 k2 k3 k5 "Exception.__new__"))(S: .s3 bm)
  (j:Q () ⟨.kS⟩): .ht (checkBuiltinCall "Exception.__new__" ⟨.cM .w,[]⟩) ⟨.kS⟩:=by
 have F:=qj
 have a: .s3 (.hN C bm):=.DQ S rG
 have b:=F.noStar
 simp only[checkBuiltinCall,F.newKind,F.newSplit,F.newRow]
 repeat (first|refine pG l ?_|(refine yh l ?_;rw[a])|refine wpAny_staticBase_exc l ?_|refine Km l ?_|simp only[bne_self_eq_false,pL,lp]|wp_step)
 exact j
theorem GV{rest: .q}(l: .el C (excClassObj nm q C N bs bm hdct sn sub ab col dd k0 k1 k2 k3 k5 "Exception.__new__"))(S: .s3 bm)(i: .Jj bm= .a)
  (u: .Ji bm= .a)
  (j:R (.tE .qU) ⟨.vH h C,.kX⟩)(c: .ic<= .W):
  codeAny .hM A (.builtin "Exception.__new__" ⟨.cM .w,[]⟩) R ⟨.kS⟩:=by
 have F:=qj
 have a:=F.ends
 have f: .s3 (.hN C bm):=.DQ S rG
 have b: .Jj (.hN C bm)= .a:=by rw[r9,i];rfl
 rw[10,.Ji (.hN C bm),.a,by rw[r9,u];rfl]
 refine codeAny_builtinAt F.entry ?_
 unfold Builtin.«BaseException.__new__»
 rw[48,PySem.wpAt_bind ?_,PySem.wpAt _ _ _ (stack>>=_) _ _ _]
 refine PySem.wpAt_bind (PySem.wpAt_stack λp below=>LQ ?_)
 wp_walk
 rw[7,LQ ?_,F.owner]
 repeat (first|with_reducible refine wpAny_madeHere_exc F.canon l ?_|with_reducible refine pG l ?_|(with_reducible refine yh l ?_;first|rw[f]|rw[b]|rw[e])|wp_step)
 rw[38,R _ _,gk,j]
theorem QC{K:ag}{f:Addr}{rest: .q}(X: .d0)(G:jG K C)(hi: .Dg K .w f)(k: .rR .ai= .Dl)(c: .ic<= .W)
  (j: .rQ (.vd A ⟨.cM .w,[]⟩) .ai ⟨.cM .qU,[]⟩ (PySem.W.InitBack (.bD+1) R) ⟨.vH h C,.kX⟩):
  .rQ A .w ⟨rest,[]⟩ R ⟨.kS⟩:=by
 obtain⟨nm,q,N,bs,bm,hdct,sn,sub,ab,col,dd,k0,k1,k2,k3,k5,m,S,s,i,u,_⟩:=G.obj
 have l:=X _ _ m
 have f1:=tc_lookup
 have f2:=tc_bind .w
 rw[222,(⟨.kS⟩:Shared),.w,"type",⟨_,l,Y⟩]
 rw[48,codeAny_of_tree ?_,.fo (callAny .w _) _]
 repeat (any_goals (first|assumption|with_reducible refine pG l ?_|wp_step))
 rw[0,⟨Y,?_⟩,MR (yH _ (by decide+kernel)) entry_typeCall (YW l ?_)]
 repeat (first|with_reducible refine pG l ?_|with_reducible refine Km l ?_|wp_step)
 rw[0,MS (yH _ qj.quiet) (EC l S ?_),GV l S i u ?_ c]
 have a: .oV (.iC (.vH h C)= .l):=λb o e=>.oi e
 have W:(.vH h C).get? (.bD+1)=some (g0 C .bD):=by heap_get
 have t1: .z4 w (.vH h C) (typeOf .qU) .w:=.vF W .now
 have n: .J9 (.hN C bm) .w:=by simp
 have y:K.In (.vH h C):=X.keeps a
 have p:=.J8 y hi
 have b1:=PySem.W.bind_fn (M:=.hM) y .qU k
 show .fo _ _
 unfold isInstance callSpecial? specialOf
 rw[138,.n3 t1 (yh (a _ _ l) ?_),n]
 simp only[Cp,pL,lp]
 rw[44,ak (ju (ak (.n3 t1 (p.here ?_))))]
 rw[0,ju (.n3 b1 (ak (pE ?_))),qt j λr s' z=> ?_]
 rcases r with e|(v|_|_|_)<;>first|exact z|exact z.elim|skip
 obtain⟨rfl,z⟩:=z
 exact aZ (aZ z)
end
section
variable{prog:Program}{w:World}{A:Around}{R: .mb}{E: .E}{h:Heap}{g: .yT}{d:Drawn}{t:Nat}{os:OsState}
variable{nm q:Str}{C N:Addr}{bs bm: .q}{hdct:Bool}{sn: .H}{sub: .q}{ab:Bool}{col: .Jh}{dd: .aU}{k0 k1 k2 k3 k5: .gz}
theorem MP{M:Model}{e:Addr}{r:Obj}{rest: .q}{Q: .ge}
  (l: .el C (excClassObj nm q C N bs bm hdct sn sub ab col dd k0 k1 k2 k3 k5 "Exception.__new__"))(S: .s3 bm)(i: .el e r)(T:r.cls= .w)(j:Q () ⟨.kS⟩):
  .ht (checkBuiltinCall "Exception.__init__" ⟨.cM .iQ,[]⟩) ⟨.kS⟩:=by
 have F:=qj
 have f: .s3 (.hN C bm):=.DQ S rG
 have c:=F.noStar
 simp only[checkBuiltinCall,F.initKind,F.initSplit,F.initRow]
 repeat (first|(with_reducible refine pG i ?_;rw[T])|with_reducible refine pG l ?_|(with_reducible refine yh l ?_;rw[f])|wp_step)
 rw[15,Ce ?_,show∀(a b:String) (n:Nat),Bind.check ⟨.positional,"*","Exception",.self,[⟨"args",.varPos,.a⟩]⟩ a b n (List.map (λx=>x.fst) ({pos:=.hN e rest}:Args).kw)=pure ()from
  λa b n=>check_star_args _ _ _ _ _ _,aZ j]
theorem Et{K:ag}{e:Addr}{r:Obj}{vs: .bf}{Q: .E}(X: .d0)(G:jG K C)(a: .el e r)(T:r.cls= .w)(hd: .kT= .fy)(hsz:1< .s1)
  (j:Q .none ⟨.Jg h (fE []) e (Obj.mapFields (·.setIfInBounds 0 (.ref h.objs.size))),.kX⟩):
  .bx prog w A (.oJ "Exception.__init__" (.c3 e)) Q E ⟨.kS⟩:=by
 obtain⟨nm,q,N,bs,bm,hdct,sn,sub,ab,col,dd,k0,k1,k2,k3,k5,b,S,s,i,u,_⟩:=G.obj
 have F:=qj
 refine pE (EH F.init.plain F.initEntry (MP (X _ _ b) S a T ?_))
 unfold Builtin.«BaseException.__init__»
 dsimp only
 obtain⟨k,D⟩:∃k,vs[0]? = .e0:=⟨_,yo (by omega)⟩
 have p:=bA (h:=h) (fE []) a
 wp_walk
 rw[hd]
 rw[58,.cE,D,aZ (ak (vd p hd (by omega) ?_))]
 cases k<;>(wp_walk;exact j)
end
theorem Nw:typeOf .J5=pure .vE:=by kernel_rfl
theorem Nv:Manifest.isStub "Exception"= .a:=by decide+kernel
theorem Nu(K:ag):PySem.W.findCls K .J5 .vE "__init__"= .J2 (.builtin "Exception.__init__"):=by first|rfl|kernel_rfl|decide+kernel
theorem Nt: .jB "Exception" (.fI "Exception"):=by first|rfl|kernel_rfl|decide+kernel
theorem Inv.Ky{X:Cx}{pins: .D}{σ:St}{H:Hp}{s:Shared}{h':Heap}{x:Addr}{cls:Value}{G dx': .aU}{fr:Bool}{r:Obj}{vs: .bf}(I: .k)(e:H x=some (xo x cls G fr))(kp: .ot b x (.ch-> .aM= .l))
  (h1: .pl x .bL)(h2:r.cls=cls)(h3:r.dict=dx')(h4: .kT= .fy)(h5:1< .s1)(j: .c fr-> .mD= .s0)(t':Nat): .CZ (upd H x (xo x cls dx' fr)) t':=by
 refine .HZ I x x e .bo .ao kp ⟨_,h1⟩ (Ci h1 h2 h3 h4 h5 j)
def Ym(K:ag)(t:TA):TE:=.n2 H (λvs m=>∃x C G fr,vs=[.a4]/\m x= .nT x G fr/\jG K C/\ .ea (upd m x (xo x .w G fr)))
theorem HY{X:Cx}{l T pos:Pos}{e:Expr}{t:TA}{pl: .lV}(y:Gl X "Exception")(j:X.mg "Exception"=none)(M: .cm [e] t)
  (c: .bt e= .kc (.a,.dC):=by rfl)
  (V: .Y (.kY (.Name "Exception" l) "__init__" T [e] [] pos)=(do
   let n<-eval (.Name "Exception" l) X.env
   standAt T.atName
   let (f,first)<-holding [n] (getMethod n "__init__" pl)
   callWith pos f first (backTo pos (starEach [e] X.env)) (backToKw pos (keywordEach [] X.env))):=by rfl):
  .A (.kY (.Name "Exception" l) "__init__" T [e] [] pos) (Ym X.K t):=by
 rw[34,.yJ (jP I y j Nt ?_) V]
 obtain⟨m,F⟩:=I.fr
 refine PySem.W.method_type F I.mod.kin Nw Nv (Nu _) Y ?_
 have i:=M pos pins .hm σ H _ (I.tok _) h
 rw[c]at i⊢
 rw[0,rH Y (yC ?_),aE i λus B ⟨vs,H2,W,D,x,C,G,fr,K,ex,hk,q⟩=> ?_]
 subst K
 obtain⟨u,rfl,ru⟩:=vals1 D
 obtain rfl: .hH u x:=ru
 obtain⟨⟨r,ws,g1,g2,g3,U,P,L⟩,_,_⟩:=W.aw x _ ex
 obtain⟨h2,a,dr,tk,k⟩:=B
 refine Et W.bT hk g1 g2 U P ?_
 have p:=bA (h:=h2) (fE []) g1
 have v:=Inv.Ky (t':=tk) W ex (h':=.Jg h2 (fE []) x (Obj.mapFields (·.setIfInBounds 0 (.ref h2.objs.size)))) (λb o S z=>by
   rw[147,_,_,eQ S,.co z]) (nG _ p (zA (nM U _))) ((Dv _ _).trans g2) ((GL _ _).trans g3) (nM U _) (by simpa using P) (λz=>by rw[Array.getElem?_setIfInBounds_ne (by decide)];exact L z)
 exact⟨.au,_,v,Y,q⟩
section
open PySem.Builtin PySem.Builtin.ObjectAttr
def yn: .c1 .q
 |[.type a,.type b,.type c]=>.Jf&& .Je&& .Jd
 | .ref _::r=>yn r
 |_=>.a
theorem Kw(self:Value):∀{l: .q},.c (yn l)->refuseLoop self "__setattr__" l=pure ()
 |[.type a,.type b,.type c],e=>by
  rw[114,.c (.Jf&& .Je&& .Jd)]
  simp only[bU,kg]at M
  obtain⟨⟨rfl,rfl⟩,rfl⟩:=M
  exact PySem.F.store_Exception.passes self
 | .ref c::r,e=>by
  rw[1,refuseLoop_ref,Kw self (l:=r) (by cases r<;>first|exact e|cases e)]
theorem Kv:∀{l: .q},.c (yn l)-> .c (.zv l "object")
 |[.type a,.type b,.type c],e=>by
  rw[114,.c (.Jf&& .Je&& .Jd)]
  simp only[bU,kg]at M
  obtain⟨⟨rfl,rfl⟩,rfl⟩:=M
  decide
 | .ref c::r,e=>.DQ (Kv (l:=r) (by cases r<;>first|exact e|cases e)) rG
def ym(K:ag)(C:Addr):Bool:=(PySem.W.clsIn K C).any λW=>yn W.mro
section
variable{prog:Program}{w:World}{A:Around}{E: .E}{R: .mb}{K:ag}{C x:Addr}{s:Shared}{ox:Obj}{od: .B6}{name:Str}{tk:Tok}{v:Value}
theorem T3(X: .j0)(I: .yN .G ox C od)(hp: .c (ym K C))(V: .rO K name)
  (h: .bx prog w A.in1 (storeInOwnDict .a4 .w (.s2 tk) name v .a) (λfin s'=>match fin with| .done f=>R (.ok f) s'| .again b=>.c b.quiet/\codeAny .hM A b R s') (λe s'=>R .se s') s):
  .rQ A (.builtin "object.__setattr__") ⟨[.a4,.s2 tk,v],[]⟩ R s:=by
 have a:=PySem.F.store_object
 obtain⟨W,B,d⟩:=DK hp
 have ne:W.mro.isEmpty= .a:=by cases q:W.mro with|nil=>rw[q]at d;cases d|cons _ _=>rfl
 have sub: .z4 w .G (isInstance .a4 .Be) true:=I.type.andThen (vY X (by unfold PySem.W.mroIn;rw[B,Option.bind_some,.l4 ne,Kv d]))
 refine EH a.slot.plain a.entry (@LH .hM _ _ s "object.__setattr__" "object" "__setattr__" .a4 [.s2 tk,v] [] _ a.kind a.split sub (a.args .a4 (.s2 tk) v) ?_)
 have j: .z4 w .G (mroOf .w) W.mro:=(DM X B).andThen .now
 rw[PySem.W.osa_eq,refuse_eq]
 rw[138,ak (I.type.here (.mE j)),Kw _ d]
 rw[2,aZ (ak (I.type.here (.n3 (vX X V) (ak .cE)))),h]
theorem Vz{vs: .bf}{Q: .ge}(X: .j0)(hp: .c (ym K C))(n: .rP C)(V: .rO K name)
  (L: .Dk K .w .vf)(W: .hK x ox)(p:ox.cls= .w)(hd:ox.dict=none)(N:ox.data= .fy)
  (h:∀h' d t',.u<=d->h'.Ns1 d (λy=>.bJ (y=name) v)-> .r3 x {ox with dict:=some d}->(.ot b x (.ch-> .aM= .l))->Q () (.je t')):
  .cz (setAttr .a4 name v):=by
 have B: .yN .G ox C none:=⟨W,p,by unfold PySem.W.notCls;rw[N],by rw[hd];trivial⟩
 refine LO X B L (T3 (s:=.hm) X B hp V ?_)
 obtain⟨t,r,k⟩:=DK n
 obtain⟨oc,l,m,i⟩:=ox
 dsimp only at p hd N
 subst p hd N
 rw[7,.qY (ak (ak (wpAny_loadPart W (.vg .hm (DM X r) ?_)))),k]
 have U:(.v9 s).get? x=some ⟨.w,none,.fy,i⟩:=.co W
 have a:x≠ .u:=.r1 W
 rw[170,wpAny_alloc ?_,ak (wpAny_update (o:=⟨.w,none,.fy,i⟩) U ?_),.cE]
 have f:((.v9 s).update x λo=>{o with dict:=some .u}).get? .u=some (.gB "dict" .mS):=
  (Heap.get?_update_ne _ _ _ _ a.symm).trans (Heap.get?_push_at Y rfl)
 have fZ:((.v9 s).update x λo=>{o with dict:=some .u}).Ns .u .rJ:=
  ⟨_,#[],_,f,Y,λe g=>.hW g,.ec⟩
 show .fo (storeInDict .u (.s2 _) name v) _
 unfold storeInDict newKeyGuard
 rw[26,aZ (ak (wpAny_nsSet1 (Heap.Ns1.of_empty fZ) λh' P j=> ?_))]
 obtain⟨u,M,c,z,F,G⟩:=P.count (Within.cons name v Within.nil)
 rw[170,wpAny_lookBehind z (.Il (pastItsLine_dict (cn G (by rw[bp,zh,br];omega)))) ?_,.cE,h h' .u _ .y P ?_ λb o S q=> ?_]
 ·exact .dA j x a (nG _ U Y)
 ·exact .dA j b (.r1 q) ((Heap.get?_update_ne _ _ _ _ S).trans (.co q))
end
end
section
open PySem.Builtin PySem.Builtin.ObjectAttr
section
variable{prog:Program}{w:World}{A:Around}{E: .E}{R: .mb}{K:ag}{C x:Addr}{s:Shared}{ox:Obj}{od: .B6}{name:Str}{tk:Tok}{v:Value}
theorem N_{expr:Bool}{Q: .E}(X: .j0)(I: .yN .G ox C od)(f: .sf K "__getattribute__" .J4)
  (y:(if onTheHeap .w then PySem.W.findIn K .w "__getattr__" else .ph)= .ph)(b: .vG C= .d2)(N:PySem.W.findObj K C od name=some (.value v))(n: .Ik v)(h:Q v .hm):
  .cz (getAttr .a4 name expr):=by
 obtain⟨hp,g,d,t,os⟩:=s
 have e:=I.type (M:=.hM)
 have L1:=.J8 X f
 have c:=PySem.W.looks_find (M:=.hM) X I N
 have f3:=LC.ga.bind .a4
 have D:(expr&&onTheHeap .Jc)= .a:=by cases expr<;>rfl
 have sub: .z4 w hp (isInstance .a4 .jf) true:=I.type.andThen (vY X b)
 have G:builtinKind "BaseException.__getattribute__"=some .slot:=by decide+kernel
 have a:splitId "BaseException.__getattribute__"=some ("BaseException","__getattribute__"):=by decide+kernel
 have main:∀(A:Around) (R: .mb),R (.tE v) ⟨hp,g,d,t+1,os⟩-> .rQ A (.builtin "BaseException.__getattribute__") ⟨[.a4,.s2 t],[]⟩ R ⟨hp,g,d,t+1,os⟩:=by
  intro A R i
  refine EH LC.ga.plain PySem.F.entry_bexc_ga (@LH .hM _ _ ⟨hp,g,d,t+1,os⟩ "BaseException.__getattribute__" "BaseException" "__getattribute__" .a4 [.s2 t] [] _ G a sub (PySem.F.args_bexc_ga _ _) ?_)
  unfold Builtin.«object.__getattribute__»
  rw[214,ak .cE,ak .cE,.vg ⟨hp,g,d,t+1,os⟩ e ?_,.vg ⟨hp,g,d,t+1,os⟩ c ?_,aZ i]
 unfold getAttr getAttrBy
 rw[44,ak (wpAny_mkText (ju (.vg ⟨hp,g,d,t+1,os⟩ e (.vg ⟨hp,g,d,t+1,os⟩ L1 ?_))))]
 rw[show(onTheHeap (Value.ref C)&& .Jc==Value.builtin "object.__getattribute__")= .a from by rw[show(.Jc==Value.builtin "object.__getattribute__")= .a from by decide];exact Cn _,.n]
 unfold getAttrByItsOwn
 rw[26,qk (s:=⟨hp,g,d,t+1,os⟩) (PySem.W.looks_hook (mc:=.w) X (r:=none) y) ?_]
 unfold callGetattribute
 rw[D,.n]
 rw[26,Kl (ju ?_)]
 unfold boundAndCalled
 rw[9,f3,.qY (pE (main A _ ?_))]
 rw[38,.fo (handedOut v) _,PySem.W.handedOut_of n,aZ h]
end
end
section
open PySem.Builtin PySem.Builtin.ObjectAttr
structure k_(K:ag)(C:Addr)(f:Str):Prop where
 over: .c (ym K C)
 hd: .rP C
 no: .rO K f
 sa: .Dk K .w .vf
 ga: .sf K "__getattribute__" .J4
 gt: .rO K "__getattr__"
 be: .vG C= .d2
def Vv(K:ag)(ta tv:TE)(f:Str):TS:=λD σ H=>tv σ H λy m=>ta σ m λv a=>∃x C fr,v= .a4/\a x= .nT x none fr/\k_ K C f/\∀G,a G=none-> .pi (upd (upd a x (xo x .w .nS fr)) G (.xd [(f,y)]))
def Yl(K:ag)(ta:TE)(f:Str):TE:=.DZ σ H (λv m=>∃x C G fr fs y,v= .a4/\m x= .nT x .nS fr/\m G=some (.xd fs)/\k_ K C f/\ .O fs f y/\Q y m)
section
variable{X:Cx}{o e value:Expr}{f:Str}{pos pos':Pos}{ta tv:TE}
theorem Iq(hex:X.ex=[])(N: .jo o)(Q: .A value tv)(L: .rk value (.oQ o pos') .hd= .kh): .yL [.oQ o pos'] value (Vv X.K ta tv f):=by
 rw[356,Uq (aE (Q pins s σ H _ I h) λu U ⟨y,m,E,F,q⟩=>aE (N pins U σ m _ E q) λT B ⟨v,A,W,M,x,C,fr,ex,g,c,V⟩=> ?_) L,T,x];obtain⟨⟨r,ws,g1,g2,g3,t,P,l⟩,_,_⟩:=W.aw x _ g;refine Vz W.bT c.over c.hd c.no c.sa g1 g2 g3 t λh' d t' i R b j=> ?_;have k:A d=none:=W.aw.fresh i;have p:d≠x:=.pT (bM g1) (.HU (sk.mpr i));have K:=Inv.Ky (t':=t') (dx':=some d) W g j b g2 Y t P l
 have w:=K.JY (a:=d) (o:=.xd [(f,y)]) (W.iO i (.bp p k)) hex ⟨_,R,λn=>by
  show gG (List.lookup n [(f,y)]) (.bJ (n=f) u);by_cases G:n=f
  ·rw[104,.eh n f,kg,G];simp only[List.lookup,S,af G];exact F
  ·rw[104,(n==f)= .a,lg,G];simp only[List.lookup,S,aa G];exact .bo⟩
 exact⟨σ,_,w,V d k⟩
theorem HX(g: .jo e)(S: .md e f e= .dC): .A (.oQ e pos) (Yl X.K ta f):=by rw[34,Ee S (.mm s H _ I h λu U ⟨v,m,n,M,x,C,G,fr,fs,y,ex,b,p,c,l,q⟩=> ?_)];subst ex;obtain rfl: .hH u x:=M;obtain⟨⟨r,ws,g1,g2,g3,j,P,t⟩,_,_⟩:=n.aw x _ b;obtain⟨a,A,i⟩:=(show dk .a6 X.w m U.heap G (.xd fs)from n.aw G _ p);obtain⟨k,d,R⟩:=GD A;obtain⟨F,L,ru⟩:=.Gr y (a f) l (i f);have B: .yN U.heap r C .e0:=⟨g1,g2,by unfold PySem.W.notCls;rw[j],by rw[g3];exact d⟩;rw[2,N_ n.bT B c.ga (by rw[c.gt];split<;>rfl) c.be (LJ c.hd c.no Y (by rw[R,L])) (Fs ru) ?_,⟨y,m,.xH n,ru,q⟩]
end
theorem Bu{K:ag}{M:Model}{A:Around}{E: .E}{s:Shared}{env:Env}{x: .mB}{Q: .cq Flow}(n: .tZ=none)
  (h:wpAny M A x (λv N=>∃e r vs C,v= .iQ/\K.In .dQ/\N.heap.get? e= .bL/\r.cls= .w/\ .kT= .fy/\ .mD= .s0/\ .vG C= .d2/\ .rR .w= .p3/\E .iQ N) E s):
  .ht (raiseStmt env .aa none) s:=by
 unfold raiseStmt
 rw[26,.yr h (λv N q=> ?_) x]
 obtain⟨e,r,vs,C,rfl,X,g,B,hd,h1,F,j,P⟩:=q
 have t1: .mF .dQ (typeOf .iQ) .w:=by
  rw[248,.vF g ?_,B]
 have t2: .mF .dQ (isType .iQ) .a:=by
  show .mF .dQ (do return match (<-loadHead e).data with| .cls _=>true|_=>false) .a
  rw[248,.vF g ?_,hd]
 have d: .mF .dQ (isExcClass .iQ) .a:=t2.andThen .now
 have y: .mF .dQ (isInstance .iQ .jf) true:=t1.andThen (vY X F)
 rw[67,.cE,ju ?_]
 unfold excFromValue
 rw[7,.mE d,.n]
 rw[7,.mE y,.M]
 rw[44,.cE]
 rw[7,.mE t2,.n]
 unfold raisedInstance
 rw[58,ak (.n3 t1 (.mE (LN X j))),.Ge,aZ (ak ?_)]
 unfold setFlight
 rw[15,ak (fP g hd h1 ?_),.n,aZ (wpAny_raiseNew_none n P)]
end
def del(H:Hp)(a:Addr):Hp:=λb=>.s9 b a none (H b)
theorem Aj{H:Hp}{a:Addr}:del H a a=none:=by unfold del;rw[.M]
theorem hJ{H:Hp}{a b:Addr}(h:b≠a):del H a b=H b:=by unfold del;rw[.dP]
theorem Nh{H:Hp}{a b:Addr}{o:HO}(h:del H a b= .l):b≠a/\H b= .l:=by
 unfold del at h;split at h
 ·cases h
 ·exact⟨.q7,h⟩
section
variable{X:Cx}{pins: .D}{σ:St}{H:Hp}{s:Shared}
theorem Inv.drop{x:Addr}{φ: .ap Heap}(I: .k)(e:H x=some (.ext φ)): .cL (del H x) s:=by
 have ne:∀b u,H b= .V->(∀ψ,u≠ .ext ψ)->b≠x:=λb u q n z=>by rw[z,e]at q;exact n φ (.sM q)
 have r:∀b,H b=none->del H x b=none:=λb q=>by
  unfold del;split
  ·rfl
  ·exact q
 refine⟨.oF I,⟨I.base.keep,I.base.slot,λb u q n W=>r b (.oU b u q n W),I.base.there,λb xs q=> ?_,λb u xs q=> ?_,λb ps q=> ?_⟩,I.loc,I.cell,r _ .i0,λy c q=>r _ (.oN y q),.Jb ?_,I.len⟩
 ·have:=I.base.jt b xs q;rw[1,hJ (ne _ _ this .Ja),this]
 ·have:=I.base.iP b u xs q;rw[1,hJ (ne _ _ this .Ja),this]
 ·obtain⟨more,this⟩:=I.base.jr b ps q;exact⟨more,.CQ (ne _ _ this .Ja) this⟩
 ·rw[371,I.pin p hp,⟨l,r _ T,N,A,p5⟩]
 ·obtain⟨S,q⟩:=Nh q;exact(.mp u q).jq (λc v _ z=>z) (λc z=>.CQ (ne _ _ z fun ψ w=>nomatch w) z) λc xs z=>.CQ (ne _ _ z fun ψ w=>nomatch w) z
structure nS(K:ag)(C f:Addr):Prop where
 cls:jG K C
 init: .Dg K .w f
 fn: .rR .ai= .Dl
 kp: .Ic K .w true
 be: .vG C= .d2
 ty: .rR .w= .p3
abbrev XF:XK:=.xn
theorem GK{CX:fG}{k:Nat}{C f:Addr}{fd:FuncData}{ps: .H}{sp:Sp}{us: .q}{vs: .s}{Q: .bT Addr}(M:nS X.K C f)(F: .hw)(L: .rL k)(S: .sw [])
  (w: .Bi Env (CX l H s XF e s'-> .bU))(I: .k)(r: .h1)(m: .aT vs)
  (h:∀x,H x=none->sp (.a4::vs) (upd H x (xo x .w none true)) (λv B=>v= .au/\Q x B) XF):
  .dR (call .w us) (λu s'=>∃x H',u= .a4/\ .hx<=x/\ .kH/\ .dL x):=by
 obtain⟨hp,g,d,t,os⟩:=s
 have A:H .hA=none:=.rG (qb _)
 have y: .fD (hp.get? b) (.iC (hp.push (fE us))= .l):=.D4
 have n: .jq ⟨hp.push (fE us),.kX⟩:=I.un (t':=t) (Un.kept y) (.D6 y)
 have W: .cL (upd H .hA (xo .hA .w none true)) ⟨.pz hp (fE us) (g0 C .E5),.kX⟩:=by
  rw[2,n.laid (a:=.hA) (o:=xo .hA .w none true) (t':=t) (.CW q) (sg (gk _ _)) ?_,Ci (by heap_get) Y rfl rfl .J7 .ec]
 have j:=h .hA A
 rw[171,V.ref .hA::vs,.oP .hA,.cons Y r]
 have R: .jr ((.oP .hA)++[]):=by
  have e:=.kj
  rw[F.len _ _ _ _ j]at e
  rw[1,cC,e.symm]
 have p:=S ⟨.pz hp (fE us) (g0 C .E5),.kX⟩ (.oP .hA) W.bT R
 rw[cC]at p
 refine pE (QC I.bT M.cls M.init M.fn (.Ie m) (qt (F.run _ .bv _ _ ⟨.oP .hA,[]⟩ (.oP .hA) _ _ XF (L.make C us []) (W.wC.make C us []) p D j) λr s' i=> ?_))
 cases r with
 |error e=>exact(w _ _ _ _ _ i).elim
 |ok c=>
  cases c with
  |ret u=>
   obtain⟨v,H',z,N,K,G⟩:=W.after i
   subst K
   exact⟨N,_,H',Y,cn I.sz (qb _),z,G⟩
  |next=>rw[21,i]
  |brk=>rw[21,i]
  |cont=>rw[21,i]
def BZ(C:Addr)(sp:Sp)(E:St->XK)(t:TA):TS:=λ_ σ H=>.gc λvs m=>.aT vs/\∀x,m x=none->sp (.a4::vs) (upd m x (xo x .w none true)) (λv a=>v= .au/\∃G,a x= .nT x G true/\E σ .w G (del a x)) XF
variable{E:St->XK}{CX:fG}{k:Nat}{C f:Addr}{fd:FuncData}{ps: .H}{sp:Sp}{x:Str}{np cpos pos:Pos}{e:Expr}{es: .bK}{t:TA}
theorem II{D:Ends}{u:Value}{s':Shared}(W:gI X E)(M:nS X.K C f)(h:∃x H',u= .a4/\ .hx<=x/\ .kH/\∃G,.b4= .nT x G true/\E σ .w G (del H' x)):
  ∃e r vs g,u= .iQ/\X.K.In .dN/\ .FD e .bL/\r.cls= .q5/\ .kT= .fy/\ .mD= .s0/\PySem.W.mroIn X.K g .jf= .d2/\PySem.W.typeIn X.K .q5= .p3/\X.xe .iQ s':=by
 obtain⟨x,H',rfl,hsz,I,G,ex,q⟩:=h
 obtain⟨⟨r,vs,g1,g2,g3,U,P,l⟩,_,_⟩:=.lc x ex
 refine⟨x,r,vs,C,Y,I.bT,g1,g2,U,l Y,M.be,M.ty,?_⟩
 have L:=I.drop ex
 refine W pins σ (del H' x) x .w G s' L ⟨r,vs,g1,g2,g3,U,P,⟨Aj,.a2,.a2,.inr hsz,λy c B z=> ?_,λp hp z=> ?_⟩,.inl (l Y)⟩ q
 ·rw[z,.i0]at ex;cases ex
 ·have hz: .b4=none:=by
   obtain⟨_,o,d,_⟩:=.Dw z
   exact .oU x o d (I.ok.mz x z) (λw=>I.ok.qu x w z)
  rw[hz]at ex;cases ex
 ·rw[<-z,.oN y B]at ex;cases ex
 ·rw[<-z,(I.pin p hp).2.1]at ex;cases ex
theorem Bp(W:gI X E)(a: .dO)(M:nS X.K C f)(F: .hw)(c: .rL k)(y: .bR)(j: .cD= .I C)(S: .sw [])
  (p: .Bi Env (CX l H s XF e s'-> .bU))(N: .g7)(d: .bu= .a:=by decide)
  (g: .fm= .fl:=by rfl)(b: .zy cpos es= .a:=by rfl):
  PS X (.Raise (some (.hO x np (e::es) [] cpos)) none pos) (BZ C sp E t):=by
 rw[370,Ec]
 rw[214,.J6 X.K (I.ok.hd a) ?_,ak (.oC I y j d),.u4 I M.kp (aE (N cpos pins s σ H _ I h) λus U ⟨vs,m,n,r,R,q⟩=>⟨n.bT,?_⟩) g b,aE (GK M F c S p n r R q) λu B L=> ?_,.sy (aZ (II (D:=D) W M L))]
theorem iq(W:gI X E)(a: .dO)(M:nS X.K C f)(F: .hw)(b: .rL k)(y: .bR)(j: .cD= .I C)(S: .sw [])
  (p: .Bi Env (CX l H s XF e s'-> .bU))(d: .bu= .a:=by decide):
  PS X (.Raise (some (.hO x np [] [] cpos)) none pos) (BZ C sp E f9):=by
 rw[370,Ec]
 rw[214,.J6 X.K (I.ok.hd a) ?_,ak (.oC I y j d),vW I.bT M.kp ?_,aE (GK (us:=[]) M F b S p I .nil h.1 h.2) λu B L=> ?_,.sy (aZ (II (D:=D) W M L))]
end
structure yG(K:ag)(C:Addr)(m:Str)(f:Addr):Prop where
 ga:PySem.W.specialIn K .w "__getattribute__"= .nq "type.__getattribute__"
 rd: .c (PySem.W.readsIn K C .vE)
 at_:PySem.W.findCls K .w .vE m= .J2 .ai
 kp: .me K
section
variable{X:Cx}{CX:fG}{k:Nat}{f C:Addr}{fd:FuncData}{ps: .H}{sp:Sp}{E:St->XK}{x m:Str}{p pos apos:Pos}{e:Expr}{es: .bK}{t:TA}
theorem o7{pl: .lV}(B:yG X.K C m f)(F: .hw)(M: .h7)(y: .bR)(j: .cD= .I C)(S: .sw [])(W: .iY)(N: .g7)
  (d: .bu= .a:=by decide)(R: .fm= .fl:=by rfl)(l: .iG= .a:=by rfl)
  (V: .qL (.mN p) m (e::es)=(do
   let G<-eval (.Name x p) X.env
   standAt apos.atName
   let (f,first)<-holding [G] (getMethod G m pl)
   callWith pos f first (backTo pos (starEach (e::es) X.env)) (backToKw pos (keywordEach [] X.env))):=by rfl):
  .ka (.mN p) m (e::es) (u4 sp [] E t):=by
 intro pins s σ H Q I h
 rw[6,.yJ (iR I y j ?_ d) V,PySem.W.method_cls I.bT B.ga (PySem.W.cls_value I.bT B.rd B.at_ Y ?_),.u4 I B.kp (.kf _ (I.tok _) h λus U ⟨vs,a,n,r,q⟩=>⟨n.bT,?_⟩) R l]
 exact rk F M S .nil W n r q
end
structure sN(K:ag)(C:Addr):Prop where
 cls:jG K C
 init: .vZ K .w "__init__" (.nq "Exception.__init__")
 kp: .Ic K .w true
 be: .vG C= .d2
 ty: .rR .w= .p3
theorem QA{prog:Program}{w:World}{A:Around}{R: .mb}{h:Heap}{g: .yT}{d:Drawn}{t:Nat}{os:OsState}{K:ag}{C:Addr}(X: .d0)(G:sN K C)
  (j:∀h' r vs,(.oV (.aM= .l))-> .pl (.bD+1) .bL->r.cls= .w->r.dict=none-> .kT= .fy->1< .s1-> .mD= .s0->R (.tE .qU) ⟨h',.kX⟩):
  .rQ A .w ⟨[],[]⟩ R ⟨.kS⟩:=by
 obtain⟨nm,q,N,bs,v,c,F,sub,H,B,Q,T,V,k2,D,k5,L,S,s,i,u,_⟩:=G.cls.obj
 have l:=X _ _ L
 have f1:=tc_lookup
 have f2:=tc_bind .w
 rw[222,(⟨.kS⟩:Shared),.w,"type",⟨_,l,Y⟩]
 rw[48,codeAny_of_tree ?_,.fo (callAny .w _) _]
 repeat (any_goals (first|assumption|with_reducible refine pG l ?_|wp_step))
 rw[0,⟨Y,?_⟩,MR (yH _ (by decide+kernel)) entry_typeCall (YW l ?_)]
 repeat (first|with_reducible refine pG l ?_|with_reducible refine Km l ?_|wp_step)
 rw[0,MS (yH _ qj.quiet) (EC l S ?_),GV (rest:=[]) l S i u ?_ .ab]
 have a: .oV (.iC (.st h [] C)= .l):=λb o e=>.oi e
 have W:(.st h [] C).get? (.bD+1)=some (g0 C .bD):=by heap_get
 have t1: .z4 w (.st h [] C) (typeOf .qU) .w:=.vF W .now
 have n: .J9 (.hN C v) .w:=by simp
 have y:K.In (.st h [] C):=X.keeps a
 have P:=.J8 y G.init
 show .fo _ _
 unfold isInstance callSpecial? specialOf
 rw[138,.n3 t1 (yh (a _ _ l) ?_),n]
 simp only[Cp,pL,lp]
 rw[156,ak (ju (ak (.n3 t1 (P.here ?_)))),qj.init.bind]
 rw[6,ju (.qY (ak ?_)),Et y G.cls W Y rfl .J7 ?_,aZ .cE]
 have U:=bA (h:=.st h [] C) (fE []) W
 rw[15,j _ _ _ (λb o z=> ?_) (nG _ U Y) Y rfl rfl .J7 Y,jz _ _ (eO (sh (bM z))),.co (a _ _ z)]
def Ye(C:Addr)(E:St->XK):TS:=λ_ σ H=>E σ .w none H
section
variable{X:Cx}{E:St->XK}{C:Addr}{x:Str}{np cpos pos:Pos}
theorem rg(W:gI X E)(a: .dO)(M:sN X.K C)(y: .bR)(j: .cD= .I C)(b: .bu= .a:=by decide):
  PS X (.Raise (some (.hO x np [] [] cpos)) none pos) (Ye C E):=by
 rw[370,Ec]
 rw[6,.J6 X.K (I.ok.hd a) ?_,ak (.oC I y j b),vW I.bT M.kp (pE ?_)]
 obtain⟨hp,g,d,t,os⟩:=s
 rw[145,QA I.bT M λh' r vs kp g1 g2 g3 U P l=> ?_,.jq ⟨h',.kX⟩,I.un (t':=t) (Un.kept kp) (.D6 kp)]
 rw[2,.sy (aZ ⟨_,r,vs,C,Y,n.bT,g1,g2,U,l,M.be,M.ty,?_⟩),W pins σ H _ .w none _ n ⟨r,vs,g1,g2,g3,U,P,I.iO (qb _) (.rG (qb _)),.inl l⟩ h]
end
theorem NS{CX:fG}{P:Program}{w:World}{K:ag}{mg: .d}{base:Heap}{k:Nat}{f:Addr}{name g:Str}{h:Arguments}{body: .e2}{d:Scope}{dV kV z pm G ct oc:Value}{an od: .aU}
  {osl: .u2}{N ps: .H}{sp:Sp}(lk: .O K f ⟨oc,od,.func (.fk name g h body d dV z pm an G ct),osl⟩)(W: .Cp K G g)(S:nE N ps d)
  (len: .us H Q E vs)
  (a:∀(A:Around) (outer: .d6) (s:Shared) (H:Hp) (vs: .s) (Q:VK) (E:XK),.oD= .Co->cb k (A.deeper (.iZ g d f G))->sp vs H Q E->
   ∃t,.rm (e_ CX P w K mg base N g d f G A .a0 s H E) t/\t (.Cm Q) (.mn N) H):
  .J P w K CX (k+1) f (.fk name g h body d dV z pm an G ct) ps sp:=by
 refine⟨len,λA outer s H args us vs Q E M F hb r C=> ?_⟩
 have R:=len _ _ _ _ C
 have T: .j0:=F.mod.kin.keeps (.Cn b o e)
 have m: .GY:=F.mod.nolimit.keeps (.Cn b o e)
 have l:∀y∈ .sj us,.fv y.1= .bh∨(.fv y.1= .cH/\ .c (.q8 (.sd .b7 d []) y.1)):=λ⟨n,v⟩ hy=>by
  rcases S.par n (zj hy).1 with q|q
  ·rw[14,q]
  ·rw[8,⟨q,DL _ _ _ (.inl q)⟩]
 rw[0,codeAny_call_function M.depth (T _ _ lk) Y S.co S.gen Y (LI T W) (hb _ _ _ _ ?_),YX S.kind l λenv he U x=> ?_]
 subst he
 refine⟨m.keeps x.toInCall.keep,codeAny_func ?_⟩
 obtain⟨t,ht,j⟩:=a A .a0 s H vs Q E F.frames (M.deeper _) C
 have I:Inv (e_ CX P w K mg base N g d f G A .a0 s H E) [] (.mn N) H U:=FO S M.hd F R r x
 refine f_ (ht [] U (.mn N) H _ I j) (λc s' L=> ?_) λe s' L=>L
 have fin:∀{σ':St} {H':Hp} {v:V} {u:Value},Inv (e_ CX P w K mg base N g d f G A .a0 s H E) [] σ' H' s'-> .cA-> .dL v->CE .a0 P w H s Q u s':=
  λ{σ' H' v u} B D q=>⟨v,H',B.os,B.bare,B.base,B.aw,D,q⟩
 cases c with
 |ret u=>
  obtain⟨v,σ',H',B,D,q⟩:=L
  exact fin B D q
 |next=>
  obtain⟨σ',H',B,q⟩:=L
  exact fin (v:=V.au) (u:=.fq) B Y q
 |brk=>
  rw[230,q]
 |cont=>
  rw[230,q]
theorem aY{a b:Nat}(h: .FP a b:=by rfl):a<=b:=Dm h
theorem cb.m{j k:Nat}{A:Around}(r:cb k A)(h:j<=k:=by decide):cb j A:=r.mono h
theorem IX{N ps: .H}{z:Scope}(h1: .y9 z.kind:=by rfl)(h2:z.isCoroutine= .a:=by rfl)(h3:z.isGenerator= .a:=by rfl)(h4:N.Nodup:=by decide+kernel)(h5:N.take .aV=ps:=by rfl)(j:∀x∈ps,.gj x= .bh∨ .gj x= .cH:=by decide+kernel)(m:∀y∈z.names,y.2≠ .free:=by decide+kernel):nE N ps z:=⟨.p2,j,m⟩
theorem sQ{α:Type}{p: .p8}(h:p []): .p7 (.a8=0->p us)
 |[],_=>h
theorem all1{α:Type}{p: .p8}(h:∀a,p [a]): .p7 (.a8=1->p us)
 |[_],_=>h ..
theorem all2{α:Type}{p: .p8}(h:∀a b,p [a,b]): .p7 (.a8=2->p us)
 |[_,_],_=>h ..
theorem sR{α:Type}{p: .p8}(h:∀a b c,p [a,b,c]): .p7 (.a8=3->p us)
 |[_,_,_],_=>h ..
theorem sS{α:Type}{p: .p8}(h:∀a b c d,p [a,b,c,d]): .p7 (.a8=4->p us)
 |[_,_,_,_],_=>h ..
theorem sT{α:Type}{p: .p8}(h:∀a b c d e,p [a,b,c,d,e]): .p7 (.a8=5->p us)
 |[_,_,_,_,_],_=>h ..
theorem sU{α:Type}{p: .p8}(h:∀a b c d e f g,p [a,b,c,d,e,f,g]): .p7 (.a8=7->p us)
 |[_,_,_,_,_,_,_],_=>h ..
theorem sV{α:Type}{p: .p8}(h:∀a b c d e f g h,p [a,b,c,d,e,f,g,h]): .p7 (.a8=8->p us)
 |[_,_,_,_,_,_,_,_],_=>h ..
section
variable{P:Program}{w:World}{K:ag}{mg: .d}{base:Heap}
theorem fj.b{x g:Str}{st:Stmt}{f:Addr}{fd:FuncData}{ps: .H}(F:fj K x g st f fd)(h: .qM (.a8= .aV->bindArgs (.fk x g (ja st) (hI st) .fu .none z pm q G ct) ⟨.fg⟩= .o9):=by rw[166]):Binds K fd ps []:=F.binds h
theorem fj.az{x g:Str}{st:Stmt}{f:Addr}{fd:FuncData}{ps: .H}{k:Nat}{sp:Sp}(F:fj K x g st f fd)(N: .H)
  (a:∀{G:Value} {A:Around} {outer: .d6} {s:Shared} {vs: .s} (H:Hp) (Q:VK) (E:XK),N.Nodup->gI (e_ .x P w K mg base N g .fu f G A .a0 s H E) (λ_=>E)->cb k (A.deeper (.iZ g .fu f G))->sp vs H Q E->
   ∃t,eF (e_ .x P w K mg base N g .fu f G A .a0 s H E) (hI st) t/\t (.Cm Q) (.mn N) H)
  (S:nE N ps .fu:=by exact IX)(len: .us H Q E vs:=by intro _ _ _ _ h;repeat (first|(obtain⟨rfl,_⟩:=h;rfl)|(obtain⟨_,h⟩:=h))): .J P w K .x (k+1) f fd ps sp:=by
 obtain⟨oc,U,kV,z,pm,q,G,ct,b,rfl,d,W⟩:=F.ex
 exact NS d W S len λA outer s H vs Q E n M C=>a H Q E S.nd (Kx n) M C
end
end L2
namespace FC
open PySem PySem.Spec PyProof.Rows L2
variable{P:Program}{w:World}{K:ag}{mg: .d}{base:Heap}
def top(i:Nat):Stmt:=PySem.Challenge.pw_fractioncode_s01_answers.main.body.getD i .HE
theorem dN{X:Cx}: .ff .Mult (rI IntMulOk (.fL (i*j))):=.xJ (mul_int q B)
structure aF(K:ag)(mg: .d)(x:Str)(i:Nat) where
 f:Addr
 fd: .lX
 F:fj K x x (top i) f fd
 g:mg x= .I f
structure eV(K:ag)(mg: .d)(x qi:Str)(i:Nat)(attrs: .H) where
 c:Addr
 cl:eL K c
 g:mg x= .I c
 na:∀a∈attrs,hG K c a
 f:Addr
 fd: .lX
 F: .xs K qi (.dt i 0) f fd
 iS:Mk K c f
theorem eV.n{K:ag}{mg: .d}{x qi:Str}{i:Nat}{attrs: .H}(T:eV K mg x qi i attrs)(a:Str)(h:a∈attrs:=by decide):hG K T.c a:=T.na a h
section
variable{X:Cx}{x:Str}{i k:Nat}{ps: .H}{sp:Sp}{E:L2.St->XK}{e:Expr}{es: .bK}{t:TA}{p pos pos':Pos}{te:TE}
theorem aG(i:Nat)(u:X.N.Nodup)(g: .eB)(hi: .hj= .aa:=by rfl)(W: .vm x:=by exact Or.inl Y)(L: .rk e .Do .hd= .kh:=by rfl)(N: .oT x∨ .eC x= .bh:=by first|exact .inl Y|exact .inr Y|assumption): .yL [.Do] e (x5 te (uj i)):=UD u hi W g L N
theorem eo(i:Nat)(u:X.N.Nodup)(hi: .hj= .aa:=by rfl)(W: .vm x:=by exact Or.inl Y)(N: .oT x∨ .eC x= .bh:=by first|exact .inl Y|exact .inr Y|assumption):PG X .pf (uj i):=Ue u hi W N
theorem aJ(T:aF X.K X.mg x i)(F:ah .a6 X.w X.K X.mg .ca .o1 k T.f T.fd ps sp)(M: .h7)(W:gI X E)(N: .g7)(y: .bR:=by rfl)(S: .qM (.a8= .aV->bindArgs (.fk x x (ja (top i)) (hI (top i)) (.td i) .none z pm q G ct) ⟨.fg⟩= .o9):=by rw[166]) (d: .bu= .a:=by decide)(g: .fm= .fl:=by rfl)(l: .iG= .a:=by rfl): .kb x p (e::es) (u4 sp [] E t):=Be F M y T.g T.F.kp (.Bc T) .nil .bn N d g l
variable{qi:Str}{attrs: .H}
theorem cS(T:eV X.K X.mg x qi i attrs)(F:ah .a6 X.w X.K X.mg .ca .o1 k T.f T.fd ps sp)(M: .rL k)(W:gI X E)(N: .g7)(y: .bR:=by rfl)(S: .qM (.a8= .aV->bindArgs (.fk "__init__" qi (ja (.dt i 0)) (hI (.dt i 0)) (d4 (.dt i 0)) .none z pm q G ct) ⟨.fg⟩= .o9):=by rw[166]) (d: .bu= .a:=by decide)(g: .fm= .fl:=by rfl)(l: .iG= .a:=by rfl): .kb x p (e::es) (BY T.c sp [] E t):=mU T.iS F M y T.g (.Bc T) .nil .bn N d g l
end
section
variable{X:Cx}
theorem ao{F:Expr}{t1:TE}(a1: .s5 F)(U: .bt F= .kc (.a,.Y F):=by rfl): .cm [F] (cN t1 f9):=(cu a1 dO U)
theorem bj{F D:Expr}{t1 t2:TE}(a1: .s5 F)(a2: .A D t2)(U: .b1 [F,D]=(.a,.Y F):: .bt D:=by rfl)(B: .bt D= .kc (.a,.Y D):=by rfl): .cm [F,D] (.hB t1 t2 f9):=(cu a1 (cu a2 dO B) U)
theorem cG{F D s:Expr}{t1 t2 d:TE}(a1: .s5 F)(a2: .A D t2)(a3: .A s d)(U: .b1 [F,D,s]= .da (.a,.Y F) [D,s]:=by rfl)(B: .b1 [D,s]=(.a,.Y D):: .bt s:=by rfl)(C: .bt s= .kc (.a,.Y s):=by rfl): .cm [F,D,s] (cN t1 (.hB t2 d f9)):=(cu a1 (cu a2 (cu a3 dO C) B) U)
theorem kD{F D s v:Expr}{t1 t2 d y:TE}(a1: .s5 F)(a2: .A D t2)(a3: .A s d)(a4: .A v y)(U: .b1 [F,D,s,v]= .da (.a,.Y F) [D,s,v]:=by rfl)(B: .b1 [D,s,v]= .da (.a,.Y D) [s,v]:=by rfl)(C: .b1 [s,v]=(.a,.Y s):: .bt v:=by rfl)(A: .bt v= .kc (.a,.Y v):=by rfl): .cm [F,D,s,v] (.hB t1 t2 (.hB d y f9)):=(cu a1 (cu a2 (cu a3 (cu a4 dO A) C) B) U)
theorem oZ{F D s v S:Expr}{t1 t2 d y b:TE}(a1: .s5 F)(a2: .A D t2)(a3: .A s d)(a4: .A v y)(a5: .A S b)(U: .b1 [F,D,s,v,S]= .da (.a,.Y F) [D,s,v,S]:=by rfl)(B: .b1 [D,s,v,S]= .da (.a,.Y D) [s,v,S]:=by rfl)(C: .b1 [s,v,S]= .da (.a,.Y s) [v,S]:=by rfl)(A: .b1 [v,S]=(.a,.Y v):: .bt S:=by rfl)(a: .bt S= .kc (.a,.Y S):=by rfl): .cm [F,D,s,v,S] (cN t1 (.hB t2 d (.hB y b f9))):=(cu a1 (cu a2 (cu a3 (cu a4 (cu a5 dO a) A) C) B) U)
theorem uM{F D s v S u:Expr}{t1 t2 d y b f:TE}(a1: .s5 F)(a2: .A D t2)(a3: .A s d)(a4: .A v y)(a5: .A S b)(a6: .A u f)(U: .b1 [F,D,s,v,S,u]= .da (.a,.Y F) [D,s,v,S,u]:=by rfl)(B: .b1 [D,s,v,S,u]= .da (.a,.Y D) [s,v,S,u]:=by rfl)(C: .b1 [s,v,S,u]= .da (.a,.Y s) [v,S,u]:=by rfl)(A: .b1 [v,S,u]= .da (.a,.Y v) [S,u]:=by rfl)(a: .b1 [S,u]=(.a,.Y S):: .bt u:=by rfl)(c: .bt u= .kc (.a,.Y u):=by rfl): .cm [F,D,s,v,S,u] (.hB t1 t2 (.hB d y (.hB b f f9))):=(cu a1 (cu a2 (cu a3 (cu a4 (cu a5 (cu a6 dO c) a) A) C) B) U)
theorem HM{F D s v S u a:Expr}{t1 t2 d y b f g:TE}(a1: .s5 F)(a2: .A D t2)(a3: .A s d)(a4: .A v y)(a5: .A S b)(a6: .A u f)(a7: .A a g)(U: .b1 [F,D,s,v,S,u,a]= .da (.a,.Y F) [D,s,v,S,u,a]:=by rfl)(B: .b1 [D,s,v,S,u,a]= .da (.a,.Y D) [s,v,S,u,a]:=by rfl)(C: .b1 [s,v,S,u,a]= .da (.a,.Y s) [v,S,u,a]:=by rfl)(A: .b1 [v,S,u,a]= .da (.a,.Y v) [S,u,a]:=by rfl)(h: .b1 [S,u,a]= .da (.a,.Y S) [u,a]:=by rfl)(c: .b1 [u,a]=(.a,.Y u):: .bt a:=by rfl)(R: .bt a= .kc (.a,.Y a):=by rfl): .cm [F,D,s,v,S,u,a] (cN t1 (.hB t2 d (.hB y b (.hB f g f9)))):=(cu a1 (cu a2 (cu a3 (cu a4 (cu a5 (cu a6 (cu a7 dO R) c) h) A) C) B) U)
end
def ae(H H':Hp):Prop:=.t2 b (.dg= .l)
theorem ae.refl(H:Hp): .aB H:=.Gc
theorem ae.trans{H m d:Hp}(a: .aB m)(b:ae m d): .aB d:=λc o h=>b c o (a c o h)
theorem ae.upd{H H':Hp}(e: .R){a:Addr}{o:HO}(h:H' a=none): .aB (upd H' a o):=λb o' S=>.dS (e b o' S) h (e b o' S)
end FC
namespace L2
open PySem PySem.Spec PyProof.Rows
def KD(K:ag)(P:Program)(w:World)(a:Addr)(F: .xr V):Prop:=(.BH a)= .a/\∃vs,KV F vs/\∀h:Heap,.d0->h.DictOf (ku P w) a vs
section
variable{X:Cx}{o i:Expr}{pos:Pos}{td ty:TE}
def X3(X:Cx)(td ty:TE):TE:=fun σ H Q=>td σ H λx m=>ty σ m λy b=>∃a F k v,x= .B/\KD X.K .a6 X.w a F/\y=kV k/\kP F k= .aQ/\Q v b
def X4(X:Cx)(ty td:TE):TE:=fun σ H Q=>ty σ H λy m=>td σ m λx b=>∃a F k,x= .B/\KD X.K .a6 X.w a F/\y=kV k/\ .ni (kP F k).isSome b
theorem xA(d: .A o td)(hi: .A i ty)(L:Du i:=by exactλ_ _=>rfl): .A (.u5 o i) (X3 X td ty):=by rw[34,XR PySem.F.slot_dict_getitem.lookup L (aE (d pins s σ H _ I h) λu U ⟨x,m,n,M,R⟩=>aE (hi pins U σ m _ n R) λiv B ⟨y,c,W,F,a,g,k,v,ex,⟨hd,vs,rel,all⟩,p,l,j⟩=> ?_)];subst ex p;obtain rfl: .hH u a:=M;have G:=all _ W.bT;obtain⟨N,f,b⟩:=.Gr v (.xK vs) l (rel.val k);exact⟨G.typeIs,wpAny_getItem_of (FZ F) G.mapOf f ⟨v,c,.xH W,b,j⟩⟩
theorem HS(hi: .A i ty)(d: .A o td):PC X .In i o (X4 X ty td):=by rw[34,aE (hi pins s σ H _ I h) λiv U ⟨y,m,n,F,R⟩=>aE (d pins U σ m _ n R) λu B ⟨x,c,W,M,a,b,k,ex,⟨hd,vs,rel,all⟩,p,L⟩=> ?_];subst ex p;obtain rfl: .hH u a:=M;have G:=all _ W.bT;rw[117,wpAny_in_of (FZ F) hd G.mapOf ?_,(rel.val k).Pb,⟨.bl (kP b k).isSome,c,.xH W,Y,L⟩]
end
section
variable{X:Cx}{o e:Expr}{es: .bK}{pos:Pos}{to:TE}{t:TA}{E:St->XK}
def XW(X:Cx)(E:St->XK)(to:TE)(t:TA):TE:=fun σ H Q=>to σ H (λx m=>∃f fd ps sp k,x= .ai/\ah .a6 X.w X.K X.mg .ca .o1 k f fd ps sp/\ .h7/\ .me X.K/\ .sw []/\t σ m λvs a=>sp vs a Q (E σ))
theorem xx(W:Passes .o1 X E)(d: .ov o)(N: .g7)
  (a: .Y (.Call o (e::es) [] pos)=(do callWith pos (<-eval o X.env) [] (backTo pos (starEach (e::es) X.env)) (backToKw pos (keywordEach [] X.env))):=by rfl)
  (g: .fm= .fl:=by rfl)(l: .iG= .a:=by rfl):
  .A (.Call o (e::es) [] pos) (XW X E to t):=by
 intro pins s σ H Q I h
 rw[218,a,aE (d pins s σ H _ I h) λu U ⟨x,m,n,c,f,fd,ps,sp,k,ex,F,M,G,S,q⟩=> ?_]
 subst ex
 obtain rfl: .hH u f:=c
 rw[2,.u4 I G (aE (N pos pins U σ m _ n q) λus B ⟨vs,j,b,r,L⟩=>⟨b.bT,?_⟩) g l,rk (dvs:=[]) (ds:=[]) F M S .nil W b r (by rw[cC];exact L)]
end
end L2
namespace FC
open PySem PySem.Spec PyProof.Rows L2
variable{P:Program}{w:World}{K:ag}{mg: .d}{base:Heap}
theorem cO{H:Hp}{a:Addr}{o o':HO}:upd (.es a) a o'=upd H a o':=by
 funext b;rw[52,b,a]
 ·subst h;rw[aB,aB]
 ·rw[aC h,aC h,aC h]
abbrev vw(K:ag)(mg: .d):=eV K mg "Instruction" "Instruction.__init__" 4 ["word","number","value"]
def iA(v0:V)(v1:V)(f:V): .c6:=aO "value" f (aO "number" v1 (aO "word" v0 []))
def BM(C:Addr):Sp:=.Bh (vs=[.aK,v0,v1,f]/\H p= .iK/\ .iJ (iA v0 v1 f))
theorem xm(T:vw K mg): .h8 ["self","word","number","value"] (BM T.c):=by rw[217,.iI ["self","word","number","value"] .f];rw[167,⟨_,.f7 .e .p .a3,?_⟩,⟨.ek,T.c,.bF,hp,T.cl,T.n _,.dV (0<1000)⟩,⟨.m1 _⟩,⟨.og _⟩,cO,cO,q]
abbrev yx(K:ag)(mg: .d):=eV K mg "Block" "Block.__init__" 5 ["made_with","itself","instructions"]
def j0(v0:V)(v1:V)(f:V): .c6:=.G9 f (aO "itself" v1 (aO "made_with" v0 []))
def BJ(C:Addr):Sp:=.Bh (vs=[.aK,v0,v1,f]/\H p= .iK/\ .iJ (j0 v0 v1 f))
theorem Rl(T:yx K mg): .h8 ["self","made_with","itself","instructions"] (BJ T.c):=by rw[217,.iI ["self","made_with","itself","instructions"] .f];rw[167,⟨_,.f7 .e .p .a3,?_⟩,⟨.ek,T.c,.bF,hp,T.cl,T.n _,.dV (0<1000)⟩,⟨.m1 _⟩,⟨.og _⟩,cO,cO,q]
abbrev zy(K:ag)(mg: .d):=eV K mg "Number" "Number.__init__" 32 ["kind","top","bottom","weight"]
def jE(v0:V)(v1:V)(f:V): .c6:=aO "weight" f (aO "bottom" v1 (aO "top" v0 (.xt "number" [])))
def Jw(C:Addr):Sp:=.Bh (vs=[.aK,v0,v1,f]/\H p= .iK/\ .iJ (jE v0 v1 f))
theorem ji(T:zy K mg): .h8 ["self","top","bottom","weight"] (Jw T.c):=by rw[217,.iI ["self","top","bottom","weight"] .f];rw[68,⟨_,.pv bq (.f7 .e .p .a3),?_⟩,⟨.od _⟩,⟨.m1 _⟩,⟨.og _⟩,⟨.Bg _⟩];rw[80,cO,cO,cO,q]
abbrev wc(K:ag)(mg: .d):=eV K mg "Truth" "Truth.__init__" 33 ["kind","holds"]
def iM(v0:V): .c6:=aO "holds" v0 (.xt "truth" [])
def Jy(C:Addr):Sp:=λvs H Q _=>∃(p G:Addr) (v0:V),vs=[.aK,v0]/\H p= .iK/\ .iJ (iM v0)
theorem uJ(T:wc K mg): .h8 ["self","holds"] (Jy T.c):=by refine .iI ["self","holds"] .f;obtain⟨p,G,v0,rfl,hp,q⟩:=h;rw[6,⟨_,.wK bq .e,?_⟩,⟨.od _⟩,⟨.m1 _⟩];rw[1,cO,q]
abbrev vj(K:ag)(mg: .d):=eV K mg "Chain" "Chain.__init__" 34 ["kind","size","first","others"]
def dF(v0:V)(v1:V)(f:V): .c6:=aO "others" f (aO "first" v1 (aO "size" v0 (.xt "list" [])))
def Jq(C:Addr):Sp:=.Bh (vs=[.aK,v0,v1,f]/\H p= .iK/\ .iJ (dF v0 v1 f))
theorem Ha(T:vj K mg): .h8 ["self","size","first","others"] (Jq T.c):=by rw[217,.iI ["self","size","first","others"] .f];rw[68,⟨_,.pv bq (.f7 .e .p .a3),?_⟩,⟨.od _⟩,⟨.m1 _⟩,⟨.og _⟩,⟨.Bg _⟩];rw[80,cO,cO,cO,q]
abbrev zE(K:ag)(mg: .d):=eV K mg "Pair" "Pair.__init__" 35 ["kind","first","second"]
def iI(v0:V)(v1:V): .c6:=aO "second" v1 (aO "first" v0 (.xt "pair" []))
def Jx(C:Addr):Sp:=λvs H Q _=>∃(p G:Addr) (v0 v1:V),vs=[.aK,v0,v1]/\H p= .iK/\ .iJ (iI v0 v1)
theorem Hg(T:zE K mg): .h8 ["self","first","second"] (Jx T.c):=by refine .iI ["self","first","second"] .f;obtain⟨p,G,v0,v1,rfl,hp,q⟩:=h;rw[167,⟨_,.f7 bq .e .p,?_⟩,⟨.od _⟩,⟨.m1 _⟩,⟨.og _⟩,cO,cO,q]
abbrev yR(K:ag)(mg: .d):=eV K mg "Function" "Function.__init__" 36 ["kind","block","kept"]
def jy(v0:V)(v1:V): .c6:=aO "kept" v1 (aO "block" v0 (.xt "function" []))
def Jv(C:Addr):Sp:=λvs H Q _=>∃(p G:Addr) (v0 v1:V),vs=[.aK,v0,v1]/\H p= .iK/\ .iJ (jy v0 v1)
theorem Rn(T:yR K mg): .h8 ["self","block","kept"] (Jv T.c):=by refine .iI ["self","block","kept"] .f;obtain⟨p,G,v0,v1,rfl,hp,q⟩:=h;rw[167,⟨_,.f7 bq .e .p,?_⟩,⟨.od _⟩,⟨.m1 _⟩,⟨.og _⟩,cO,cO,q]
abbrev yr(K:ag)(mg: .d):=eV K mg "BlockFrame" "BlockFrame.__init__" 119 ["folds","block","at","row","places","depth","below"]
def du(v0:V)(v1:V)(f:V)(S:V)(v4:V)(g:V): .c6:=aO "below" g (aO "depth" v4 (aO "places" S (aO "row" f (aO "at" v1 (aO "block" v0 (aO "folds" (V.bl .a) []))))))
def Jp(C:Addr):Sp:=λvs H Q _=>∃(p G:Addr) (v0 v1 f S v4 g:V),vs=[.aK,v0,v1,f,S,v4,g]/\H p= .iK/\ .iJ (.m0 f S g)
theorem AV(T:yr K mg): .h8 ["self","block","at","row","places","depth","below"] (Jp T.c):=by refine .iI ["self","block","at","row","places","depth","below"] .f;obtain⟨p,G,v0,v1,f,S,v4,g,rfl,hp,q⟩:=h;rw[20,⟨_,.gC iV .e (.gC .p .a3 (.f7 .aF (pv 5) (pv 6))),?_⟩,⟨.od _⟩,⟨.m1 _⟩,⟨.og _⟩];rw[20,⟨.Bg _⟩,⟨.nd _ (4<1000)⟩,⟨.nd _ (5<1000)⟩,⟨.nd _ (6<1000)⟩];rw[cO,cO,cO,cO,cO,cO];exact q
abbrev yM(K:ag)(mg: .d):=eV K mg "FoldFrame" "FoldFrame.__init__" 120 ["folds","f","coming","level","depth","hand","held","below"]
def ez(v0:V)(v1:V)(f:V)(S:V)(v4:V)(g:V)(v6:V): .c6:=aO "below" v6 (aO "held" g (aO "hand" v4 (aO "depth" S (aO "level" f (aO "coming" v1 (aO "f" v0 (aO "folds" (V.bl true) [])))))))
def Ju(C:Addr):Sp:=λvs H Q _=>∃(p G:Addr) (v0 v1 f S v4 g v6:V),vs=[.aK,v0,v1,f,S,v4,g,v6]/\H p= .iK/\ .iJ (ez v0 v1 f S v4 g v6)
theorem Hc(T:yM K mg): .h8 ["self","f","coming","level","depth","hand","held","below"] (Ju T.c):=by refine .iI ["self","f","coming","level","depth","hand","held","below"] .f;obtain⟨p,G,v0,v1,f,S,v4,g,v6,rfl,hp,q⟩:=h;rw[267,⟨_,.pv iV (.gC .e .p (.gC .a3 .aF (.f7 (pv 5) (pv 6) (pv 7)))),?_⟩,⟨.od _⟩,⟨.m1 _⟩,⟨.og _⟩,⟨.Bg _⟩,⟨.nd _ (4<1000)⟩,⟨.nd _ (5<1000)⟩,⟨.nd _ (6<1000)⟩,⟨.nd _ (7<1000)⟩];rw[cO,cO,cO,cO,cO,cO,cO];exact q
abbrev CK(K:ag)(mg: .d):=eV K mg "Held" "Held.__init__" 180 ["blocks","checked","run"]
def KU: .c6:=aO "run" V.au (.G8 (V.bl .a) (.tJ V.au []))
def Wm(C:Addr):Sp:=λvs H Q _=>∃(p G:Addr),vs= .iL/\H p= .iK/\ .iJ KU
theorem Hd(T:CK K mg): .h8 ["self"] (Wm T.c):=by refine .oe T .f;obtain⟨p,G,rfl,hp,q⟩:=h;rw[167,⟨_,.f7 f7 iV f7,?_⟩,⟨.od _⟩,⟨.cn,T.c,.bF,aB,T.cl,T.n _,.lf⟩,⟨.cn,T.c,.bF,aB,T.cl,T.n _,.dV (2<1000)⟩,cO,cO,q]
abbrev Cs(K:ag)(mg: .d):=eV K mg "Calls" "Calls.__init__" 181 ["numbers","at"]
def KL(v0:V): .c6:=aO "at" (V.int 0) (aO "numbers" v0 [])
def V0(C:Addr):Sp:=λvs H Q _=>∃(p G:Addr) (v0:V),vs=[.aK,v0]/\H p= .iK/\ .iJ (KL v0)
theorem Rm(T:Cs K mg): .h8 ["self","numbers"] (V0 T.c):=by refine .iI ["self","numbers"] .f;obtain⟨p,G,v0,rfl,hp,q⟩:=h;rw[6,⟨_,.wK .e aq,?_⟩,⟨.ek,T.c,.bF,hp,T.cl,T.n _,.dV (0<1000)⟩,⟨.cn,T.c,.bF,aB,T.cl,T.n _,.lf⟩];rw[1,cO,q]
theorem a_{v0:V}{v1:V}{f:V}: .qO (iA v0 v1 f) ("word":Str):=by unfold iA;rw[aH,.n,aH,.n,aH,.M]
theorem dS{v0:V}{v1:V}{f:V}: .O (iA v0 v1 f) ("number":Str) v1:=by unfold iA;rw[aH,.n,aH,.M]
theorem yV{v0:V}{v1:V}{f:V}: .O (iA v0 v1 f) ("value":Str) f:=by unfold iA;rw[aH,.M]
theorem Qw{T:vw K mg}{H:Hp}{v0:V}{v1:V}{f:V}{Q:VK}{E:XK}(h: .cB (.b4= .qN (iA v0 v1 f))):
  ∀x G,H x=none->H G=none->G≠x->BM T.c (.a4::([v0,v1,f]++[])) (.lZ G x x G) (λu X=>u= .au/\ .iH X) E:=λx G nx nd ne=>by
 rw[87,⟨x,G,.cS,aB,Y,h _ x G .lY aB⟩,q≠x,e,e,e]
theorem rF{v0:V}{v1:V}{f:V}: .qO (j0 v0 v1 f) ("made_with":Str):=by unfold j0;rw[aH,.n,aH,.n,aH,.M]
theorem yy{v0:V}{v1:V}{f:V}: .O (j0 v0 v1 f) ("itself":Str) v1:=by unfold j0;rw[aH,.n,aH,.M]
theorem vh{v0:V}{v1:V}{f:V}: .O (j0 v0 v1 f) ("instructions":Str) f:=by unfold j0;rw[aH,.M]
theorem Qs{T:yx K mg}{H:Hp}{v0:V}{v1:V}{f:V}{Q:VK}{E:XK}(h: .cB (.b4= .qN (j0 v0 v1 f))):
  ∀x G,H x=none->H G=none->G≠x->BJ T.c (.a4::([v0,v1,f]++[])) (.lZ G x x G) (λu X=>u= .au/\ .iH X) E:=λx G nx nd ne=>by
 rw[87,⟨x,G,.cS,aB,Y,h _ x G .lY aB⟩,q≠x,e,e,e]
theorem LZ{v0:V}: .Bf (iM v0) "truth":=by unfold iM;rw[aH,.n,aH,.M]
theorem D6{v0:V}: .qO (iM v0) ("holds":Str):=by unfold iM;rw[aH,.M]
theorem wZ{T:wc K mg}{H:Hp}{v0:V}{Q:VK}{E:XK}(h: .cB (.b4= .qN (iM v0))):
  ∀x G,H x=none->H G=none->G≠x->Jy T.c (.a4::([v0]++[])) (.lZ G x x G) (λu X=>u= .au/\ .iH X) E:=λx G nx nd ne=>by
 rw[87,⟨x,.bF,aB,Y,h _ x G .lY aB⟩,q≠x,e,e,e]
theorem Cu{v0:V}{v1:V}{f:V}: .Bf (dF v0 v1 f) "list":=by unfold dF;rw[aH,.n,aH,.n,aH,.n,aH,.M]
theorem nB{v0:V}{v1:V}{f:V}: .qO (dF v0 v1 f) ("size":Str):=by unfold dF;rw[aH,.n,aH,.n,aH,.M]
theorem yE{v0:V}{v1:V}{f:V}: .O (dF v0 v1 f) ("first":Str) v1:=by unfold dF;rw[aH,.n,aH,.M]
theorem yF{v0:V}{v1:V}{f:V}: .O (dF v0 v1 f) ("others":Str) f:=by unfold dF;rw[aH,.M]
theorem GJ{T:vj K mg}{H:Hp}{v0:V}{v1:V}{f:V}{Q:VK}{E:XK}(h: .cB (.b4= .le T.c v0 v1 f)):
  ∀x G,H x=none->H G=none->G≠x->Jq T.c (.a4::([v0,v1,f]++[])) (.lZ G x x G) (λu X=>u= .au/\ .iH X) E:=λx G nx nd ne=>by
 rw[87,⟨x,G,.cS,aB,Y,h _ x G .lY aB⟩,q≠x,e,e,e]
theorem Lw{v0:V}{v1:V}: .Bf (iI v0 v1) "pair":=by unfold iI;rw[aH,.n,aH,.n,aH,.M]
theorem DD{v0:V}{v1:V}: .qO (iI v0 v1) ("first":Str):=by unfold iI;rw[aH,.n,aH,.M]
theorem DE{v0:V}{v1:V}: .O (iI v0 v1) ("second":Str) v1:=by unfold iI;rw[aH,.M]
theorem Qx{T:zE K mg}{H:Hp}{v0:V}{v1:V}{Q:VK}{E:XK}(h: .cB (.b4= .qN (iI v0 v1))):
  ∀x G,H x=none->H G=none->G≠x->Jx T.c (.a4::([v0,v1]++[])) (.lZ G x x G) (λu X=>u= .au/\ .iH X) E:=λx G nx nd ne=>by
 rw[87,⟨x,G,.h,aB,Y,h _ x G .lY aB⟩,q≠x,e,e,e]
theorem KR{v0:V}{v1:V}: .Bf (jy v0 v1) "function":=by unfold jy;rw[aH,.n,aH,.n,aH,.M]
theorem CI{v0:V}{v1:V}: .qO (jy v0 v1) ("block":Str):=by unfold jy;rw[aH,.n,aH,.M]
theorem KQ{v0:V}{v1:V}: .O (jy v0 v1) ("kept":Str) v1:=by unfold jy;rw[aH,.M]
theorem Qv{T:yR K mg}{H:Hp}{v0:V}{v1:V}{Q:VK}{E:XK}(h: .cB (.b4= .qN (jy v0 v1))):
  ∀x G,H x=none->H G=none->G≠x->Jv T.c (.a4::([v0,v1]++[])) (.lZ G x x G) (λu X=>u= .au/\ .iH X) E:=λx G nx nd ne=>by
 rw[87,⟨x,G,.h,aB,Y,h _ x G .lY aB⟩,q≠x,e,e,e]
theorem yw{v0:V}{v1:V}{f:V}{S:V}{v4:V}{g:V}: .EQ (.m0 f S g) (V.bl .a):=by unfold du;rw[aH,.n,aH,.n,aH,.n,aH,.n,aH,.n,aH,.n,aH,.M]
theorem yu{v0:V}{v1:V}{f:V}{S:V}{v4:V}{g:V}: .qO (.m0 f S g) ("block":Str):=by unfold du;rw[aH,.n,aH,.n,aH,.n,aH,.n,aH,.n,aH,.M]
theorem iu{v0:V}{v1:V}{f:V}{S:V}{v4:V}{g:V}: .EZ (.m0 f S g) v1:=by unfold du;rw[aH,.n,aH,.n,aH,.n,aH,.n,aH,.M]
theorem pK{v0:V}{v1:V}{f:V}{S:V}{v4:V}{g:V}: .O (.m0 f S g) ("row":Str) f:=by unfold du;rw[aH,.n,aH,.n,aH,.n,aH,.M]
theorem gD{v0:V}{v1:V}{f:V}{S:V}{v4:V}{g:V}: .O (.m0 f S g) ("places":Str) S:=by unfold du;rw[aH,.n,aH,.n,aH,.M]
theorem vg{v0:V}{v1:V}{f:V}{S:V}{v4:V}{g:V}: .EI (.m0 f S g) v4:=by unfold du;rw[aH,.n,aH,.M]
theorem yt{v0:V}{v1:V}{f:V}{S:V}{v4:V}{g:V}: .O (.m0 f S g) ("below":Str) g:=by unfold du;rw[aH,.M]
theorem Qt{T:yr K mg}{H:Hp}{v0:V}{v1:V}{f:V}{S:V}{v4:V}{g:V}{Q:VK}{E:XK}(h: .cB (.b4= .qN (.m0 f S g))):
  ∀x G,H x=none->H G=none->G≠x->Jp T.c (.a4::([v0,v1,f,S,v4,g]++[])) (.lZ G x x G) (λu X=>u= .au/\ .iH X) E:=λx G nx nd ne=>by
 rw[87,⟨x,G,_,.cK,aB,Y,h _ x G .lY aB⟩,q≠x,e,e,e]
theorem yP{v0:V}{v1:V}{f:V}{S:V}{v4:V}{g:V}{v6:V}: .EQ (ez v0 v1 f S v4 g v6) (V.bl true):=by unfold ez;rw[aH,.n,aH,.n,aH,.n,aH,.n,aH,.n,aH,.n,aH,.n,aH,.M]
theorem CH{v0:V}{v1:V}{f:V}{S:V}{v4:V}{g:V}{v6:V}: .O (ez v0 v1 f S v4 g v6) ("f":Str) v0:=by unfold ez;rw[aH,.n,aH,.n,aH,.n,aH,.n,aH,.n,aH,.n,aH,.M]
theorem kR{v0:V}{v1:V}{f:V}{S:V}{v4:V}{g:V}{v6:V}: .O (ez v0 v1 f S v4 g v6) ("coming":Str) v1:=by unfold ez;rw[aH,.n,aH,.n,aH,.n,aH,.n,aH,.n,aH,.M]
theorem vo{v0:V}{v1:V}{f:V}{S:V}{v4:V}{g:V}{v6:V}: .O (ez v0 v1 f S v4 g v6) ("level":Str) f:=by unfold ez;rw[aH,.n,aH,.n,aH,.n,aH,.n,aH,.M]
theorem yO{v0:V}{v1:V}{f:V}{S:V}{v4:V}{g:V}{v6:V}: .EI (ez v0 v1 f S v4 g v6) S:=by unfold ez;rw[aH,.n,aH,.n,aH,.n,aH,.M]
theorem yQ{v0:V}{v1:V}{f:V}{S:V}{v4:V}{g:V}{v6:V}: .O (ez v0 v1 f S v4 g v6) ("hand":Str) v4:=by unfold ez;rw[aH,.n,aH,.n,aH,.M]
theorem rN{v0:V}{v1:V}{f:V}{S:V}{v4:V}{g:V}{v6:V}: .O (ez v0 v1 f S v4 g v6) ("held":Str) g:=by unfold ez;rw[aH,.n,aH,.M]
theorem yN{v0:V}{v1:V}{f:V}{S:V}{v4:V}{g:V}{v6:V}: .O (ez v0 v1 f S v4 g v6) ("below":Str) v6:=by unfold ez;rw[aH,.M]
theorem Qu{T:yM K mg}{H:Hp}{v0:V}{v1:V}{f:V}{S:V}{v4:V}{g:V}{v6:V}{Q:VK}{E:XK}(h: .cB (.b4= .qN (ez v0 v1 f S v4 g v6))):
  ∀x G,H x=none->H G=none->G≠x->Ju T.c (.a4::([v0,v1,f,S,v4,g,v6]++[])) (.lZ G x x G) (λu X=>u= .au/\ .iH X) E:=λx G nx nd ne=>by
 rw[87,⟨x,G,_,_,.cK,aB,Y,h _ x G .lY aB⟩,q≠x,e,e,e]
structure sJ(K:ag)(mg: .d) where
 chain:vj K mg
 empty:aF K mg "empty_chain" 37
 longer:aF K mg "longer_chain" 38
 of:aF K mg "chain_of" 39
 values:aF K mg "chain_values" 40
 Oj:mg "reversed"=none
def V9(C:Addr):Sp:=λvs H Q _=>vs=[]/\ .cB (.b4= .le C .aX .au .au)
theorem Ho(T:sJ K mg): .et T.empty.f T.empty.fd [] (V9 T.chain.c):=by refine T.empty.F.az [] .f;obtain⟨rfl,q⟩:=h;exact⟨_,.dz (cS T.chain (Ha T.chain) M W (cG aq f7 f7)),GJ q⟩
def Ww(C:Addr):Sp:=λvs H Q _=>∃(f:V) (o fV:Addr) (n:Int) (g r:V),vs=[f,.ns]/\H o= .pw fV (dF .br g r)/\ .cB (.b4= .le C (.int (n+1)) f .ns)
theorem Hx(T:sJ K mg): .et T.longer.f T.longer.fd ["first","others"] (Ww T.chain.c):=by refine T.longer.F.az ["first","others"] .f;obtain⟨f,o,d,n,g,r,rfl,a,q⟩:=h;rw[2,⟨.ax (cS T.chain (Ha T.chain) M W (cG .ny .F .e))⟩,⟨_,Y,o,_,d,.h,a,T.chain.cl,T.chain.n "size",nB,.tz,GJ q⟩]
def hC(C:Addr)(H:Hp): .bk .s Addr
 |[],a=>∃G,H a= .le C .aX .au .au
 |v::vs,a=>∃G o,H a= .le C (.a5 (.aG vs)) v .ns/\hC C H vs o
theorem hC.same{C:Addr}{H H':Hp}(s: .R): .G7 (hC C H vs a->hC C H' vs a)
 |[],_,⟨G,h⟩=>⟨G,s _ _ h⟩
 |_::_,_,⟨G,o,h,k⟩=>⟨G,o,s _ _ h,hC.same s k⟩
theorem hC.size{C:Addr}{H:Hp}: .G7 (hC C H vs a->∃G f o,H a= .le C (.int .qr) f o)
 |[],_,⟨G,h⟩=>⟨G,_,_,h⟩
 |_::_,_,⟨G,o,h,_⟩=>⟨G,_,_,h⟩
theorem hC.upd{C l:Addr}{H:Hp}{d: .s}{o':HO}(R:H l= .a7 d): .G7 (hC C H vs a->hC C (L2.upd H l o') vs a)
 |[],_,⟨G,h⟩=>⟨G,.bp (.al h R) h⟩
 |_::_,_,⟨G,o,h,k⟩=>⟨G,o,.bp (.al h R) h,hC.upd R k⟩
def Xg(C:Addr):Sp:=.G6 .s (vs= .cW/\hC C H us a/\ .a8< .W/\ .ij (.c2= .fY-> .dI))
set_option profiler true in
theorem S4(T:sJ K mg):ah P w K mg base (ai P w) 3 T.values.f T.values.fd ["chain"] (Xg T.chain.c):=by
 refine T.values.F.az ["chain","values"] λH Q E nd W M h=> ?_;obtain⟨a,us,rfl,B,A,q⟩:=h;have cl:=T.chain.cl;have ns:=T.chain.n "size";have g:=T.chain.n "first";have no:=T.chain.n "others";refine⟨_,Z (aG 1 nd (bF dO)) (Z (mZ ef (aU ic (J (pv 0)) aq) (Z (bb (fA eY iJ iK ib (pv 1) (ao (J (pv 0))))) (O (aG 0 nd (J (pv 0)))))) (O (aA (pv 1)))),?_⟩;refine⟨bO _,λl R=> ?_⟩;have L:ae H (upd H l (.lst [])):=(ae.refl H).upd R;refine YS (fun σ H'=>∃(c:Addr) (done rest:List V),σ=[some (.ref c),some (.ref l)]/\ae H H'/\H' l=some (.lst done)/\done++rest=us/\hC T.chain.c H' rest c) (fun σ H'=>match H' l with|some (.lst d)=>us.length-d.length|_=>0) ⟨a,[],us,Y,L,aB,Y,B.same L⟩ ?_ ?_
 ·rintro σ H' ⟨c,done,rest,rfl,U,hd,e,ch⟩;obtain⟨G,f,o,k⟩:=ch.size;refine⟨_,Y,c,_,G,_,_,Y,k,cl,ns,nB,_,_,Y,Y,_,Y,?_⟩
  cases rest with
  |nil=>rw[cC]at e;subst e;exact aj ⟨_,Y,q H' l U hd⟩
  |cons v rest=>
   obtain⟨m,C,h2,n⟩:=ch;have I:(decide ((0:Int)<((v::rest).length:Nat)))=true:=by rw[cR,bp];omega
   rw[af I];have hlt:done.length<us.length:=by rw[<-e,bL,bp];omega
   refine⟨_,Y,.inl ⟨Y,_,ay.of hd⟩,_,Y,c,_,m,_,_,Y,h2,cl,g,yE,l,_,_,Y,Y,hd,by omega,?_⟩;have ne:c≠l:=bx h2 hd (by intro z;cases z);have N:∀{b o},H' b=some o->b≠l->(upd H' l (.lst (done++[v]))) b=some o:=λ{b o} S hn=>by rw[aC hn];exact S
   refine⟨_,Y,c,_,m,_,_,Y,N h2 ne,cl,no,yF,?_⟩;refine⟨⟨C,done++[v],rest,Y,λb o S=> ?_,aB,by rw[d8];exact e,?_⟩,?_⟩
   ·exact N (U b o S) (aN S R)
   ·exact n.upd hd
   ·show(match upd H' l (.lst (done++[v])) l with|some (.lst d)=>us.length-d.length|_=>0)<(match H' l with|some (.lst d)=>us.length-d.length|_=>0);rw[aB,hd];show us.length-(done++[v]).length<us.length-done.length;rw[bL];show us.length-(done.length+1)<us.length-done.length;omega
 ·rintro σ H' x r hm ⟨x1,F,a1,t,d1,f1,v1,z1,z2,p,u,X,i,j,D,s,z⟩;exact⟨x1,F,a1,t,d1,f1,v1,z1,z2,p,u,X,i,j,D,s,z.imp λ_ y=>⟨y.1,hm _ _ y.2⟩⟩
structure dW(K:ag)(mg: .d) where
 c:Addr
 f:Addr
 fd: .lX
 F: .xs K "Refused.__init__" (.dt 23 0) f fd
 g:mg "Refused"= .I c
 cf:yG K c "__init__" f
 ex:mg "Exception"=none
theorem dW.b(T: .bS):Binds K T.fd ["self","number"] []:=T.F.binds λ_ _ _ _ _ _ us R=>match us,R with|[_,_],_=>rfl
def WU(K:ag):Sp:=λvs H Q _=>∃(x C:Addr) (fr:Bool) (n:Int),vs=[.a4,.br]/\H x= .nT x none fr/\jG K C/\ .Bj K C/\∀G,H G=none->G≠x-> .ea (upd (upd H x (xo x .w .nS fr)) G (.xd (.Ga .br)))
theorem oU(T: .bS): .h8 ["self","number"] (WU K):=by
 refine .iI ["self","number"] .f;obtain⟨x,C,fr,n,rfl,hp,b,a,q⟩:=h;rw[6,⟨_,Z (bb (HY Y T.ex (.bz 0))) (O (Iq Y .F .e Y)),?_⟩,⟨.fb,C,none,fr,Y,hp,b,?_⟩,⟨.j,x,C,fr,Y,aB,a,λG hd=> ?_⟩];rw[cO];rw[158,G≠x,(by rw[z,aB]at hd;cases hd)]
 rw[aC f]at hd;exact q G hd f
structure kX(K:ag)(mg: .d)(R: .bS)(x qi:Str)(i:Nat) where
 c:Addr
 f:Addr
 fd: .lX
 F: .xs K qi (.dt i 0) f fd
 g:mg x= .I c
 fe:nS K c f
 at_: .Bj K c
 ca: .kd .bQ R.c
def DP(R: .bS)(n:Int):XK:=λcls G H=>∃C d,cls= .w/\ .kd cls R.c/\ .Bj K C/\G=some d/\H d=some (.xd (.Ga .br))
def m_(K:ag)(n:Int):Sp:=λvs H Q _=>∃(x C:Addr) (fr:Bool),vs=[.a4]/\H x= .nT x none fr/\jG K C/\ .Bj K C/\∀G,H G=none->G≠x-> .ea (upd (upd H x (xo x .w .nS fr)) G (.xd (.Ga .br)))
theorem fL: .Bi Env (ai P w l H s XF e s'-> .bU):=by rintro l H s e s' ⟨_,_,_,_,_,_,_,_,_,_,z⟩;exact z
theorem kX.raises{R: .bS}{x d:Str}{i:Nat}(T:kX K mg R x d i){n:Int}{E:XK}{D:Ends}{σ:L2.St}{H:Hp}(h: .wR .R (DP R n cls G H'->E cls G H')):BZ T.c (m_ K n) (λ_=>E) f9 D σ H:=by
 refine⟨.ab,λy g=>⟨y,T.c,true,Y,aB,T.fe.cls,T.at_,λG hd f=>⟨Y,.nS,.ad⟩⟩⟩
 ·rw[aC f.symm,aB]
 ·rw[aC f]at hd;refine h _ _ _ (λb o e=> ?_) ⟨T.c,G,Y,T.ca,T.at_,Y,by rw[hJ f,aB]⟩;rw[79,b≠y,aN e g,b≠G,aN e hd];rw[hJ h1,aC h2,aC h1,aC h1];exact e
abbrev Cv(K:ag)(mg: .d)(R: .bS):=kX K mg R "DividedByZero" "DividedByZero.__init__" 24
theorem Hb{R: .bS}(T:Cv K mg R): .qQ P w K K 1:=by rw[116,.oe T .f,⟨_,.bB (o7 R.cf (oU R) M Y R.g R.b .bn (bj .F aq)),?_⟩,⟨.fb,C,.qP,b,a,q⟩]
abbrev Dt(K:ag)(mg: .d)(R: .bS):=kX K mg R "NoRoot" "NoRoot.__init__" 25
theorem He{R: .bS}(T:Dt K mg R): .qQ P w K K 2:=by rw[116,.oe T .f,⟨_,.bB (o7 R.cf (oU R) M Y R.g R.b .bn (bj .F aq)),?_⟩,⟨.fb,C,.qP,b,a,q⟩]
abbrev D5(K:ag)(mg: .d)(R: .bS):=kX K mg R "TooHeavy" "TooHeavy.__init__" 26
theorem Ru{R: .bS}(T:D5 K mg R): .qQ P w K K 3:=by rw[116,.oe T .f,⟨_,.bB (o7 R.cf (oU R) M Y R.g R.b .bn (bj .F aq)),?_⟩,⟨.fb,C,.qP,b,a,q⟩]
abbrev Ds(K:ag)(mg: .d)(R: .bS):=kX K mg R "NoCallLeft" "NoCallLeft.__init__" 27
theorem Rp{R: .bS}(T:Ds K mg R): .qQ P w K K 4:=by rw[116,.oe T .f,⟨_,.bB (o7 R.cf (oU R) M Y R.g R.b .bn (bj .F aq)),?_⟩,⟨.fb,C,.qP,b,a,q⟩]
abbrev D4(K:ag)(mg: .d)(R: .bS):=kX K mg R "TooDeep" "TooDeep.__init__" 28
theorem Rt{R: .bS}(T:D4 K mg R): .qQ P w K K 5:=by rw[116,.oe T .f,⟨_,.bB (o7 R.cf (oU R) M Y R.g R.b .bn (bj .F aq)),?_⟩,⟨.fb,C,.qP,b,a,q⟩]
abbrev D7(K:ag)(mg: .d)(R: .bS):=kX K mg R "WrongSort" "WrongSort.__init__" 29
theorem Hj{R: .bS}(T:D7 K mg R): .qQ P w K K 6:=by rw[116,.oe T .f,⟨_,.bB (o7 R.cf (oU R) M Y R.g R.b .bn (bj .F aq)),?_⟩,⟨.fb,C,.qP,b,a,q⟩]
abbrev Cq(K:ag)(mg: .d)(R: .bS):=kX K mg R "Broken" "Broken.__init__" 30
theorem uI{R: .bS}(T:Cq K mg R): .qQ P w K K 7:=by rw[116,.oe T .f,⟨_,.bB (o7 R.cf (oU R) M Y R.g R.b .bn (bj .F aq)),?_⟩,⟨.fb,C,.qP,b,a,q⟩]
def dU(C:Addr)(H:Hp)(a:Addr)(t b v:Int):Prop:=∃G,H a= .hY (jE (.int t) .fV (.int v))
theorem dM{t b v:V}: .O (jE t b v) ("top":Str) t:=by unfold jE;rw[aH,.n,aH,.n,aH,.M]
theorem c8{t b v:V}: .O (jE t b v) ("bottom":Str) b:=by unfold jE;rw[aH,.n,aH,.M]
theorem jR{t b v:V}: .O (jE t b v) ("weight":Str) v:=by unfold jE;rw[aH,.M]
theorem QY{t b v:V}: .O (jE t b v) ("kind":Str) .d1:=by unfold jE;rw[aH,.n,aH,.n,aH,.n,aH,.M]
theorem dU.mono{C:Addr}{H H':Hp}{a:Addr}{t b v:Int}(h:dU C H a t b v)(s: .R):dU C H' a t b v:=h.imp λ_ e=>s _ _ e
structure iz(K:ag)(mg: .d) where
 R: .bS
 num:zy K mg
 zero:Cv K mg R
 root:Dt K mg R
 uk:D5 K mg R
 most:∃t,mg "MOST_WEIGHT"= .tN 200
 mF:aF K mg "light_enough" 51
 add:aF K mg "added" 52
 sub:aF K mg "subtracted" 53
 mul:aF K mg "multiplied" 54
 rh:aF K mg "quotient_weight" 55
def eM(R: .bS)(n:Int)(H:Hp)(E:XK):Prop:=.wR .R (DP R n cls G H'->E cls G H')
def Wu(R: .bS):Sp:=λvs H Q E=>∃n:Int,vs=[.br]/\(n<=200-> .dr n)/\(200<n->eM R 3 H E)
theorem uK(T: .jc): .gI T.mF.f T.mF.fd ["weight"] (Wu T.R):=by
 refine T.mF.F.az ["weight"] .f;obtain⟨n,rfl,h1,h2⟩:=h;obtain⟨tk,d⟩:=T.most;rw[6,⟨_,.lF (.cP (aU ic .F (uQ (v:=.int 200) Y d ⟨tk,Y⟩)) (iq W Y T.uk.fe (Ru T.uk) M Y T.uk.g T.uk.F.b fL)) .F⟩,⟨.b2,.ac⟩,cE .gW .gW]
 ·exact T.uk.raises (h2 (bQ c))
 ·exact⟨_,Y,h1 (.wq (.eR▸c))⟩
def BI(T: .jc)(ok:Int->Int-> .bk Int Int)(c bf:Int->Int->Int->Int->Int):Sp:=.Jw (vs= .oj) (.jb a t1 b1 v1/\ .jb b t2 b2 f/\ok t1 b1 t2 b2/\(v1+f<=200-> .nW (dU T.num.c H' x (c t1 b1 t2 b2) (bf t1 b1 t2 b2) (v1+f)-> .mL))/\(200<v1+f->eM T.R 3 H E))
set_option profiler true in
theorem Rv(T:iz K mg):ah P w K mg base (ai P w) 5 T.add.f T.add.fd ["a","b"] (BI T (λt1 b1 t2 b2=>IntMulOk t1 b2/\IntMulOk t2 b1/\IntMulOk b1 b2) (λt1 b1 t2 b2=>t1*b2+t2*b1) (λt1 b1 t2 b2=>b1*b2)):=by refine T.add.F.az ["a","b","weight"] λH Q E nd W M h=> ?_;obtain⟨a,b,t1,b1,v1,t2,b2,f,rfl,⟨l,N⟩,⟨d,S⟩,⟨C,m,c⟩,h1,h2⟩:=h;have B:=T.num.n "top";have y:=T.num.n "bottom";have s:=T.num.n "weight";refine⟨_,Z (aG 2 nd (aJ T.mF (uK T) M W (ao (aL c9 (J (pv 0)) (J (pv 1)))))) (O (aA (cS T.num (ji T.num) M.m W (cG (aL c9 (aL dN (J (pv 0)) (J (pv 1))) (aL dN (J (pv 1)) (J (pv 0)))) (aL dN (J (pv 0)) (J (pv 1))) (pv 2))))),?_⟩;refine⟨_,Y,a,_,l,_,_,Y,N,T.num.cl,s,jR,_,Y,b,_,d,_,_,Y,S,T.num.cl,s,jR,_,_,Y,Y,_,Y,λr=> ?_,h2⟩;refine⟨_,Y,a,_,l,_,_,Y,N,T.num.cl,B,dM,_,Y,b,_,d,_,_,Y,S,T.num.cl,y,c8,_,_,Y,Y,C,_,Y,b,_,d,_,_,Y,S,T.num.cl,B,dM,_,Y,a,_,l,_,_,Y,N,T.num.cl,y,c8,_,_,Y,Y,m,_,_,Y,Y, _,Y,a,_,l,_,_,Y,N,T.num.cl,y,c8,_,Y,b,_,d,_,_,Y,S,T.num.cl,y,c8,_,_,Y,Y,c,_,Y,λx G nx nd ne=> ?_⟩;refine⟨x,G,_,_,_,Y,aB,Y,h1 r _ x (λq o e=> ?_) ⟨G,aB⟩⟩;have F:q≠x:=aN e nx;rw[aC F,aC F,aC (aN e nd)];exact e
theorem jg{T:zy K mg}{H:Hp}{t b v:Int}{Q:VK}{E:XK}(h: .nW (dU T.c H' x t b v-> .mL)):
  ∀x G,H x=none->H G=none->G≠x->Jw T.c (.a4::([.int t,.fV,.int v]++[])) (.lZ G x x G) (λu X=>u= .au/\ .iH X) E:=λx G nx nd ne=>by
 rw[87,⟨x,G,.cS,aB,Y,h _ x .lY ⟨G,aB⟩⟩,q≠x,e,e,e]
theorem SN(T: .jc): .uA P w K T.sub.f T.sub.fd (BI T (λt1 b1 t2 b2=>.j4 t1 b2 t2 b1 (IntMulOk b1 b2)) (λt1 b1 t2 b2=>t1*b2-t2*b1) (.DV b1 b2)):=by refine T.sub.F.az ["a","b","weight"] .f;obtain⟨a,b,t1,b1,v1,t2,b2,f,rfl,⟨l,N⟩,⟨d,S⟩,⟨C,m,c⟩,h1,h2⟩:=h;rw[249,.Jy T,T.num.n "bottom",.Jx T];rw[35,⟨.dZ (.gL T.mF (uK T) (.zo c9)) (.dz (cS T.num (ji T.num) M.m W (cG (.e1 fN dN .i .T (.l7 dN .i)) .p4 .p)))⟩,⟨.p6,s,jR,.mH,s,jR,.fK,.yc,h2⟩,⟨.p6,B,dM,.mH,.jh,C,.mH,B,dM,.p6,.jh,m,.o,.p6,y,c8,.mH,.jh,c,_,Y,jg (h1 r)⟩]
theorem Sl(T: .jc): .uA P w K T.mul.f T.mul.fd (BI T (.Jv t1 t2 (IntMulOk b1 b2)) (.DV t1 t2) (.DV b1 b2)):=by refine T.mul.F.az ["a","b","weight"] .f;obtain⟨a,b,t1,b1,v1,t2,b2,f,rfl,⟨l,N⟩,⟨d,S⟩,⟨C,m⟩,h1,h2⟩:=h;rw[249,.Jy T,T.num.n "bottom",.Jx T];rw[35,⟨.dZ (.gL T.mF (uK T) (.zo c9)) (.dz (cS T.num (ji T.num) M.m W (cG .p4 .p4 .p)))⟩,⟨.p6,s,jR,.mH,s,jR,.fK,.yc,h2⟩,⟨.p6,B,dM,.mH,B,dM,.o,C,.p6,y,c8,.mH,.jh,m,_,Y,jg (h1 r)⟩]
def WR(T: .jc):Sp:=.Jw (vs= .oj) (.jb a t1 b1 v1/\ .jb b t2 b2 f/\(t2=0->eM T.R 1 H E)/\(.j3->v1+f<=200-> .dr (v1+f))/\(.j3->200<v1+f->eM T.R 3 H E))
theorem A0(T: .jc): .uA P w K T.rh.f T.rh.fd (WR T):=by
 refine T.rh.F.az ["a","b"] .f;obtain⟨a,b,t1,b1,v1,t2,b2,f,rfl,⟨l,N⟩,⟨d,S⟩,F,h1,h2⟩:=h;have B:=.Jy T;have s:=.Jx T;rw[6,⟨_,.lF (.cP (.pj .T) (iq W Y T.zero.fe (Hb T.zero) M.m Y T.zero.g T.zero.F.b fL)) (.gL T.mF (uK T) (.zo c9))⟩,⟨.mH,B,dM,.aJ⟩,cE .gW .gW]
 ·rw[137,t2=0]
  exact T.zero.raises (F V)
 ·rw[137,.j3]
  exact⟨.p6,s,jR,.mH,s,jR,.fK,h1 V,h2 V⟩
theorem xu{X:Cx}(b:X.base.NoSeer)(V:X.prog.given.tree=none)(L: .bv= .S:: .eI)(a:X.env.scope.isGenerator= .a)(k:X.env.scope.isCoroutine= .a)(hd:X.A.depth+100< .Dh):
  .tb X (.tc j (.wX i j)):=by
 intro pins s σ H x y v u Q I M F h
 obtain⟨i,j,rfl,rfl,B,q⟩:=h
 obtain⟨t,rfl⟩:=M
 obtain⟨t',rfl⟩:=F
 have nl: .GY:=I.mod.nolimit.keeps I.bk
 exact floordiv_int B ⟨.j6 (i.fdiv j),⟨_,Y⟩,q⟩ (.inr (PylongRoom.of nl hd (SeerAt.of (.Gq b) V (by rw[.va,L]) a k .yy .vb)))
theorem xJ{k:Nat}{A:Around}(r:cb k A)(h:32<=k):A.depth+100< .Dh:=.Ig
structure nD(K:ag)(mg: .d) where
 T: .jc
 div:aF K mg "divided" 56
 floor:aF K mg "floored" 57
 rest:aF K mg "rest_of" 58
 less:aF K mg "is_less" 64
 same:aF K mg "is_same" 65
def BK(T: .jc)(ok:Int->Int-> .bk Int Int)(c bf:Int->Int->Int->Int->Int):Sp:=.Jw (vs= .oj) (.jb a t1 b1 v1/\ .jb b t2 b2 f/\ok t1 b1 t2 b2/\(t2=0->eM T.R 1 H E)/\(.j3->v1+f<=200-> .nW (dU T.num.c H' x (c t1 b1 t2 b2) (bf t1 b1 t2 b2) (v1+f)-> .mL))/\(.j3->200<v1+f->eM T.R 3 H E))
theorem SD(U:nD K mg): .J P w K .x 6 U.rest.f U.rest.fd ["a","b"] (.Ju U.T (.Jv t1 b2 (.j4 t2 b1 b1 b2 (.j3->t2*b1≠0))) ((t1*b2).fmod (t2*b1)) (.DV b1 b2)):=by rw[373,U.rest.F.az ["a","b","weight"] .f,U.T];rw[249,.za U,.z9 U,.Jt U];obtain⟨C,m,c,e⟩:=aw;rw[35,⟨.dZ (.eU U.T.rh (A0 U.T) .F .e) (.dz (cS .p5 (ji .p5) M.m W (cG (.e1 HF dN .i .T (.l7 dN .i)) .p4 .p)))⟩,⟨.j,a,b,t1,b1,v1,t2,b2,f,Y,⟨l,N⟩,⟨d,S⟩,F,.Js,h2⟩,⟨.vL,.vK,C,.vJ,.mT,.jh,m,.o,e hz,.mT,y,c8,.vK,c,_,Y,jg (h1 hz r)⟩]
theorem RN(U:nD K mg)(u:base.NoSeer)(I: .aj=none): .J P w K .x 40 U.floor.f U.floor.fd ["a","b"] (.Ju U.T (λt1 b1 t2 b2=>.j4 t1 b2 t2 b1 (.j3->t2*b1≠0)) ((t1*b2).fdiv (t2*b1)) (λt1 b1 t2 b2=>1)):=by rw[373,U.floor.F.az ["a","b","weight"] λ{G A outer s vs} H Q E nd W M h=> ?_,U.T];rw[191,.za U,.z9 U];have c:=.Jt U;obtain⟨C,m,e⟩:=aw;have o: .tb (e_ .x P w K mg base ["a","b","weight"] "floored" (.td 57) U.floor.f G A .a0 s H E) (.tc j (.wX i j)):=xu u I Y rfl rfl (xJ M (by decide));rw[35,⟨.dZ (.lw U.T.rh (A0 U.T) .F .e) (.dz (cS .p5 (ji .p5) M.m W (cG (.e1 o dN .i .T (.l7 dN .i)) aq .p)))⟩,⟨.j,a,b,t1,b1,v1,t2,b2,f,Y,⟨l,N⟩,⟨d,S⟩,F,.Js,h2⟩,⟨.vL,.vK,C,.vJ,.mT,.jh,m,.o,e hz,_,Y,jg (h1 hz r)⟩]
theorem RJ(U:nD K mg): .J P w K .x 6 U.div.f U.div.fd ["a","b"] (.Ju U.T (.Jv t1 b2 (.j4 b1 t2 (-t1) b2 (IntMulOk (-b1) t2))) (.db t2 (-t1*b2) (t1*b2)) (λt1 b1 t2 b2=>.db t2 (-b1*t2) (b1*t2))):=by
 rw[373,U.div.F.az ["a","b","weight"] .f,U.T];rw[249,.za U,.z9 U,.Jt U];obtain⟨C,m,A,j⟩:=aw;rw[20,⟨.dZ (.eU U.T.rh (A0 U.T) .F .e) (.bC (.dd (aU gO .T aq) (cS .p5 (ji .p5) M.m W (cG (aL dN (mV nu .i) .T) (aL dN (mV nu .i) .T) .p))) (cS .p5 (ji .p5) M.m W (cG .p4 .p4 .p)))⟩,⟨.j,a,b,t1,b1,v1,t2,b2,f,Y,⟨l,N⟩,⟨d,S⟩,F,.Js,h2⟩,⟨.vJ,.eP⟩,cE .gW .gW]
 ·rw[137,t2<0]
  have q:=h1 hz r;simp only[af V]at q;exact⟨.vL,.j,b,_,d,.h,S,.vV,.jh,A,.mT,y,c8,.j,b,_,d,.h,S,.vV,B,dM,.o,j,_,Y,jg q⟩
 ·rw[137,¬t2<0]
  have q:=h1 hz r;simp only[aa V]at q;exact⟨.vL,.vK,C,.mT,y,c8,.vJ,.o,m,_,Y,jg q⟩
def XB(T: .jc):Sp:=λvs H Q _=>.Eh (vs= .oj) (.jb a t1 b1 v1/\ .jb b t2 b2 f/\ .j4 t1 b2 t2 b1 (.cx (.f5 (t1*b2) (t2*b1))))
theorem Sd(U:nD K mg): .cb U.less.f U.less.fd ["a","b"] (XB U.T):=by refine U.less.F.az ["a","b"] .f;obtain⟨a,b,t1,b1,v1,t2,b2,f,rfl,⟨l,N⟩,⟨d,S⟩,C,m,q⟩:=h;rw[191,.za U,.z9 U];rw[2,⟨.ax (fO gO .p4 (.l7 dN .i))⟩,⟨.vL,.vK,C,.vJ,.mT,.jh,m,.o,q⟩]
def XC(T: .jc):Sp:=λvs H Q _=>.Eh (vs= .oj) (.jb a t1 b1 v1/\ .jb b t2 b2 f/\ .j4 t1 b2 t2 b1 (.cx (.a9 (t1*b2) (t2*b1))))
theorem Sg(U:nD K mg): .cb U.same.f U.same.fd ["a","b"] (XC U.T):=by refine U.same.F.az ["a","b"] .f;obtain⟨a,b,t1,b1,v1,t2,b2,f,rfl,⟨l,N⟩,⟨d,S⟩,C,m,q⟩:=h;rw[191,.za U,.z9 U];rw[2,⟨.ax (.ji .p4 (.l7 dN .i))⟩,⟨.vL,.vK,C,.vJ,.mT,.jh,m,Y,by simpa using q⟩]
structure yJ(K:ag)(mg: .d) where
 U:nD K mg
 raised:aF K mg "raised" 61
 Fi:mg "abs"=none
 Oh:mg "max"=none
 jc:mg "range"=none
abbrev dX(n:Int):Int:=.db n (-n) n
abbrev rD(v n:Int):Int:=if v*dX n>1 then v*dX n else 1
def BN(T: .jc):Sp:=λvs H Q E=>∃(a:Addr) (n t b v:Int),vs=[.B,.br]/\ .jb a t b v/\(-9<=n/\n<=9)/\(0<=v/\v<=200)/\(∀i:Nat,i<=9-> .zw (t^i) t (IntMulOk (b^i) b))/\(n<0/\t=0->eM T.R 1 H E)/\(¬(n<0/\t=0)->200<rD v n->eM T.R 3 H E)/\(¬(n<0/\t=0)->rD v n<=200-> .nW (dU T.num.c H' x (if 0<=n then t^(.mq n)else .db (t^(.mq n)) (-b^(.mq n)) (b^(.mq n))) (if 0<=n then b^(.mq n)else .db (t^(.mq n)) (-t^(.mq n)) (t^(.mq n))) (rD v n)-> .mL))
set_option profiler true in
theorem Sv(V:yJ K mg):ah P w K mg base (ai P w) 6 V.raised.f V.raised.fd ["a","power"] (BN V.U.T):=by
 refine V.raised.F.az ["a","power","weight","top","bottom","times"] λH Q E nd W M h=> ?_;obtain⟨a,n,t,b,v,rfl,⟨l,N⟩,⟨A,D⟩,⟨k,I⟩,j,F,h1,h2⟩:=h;have T:=V.U.T;have B:=V.U.T.num.n "top";have y:=V.U.T.num.n "bottom";have s:=V.U.T.num.n "weight";have cl:=V.U.T.num.cl;refine⟨_,Z (aQ (kH (aU gO (pv 1) aq) (kI (aU bN (J (pv 0)) aq))).pt (O (iq W Y V.U.T.zero.fe (Hb V.U.T.zero) M.m Y V.U.T.zero.g V.U.T.zero.F.b fL)) a0) (Z (aG 2 nd (aJ V.U.T.mF (uK V.U.T) M.m W (ao (jT (Eu Y) Y V.Oh boot_max (bj aq (aL A9 (J (pv 0)) (jT z5 Y V.Fi boot_abs (ao (pv 1))))))))) (Z (aG 3 nd aq) (Z (aG 4 nd aq) (Z (ik ef Y (pa Y V.jc (ao (jT z5 Y V.Fi boot_abs (ao (pv 1))))) (eo 5 nd) (Z (aG 3 nd (aL dN (pv 3) (J (pv 0)))) (O (aG 4 nd (aL dN (pv 4) (J (pv 0))))))) (Z (aQ (aU oY (pv 1) aq) (O (aA (cS V.U.T.num (ji V.U.T.num) M.m W (cG (pv 3) (pv 4) (pv 2))))) a0) (O (aA (hA (aU gO (pv 3) aq) (cS V.U.T.num (ji V.U.T.num) M.m W (cG (mV nu (pv 4)) (mV nu (pv 3)) (pv 2))) (cS V.U.T.num (ji V.U.T.num) M.m W (cG (pv 4) (pv 3) (pv 2))))))))))),?_⟩;refine⟨_,Y,_,_,Y,Y,_,Y,?_⟩;refine cE (λc=>⟨_,Y,a,_,l,_,_,Y,N,cl,B,dM,Y,_,Y,cE (λC=>V.U.T.zero.raises (F ⟨by simpa using c,by simpa using C⟩)) (λC=> ?r1)⟩) (λc=>aj ?r2)
 case' r1=>have e:¬(n<0/\t=0):=λz=>C (by simpa using z.2)
 case' r2=>have e:¬(n<0/\t=0):=λz=>c (by simpa using z.1)
 all_goals
  refine⟨_,Y,a,_,l,_,_,Y,N,cl,s,jR,_,Y,_,Y,_,_,Y,Y,.inl ⟨by omega,by omega⟩,_,_,Y,_,Y,λr=> ?_,h1 e⟩
  refine⟨_,Y,_,Y,_,Y,?_,?_,?_⟩
  ·show-(2^62)<=dX n
   have:0<=dX n:=by unfold dX;split<;>omega
   omega
  ·show dX n<2^62
   have:dX n<=9:=by unfold dX;split<;>omega
   omega
  have o:(dX n).toNat<=9:=by unfold dX;split<;>omega
  refine uh (n:=(dX n).toNat) (λi σ H'=>H'=H/\∃g:Option L2.V,σ=[some (.ref a),some (.int n),some (.int (rD v n)),some (.int (t^i)),some (.int (b^i)),g]) ⟨Y,none,by rw[vz,vz];rfl⟩ ?_ ?_
  ·rintro i σ H' hi ⟨rfl,g,rfl⟩
   obtain⟨u,m⟩:=j i (by omega)
   refine⟨_,Y,_,Y,a,_,l,_,_,Y,N,cl,B,dM,_,_,Y,Y,u,_,Y,_,Y,a,_,l,_,_,Y,N,cl,y,c8,_,_,Y,Y,m,Y,?_⟩
   exact⟨_,by rw[vy,vy];rfl⟩
  ·rintro σ H' ⟨rfl,g,rfl⟩
   have q:=h2 e r
   refine⟨_,Y,_,_,Y,Y,_,Y,cE (λL=> ?_) (λL=> ?_)⟩
   ·have d:0<=n:=by simpa using L
    simp only[af d]at q
    exact⟨_,Y,_,Y,_,Y,jg q⟩
   ·have d:¬0<=n:=by simpa using L
    simp only[aa d]at q
    refine⟨_,Y,_,_,Y,Y,_,Y,cE (λp=> ?_) (λp=> ?_)⟩
    ·have f:t^(dX n).toNat<0:=by simpa using p
     simp only[af f]at q
     exact⟨_,Y,_,Y,_,Y,_,Y,_,Y,jg q⟩
    ·have f:¬t^(dX n).toNat<0:=by simpa using p
     simp only[aa f]at q
     exact⟨_,Y,_,Y,_,Y,jg q⟩
def hX: .ed (Int->Int-> .aI)
 |0,_,_=>none
 |k+1,a,b=>.bd (b=0) a (hX k b (a.fmod b))
theorem Fm(k:Nat)(a b:Int):hX (k+1) a b= .bd (b=0) a (hX k b (a.fmod b)):=rfl
structure K9(K:ag)(mg: .d) where
 c:Addr
 g:mg "TooLarge"= .I c
 x:sN K c
structure vp(K:ag)(mg: .d) where
 L:K9 K mg
 gcd:aF K mg "common_divisor" 47
 most:∃t,mg "MOST_DIVISIONS"= .tN 5000
 jc:mg "range"=none
def Wg(T:vp K mg):Sp:=λvs H Q E=>∃a b:Int,vs=[.int a,.fV]/\(match hX 5000 a b with|some g=>.dr g|none=>.sA T.L.c H)
set_option profiler true in
theorem Hs(T:vp K mg):ah P w K mg base (ai P w) 3 T.gcd.f T.gcd.fd ["a","b"] (Wg T):=by
 refine T.gcd.F.az ["a","b","division","rest"] λH Q E nd W M h=> ?_;obtain⟨a,b,rfl,h⟩:=h;obtain⟨tk,d⟩:=T.most;refine⟨_,Z (ik ef Y (pa Y T.jc (ao (uQ (v:=.int 5000) Y d ⟨tk,Y⟩))) (eo 2 nd) (Z (aQ (aU bN (pv 1) aq) (O (aA (pv 0))) a0) (Z (aG 3 nd (aL HF (pv 0) (pv 1))) (Z (aG 0 nd (pv 1)) (O (aG 1 nd (pv 3))))))) (O (rg W Y T.L.x Y T.L.g)),?_⟩;refine⟨5000,Y,by decide,by decide,?_⟩;refine uh (n:=5000) (λi σ H'=>H'=H/\∃(x y:Int) (u v:Option L2.V),σ=[some (.int x),some (.int y),u,v]/\hX (5000-i) x y=hX 5000 a b) ⟨Y,a,b,none,none,Y,Y⟩ ?_ ?_
 ·rintro i σ H' hi ⟨rfl,x,y,u,v,rfl,e⟩;have S:5000-i=(5000-(i+1))+1:=by omega
  rw[S]at e;replace e:=(Fm _ _ _).symm.trans e;refine⟨_,Y,Y,_,Y,cE (λc=> ?_) (λc=> ?_)⟩
  ·have V:y=0:=by simpa using c
   rw[af V]at e;rw[<-e]at h;exact⟨_,Y,h⟩
  ·have V:y≠0:=by simpa using c
   rw[aa V]at e;exact⟨_,Y,_,Y,_,_,Y,Y,V,_,Y,_,Y,Y,y,x.fmod y,_,_,Y,e⟩
 ·rintro σ H' ⟨rfl,x,y,u,v,rfl,e⟩;have F:hX 5000 a b=none:=by rw[<-e];rfl
  rw[F]at h;exact h
structure dw(K:ag)(mg: .d) where
 ins:vw K mg
 truth:wc K mg
 pair:zE K mg
 func:yR K mg
 so:sJ K mg
 ex:yJ K mg
 num:aF K mg "give_num" 92
 nk:aF K mg "give_true" 93
 mu:aF K mg "give_false" 94
 nil:aF K mg "give_nil" 95
 fn:aF K mg "give_fn" 96
 mC:aF K mg "give_pair" 97
 fst:aF K mg "give_fst" 98
 snd:aF K mg "give_snd" 99
 cons:aF K mg "give_cons" 100
 fh:aF K mg "give_worked_out" 101
 pow:aF K mg "give_pow" 102
 root:aF K mg "give_root" 103
 less:aF K mg "give_less" 104
 same:aF K mg "give_same" 105
def Given(T: .bg)(H:Hp)(i t:Addr)(k n val:V)(us: .s):Prop:=(∃A,H i= .bX T.ins.c A (iA k n val))/\H t= .jS
def Xv(T: .bg):Sp:=.h4 (vs= .g6/\ .h5/\Q val H)
theorem RZ(T: .bg): .vA T.num.f T.num.fd (Xv T):=by rw[184,T.num.F.az ["instruction","taken"] .f,⟨.ax .i⟩,⟨.hZ,T.ins.cl,T.ins.n "value",yV,q⟩]
def XA(T: .bg):Sp:=.h4 (vs= .g6/\ .h5/\ .cB (.b4= .DL T true))
theorem R6(T: .bg):ah P w K mg base .x 3 T.nk.f T.nk.fd ["instruction","taken"] (XA T):=by rw[184,T.nk.F.az ["instruction","taken"] .f,⟨.ax (cS .p1 (uJ .p1) M W (ao iV))⟩,wZ q]
def Xq(T: .bg):Sp:=.h4 (vs= .g6/\ .h5/\ .cB (.b4= .DL T .a))
theorem RU(T: .bg):ah P w K mg base .x 3 T.mu.f T.mu.fd ["instruction","taken"] (Xq T):=by rw[184,T.mu.F.az ["instruction","taken"] .f,⟨.ax (cS .p1 (uJ .p1) M W (ao iV))⟩,wZ q]
def Xu(T: .bg):Sp:=.h4 (vs= .g6/\ .h5/\ .cB (.b4= .le .J1 .aX .au .au))
theorem RY(T: .bg): .DK P w K mg T.nil.f T.nil.fd (Xu T):=by rw[184,T.nil.F.az ["instruction","taken"] .f,⟨.ax (Bf (Ho T.so) M Y T.so.empty.g T.so.empty.F.kp T.so.empty.F.b .nil .bn)⟩,⟨Y,q⟩]
def Xr(T: .bg):Sp:=.h4 (vs= .g6/\ .h5/\ .cB (.b4= .bW T.func.c (jy n .bc)))
theorem RV(T: .bg):ah P w K mg base .x 3 T.fn.f T.fn.fd ["instruction","taken"] (Xr T):=by rw[184,T.fn.F.az ["instruction","taken"] .f,⟨.ax (cS T.func (Rn T.func) M W (bj .i .e))⟩,⟨.hZ,T.ins.cl,T.ins.n "number",dS,_,Y,Qv q⟩]
def Xw(T: .bg):Sp:=.h4 (vs= .g6/\ .h5/\∃a b,us=[a,b]/\ .cB (.b4= .bW T.pair.c (iI a b)))
theorem R0(T: .bg):ah P w K mg base .x 3 T.mC.f T.mC.fd ["instruction","taken"] (Xw T):=by refine T.mC.F.az ["instruction","taken"] .f;obtain⟨i,t,k,n,val,us,rfl,⟨⟨A,hi⟩,V⟩,a,b,rfl,q⟩:=h;rw[2,⟨.ax (cS T.pair (Hg T.pair) M W (bj .fi .fi))⟩,⟨.gk 0,.gk 1,Qx q⟩]
def Xs(T: .bg):Sp:=.h4 (vs= .g6/\ .h5/\∃p dp a b,us= .iL/\H p= .oZ T.pair.c (iI a b)/\Q a H)
theorem RW(T: .bg): .vA T.fst.f T.fst.fd (Xs T):=by refine T.fst.F.az ["instruction","taken"] .f;obtain⟨i,t,k,n,val,us,rfl,⟨⟨A,hi⟩,V⟩,p,dp,a,b,rfl,hp,q⟩:=h;rw[2,⟨.ax (J .fi)⟩,⟨.gk 0,p,_,dp,.h,hp,T.pair.cl,T.pair.n "first",DD,q⟩]
def Xz(T: .bg):Sp:=.h4 (vs= .g6/\ .h5/\∃p dp a b,us= .iL/\H p= .oZ T.pair.c (iI a b)/\Q b H)
theorem R5(T: .bg): .vA T.snd.f T.snd.fd (Xz T):=by refine T.snd.F.az ["instruction","taken"] .f;obtain⟨i,t,k,n,val,us,rfl,⟨⟨A,hi⟩,V⟩,p,dp,a,b,rfl,hp,q⟩:=h;rw[2,⟨.ax (J .fi)⟩,⟨.gk 0,p,_,dp,.h,hp,T.pair.cl,T.pair.n "second",DE,q⟩]
def Xp(T: .bg):Sp:=.h4 (vs= .g6/\ .h5/\∃f o fV m g r,us=[f,.ns]/\H o= .bX .J1 fV (dF (.int m) g r)/\ .cB (.b4= .le .J1 (.int (m+1)) f .ns))
theorem RS(T: .bg): .DK P w K mg T.cons.f T.cons.fd (Xp T):=by refine T.cons.F.az ["instruction","taken"] .f;obtain⟨i,t,k,n,val,us,rfl,⟨⟨A,hi⟩,V⟩,f,o,fV,m,g,r,rfl,d,q⟩:=h;rw[2,⟨.ax (.eU T.so.longer (Hx T.so) .fi .fi)⟩,⟨.gk 0,.gk 1,f,o,fV,m,g,r,Y,d,q⟩]
def Xt(T: .bg):Sp:=.h4 (vs= .g6/\ .h5/\∃a b t1 b1 v1 t2 b2 f,us= .oj/\ .DM T H a t1 b1 v1/\ .DM T H b t2 b2 f/\ .j4 t1 b2 t2 b1 (.cB (.b4= .DL T (.f5 (t1*b2) (t2*b1)))))
theorem RX(T: .bg):ah P w K mg base .x 3 T.less.f T.less.fd ["instruction","taken"] (Xt T):=by refine T.less.F.az ["instruction","taken"] .f;obtain⟨i,t,k,n,val,us,rfl,⟨⟨A,hi⟩,V⟩,a,b,t1,b1,v1,t2,b2,f,rfl,N,S,C,m,q⟩:=h;rw[2,⟨.ax (cS .p1 (uJ .p1) M W (ao (.lw T.ex.U.less (Sd T.ex.U) .fi .fi)))⟩,⟨.gk 0,.gk 1,a,b,t1,b1,v1,t2,b2,f,Y,N,S,C,m,wZ q⟩]
def Xy(T: .bg):Sp:=.h4 (vs= .g6/\ .h5/\∃a b t1 b1 v1 t2 b2 f,us= .oj/\ .DM T H a t1 b1 v1/\ .DM T H b t2 b2 f/\ .j4 t1 b2 t2 b1 (.cB (.b4= .DL T (.a9 (t1*b2) (t2*b1)))))
theorem R4(T: .bg):ah P w K mg base .x 3 T.same.f T.same.fd ["instruction","taken"] (Xy T):=by refine T.same.F.az ["instruction","taken"] .f;obtain⟨i,t,k,n,val,us,rfl,⟨⟨A,hi⟩,V⟩,a,b,t1,b1,v1,t2,b2,f,rfl,N,S,C,m,q⟩:=h;rw[2,⟨.ax (cS .p1 (uJ .p1) M W (ao (.lw T.ex.U.same (Sg T.ex.U) .fi .fi)))⟩,⟨.gk 0,.gk 1,a,b,t1,b1,v1,t2,b2,f,Y,N,S,C,m,wZ q⟩]
def Xx(T: .bg):Sp:=.h4 (vs= .g6/\ .h5/\∃a,us=[a]/\BN T.ex.U.T [a,n] H Q E)
theorem R1(T: .bg): .J P w K .x 7 T.pow.f T.pow.fd ["instruction","taken"] (Xx T):=by refine T.pow.F.az ["instruction","taken"] .f;obtain⟨i,t,k,n,val,us,rfl,⟨⟨A,hi⟩,V⟩,a,rfl,q⟩:=h;rw[2,⟨.ax (.eU T.ex.raised (Sv T.ex) .fi .i)⟩,⟨.sR V,bG Y,.hZ,T.ins.cl,T.ins.n "number",dS,q⟩]
structure rO(K:ag)(mg: .d) where
 bf:yr K mg
 ff:yM K mg
 moved:aF K mg "moved" 122
 hand:aF K mg "with_in_hand" 123
def Wy(C:Addr):Sp:=λvs H Q _=>∃(f I:Addr) (b a g p0 d u:V) (i r p:V),vs=[.ai,i,r,p]/\H f= .pw I (du b a g p0 d u)/\ .cB (.b4= .hY (du b i r p d u))
theorem kz(T:rO K mg): .et T.moved.f T.moved.fd ["frame","at","row","places"] (Wy T.bf.c):=by refine T.moved.F.az ["frame","at","row","places"] .f;obtain⟨f,I,b,a,g,p0,d,u,i,r,p,rfl,N,q⟩:=h;have cl:=T.bf.cl;rw[2,⟨.ax (cS T.bf (AV T.bf) M W (uM .i .e .p .a3 .i .i))⟩,⟨.k9,I,.o8,T.bf.n "block",yu,.j,.j,f,_,I,.o8,T.bf.n "depth",vg,.k9,I,.o8,T.bf.n "below",yt,Qt q⟩]
def Wi(C:Addr):Sp:=λvs H Q _=>∃(f I:Addr) (g z l d F a u:V) (c h e:V),vs=[.ai,c,h,e]/\H f= .pw I (ez g z l d F a u)/\ .cB (.b4= .hY (ez g c l d h e u))
theorem xn(T:rO K mg): .et T.hand.f T.hand.fd ["frame","coming","hand","held"] (Wi T.ff.c):=by refine T.hand.F.az ["frame","coming","hand","held"] .f;obtain⟨f,I,g,z,l,d,F,a,u,c,h,e,rfl,N,q⟩:=h;have cl:=T.ff.cl;rw[2,⟨.ax (cS T.ff (Hc T.ff) M W (HM .i .e .i .i .p .a3 .i))⟩,⟨.k9,I,.o8,T.ff.n "f",CH,.j,f,_,I,.o8,T.ff.n "level",vo,.k9,I,.o8,T.ff.n "depth",yO,.jn,f,_,I,.o8,T.ff.n "below",yN,Qu q⟩]
abbrev DS(K:ag)(mg: .d):=eV K mg "Run" "Run.__init__" 121 ["blocks","topmost","left","done","outcome","refusal","result","marks"]
def cw(bl tp lf dn oc rf rs mk:V): .c6:=aO "marks" mk (aO "result" rs (aO "refusal" rf (aO "outcome" oc (aO "done" dn (aO "left" lf (.Fx tp (.tJ bl [])))))))
section
variable{bl tp lf dn oc rf rs mk v:V}
theorem zJ: .qI ("marks":Str) mk:=by kernel_rfl
theorem LS: .qI ("result":Str) rs:=by kernel_rfl
theorem LR: .qI ("refusal":Str) rf:=by kernel_rfl
theorem kY: .qI ("outcome":Str) oc:=by kernel_rfl
theorem i7: .qI ("done":Str) dn:=by kernel_rfl
theorem v8: .qI ("left":Str) lf:=by kernel_rfl
theorem sE: .qI ("topmost":Str) tp:=by kernel_rfl
theorem v7: .FI .hQ bl:=by kernel_rfl
theorem kG: .Fx v .hQ= .jA v rf:=by kernel_rfl
theorem Iy:aO "left" v .hQ=cw bl tp v dn oc rf rs mk:=by kernel_rfl
theorem Iw:aO "done" v .hQ=cw bl tp lf v oc rf rs mk:=by kernel_rfl
theorem Bs:aO "outcome" v .hQ=cw bl tp lf dn v rf rs mk:=by kernel_rfl
theorem Iz:aO "refusal" v .hQ= .jA tp v:=by kernel_rfl
theorem IA:aO "result" v .hQ=cw bl tp lf dn oc rf v mk:=by kernel_rfl
theorem UK:aO "marks" v .hQ=cw bl tp lf dn oc rf rs v:=by kernel_rfl
theorem c6:(.hQ).length=8:=by kernel_rfl
end
structure jF(K:ag)(mg: .d) where
 run:DS K mg
 fr:rO K mg
 ins:vw K mg
 get:aF K mg "do_get" 126
 bind:aF K mg "do_bind" 127
 free:aF K mg "do_free" 128
 skip:aF K mg "do_skip" 129
 B5:aF K mg "do_unless" 130
 part:aF K mg "do_part" 131
structure Done(T: .k7)(H:Hp)(r f ro i t:Addr)(bl tp lf dn oc rf rs mk:V)(b:V)(at_:Int)(row0:V)(pl:Addr)(d u wd n val:V)(places row us: .s):Prop where
 run:∃dr,H r= .pU dr .hQ
 frame:∃df,H f= .bX .sV df (du b .gV row0 .ih d u)
 places:H pl= .aE .ct
 row:H ro= .aE row
 ins:∃di,H i= .bX T.ins.c di (iA wd n val)
 taken:H t= .jS
def SameBut(r:Addr)(H H':Hp):Prop:=.t2 b (b≠r-> .dg= .l)
theorem ae.but{r:Addr}{H H':Hp}(s: .R): .ia:=λb o h _=>s b o h
theorem SameBut.upd{r:Addr}{H H':Hp}{o:HO}(s: .ia): .d8 r (upd H' r o):=λb o' h n=>.bp n (s b o' h n)
def Xo(T: .k7):Sp:=λvs H Q _=>∃(r f ro i t:Addr) (bl s lf dn oc p rs mk b:V) (at_:Int) (e:V) (pl:Addr) (d u k val:V) (n:Nat) (places row us: .s) (v:V),vs=[.i4,.ai,.lx,.fH,.bc]/\Done T H r f ro i t bl s lf dn oc p rs mk b at_ e pl d u k .br val .ct row us/\(.ct)[n]? = .aQ/\row.length+1<= .W/\∀H' x G y a,.ia->H' r= .pU y (.jA .a4 p)-> .b4= .bW .sV (du b (.int .dM) .B .ih d u)->H' a= .aE (row++[v])-> .bN
theorem MN{prog:Program}{w:World}{A:Around}{E: .E}{s:Shared}{t b:Addr}{ws: .q}{Q: .E}(V: .mZ t (#[]: .bf))(S: .mZ b .tA)
  (h1: .bV b s): .cz (binaryOp .Add .bc .gl):=by
 obtain⟨⟨cls,G,data,i⟩,d,B,n,hd⟩:=id V
 obtain⟨⟨F,y,data2,z⟩,q,g,j,R⟩:=id S
 simp only at B hd g R
 subst B hd g R
 exact concat_meets ⟨_,d,Y⟩ ⟨_,q,Y⟩ GW IY DJ DI (DH _ _) (tuple_addW0 t b #[] .tA n j G y i z Y) ⟨d,q,h1⟩
def UR(K:ag):R2:=λx y H Q=>∃a b xs ys,x= .B/\y= .gl/\H a= .gY/\H b= .aE ys/\ .gm .r ys<= .W/\∀H' p,.R->H' p= .aE (xs++ys)-> .eW p
theorem oX{X:Cx}: .ff .Add (UR X.K):=by
 intro pins s σ H x y v u Q I M F h;obtain⟨a,b,xs,ys,rfl,rfl,N,S,hz,q⟩:=h
 cases xs with
 |nil=>cases M;cases F;obtain⟨g,i,l,_⟩:=.Fy N;obtain⟨V,D,T,_⟩:=.Fy S;cases i;exact MN l T ⟨.gl,H,I,Y,q H b .gX S⟩
 |cons x xs=>
  refine TN pins s σ H _ _ v u Q I M F ⟨a,b,x::xs,ys,Y,Y,aM.of N,aM.of S,by simp,hz,.t1,λe p hp=> ?_⟩
  ·subst e;exact q H a .gX (by rw[cC];exact N)
  ·exact q _ p (.gs hp) aB
theorem KH{a b c d e f:V}:(du a b c d e f).length=7:=by kernel_rfl
theorem GS{C D x y:Addr}{a b c d e f:V}{bl s lf dn oc p rs mk:V}:HO.ins C x (du a b c d e f)≠HO.ins D y (.jA s p):=by intro z;injection z with _ _ z;have h:=dZ List.length z;rw[KH,c6]at h;cases h
set_option profiler true in
theorem RR(T:jF K mg):ah P w K mg base (ai P w) 4 T.get.f T.get.fd ["run","frame","row","instruction","taken"] (Xo T):=by
 refine T.get.F.az ["run","frame","row","instruction","taken"] λH Q E nd W M h=> ?_;obtain⟨r,f,ro,i,t,bl,s,lf,dn,oc,L,rs,mk,b,at_,e,pl,d,u,k,val,n,places,row,us,v,rfl,D,l,a,q⟩:=h;obtain⟨⟨y,h1⟩,⟨I,h2⟩,h3,h4,⟨A,h5⟩,j⟩:=D;have S:=T.fr.bf.cl;refine⟨_,O (aS (pv 0) (aJ T.fr.moved (kz T.fr) M W (cu (pv 1) (cu (aL c9 (J (pv 1)) aq) (bj (aL oX (pv 2) (dE (ao (bz cF (J (pv 1)) (J (pv 3)))))) (J (pv 1))))))),?_⟩;refine⟨_,Y,_,Y,f,_,I,_,_,Y,h2,S,T.fr.bf.n "at",iu,_,_,Y,Y,_,Y,_,Y,f,_,I,_,_,Y,h2,S,T.fr.bf.n "places",gD,_,Y,i,_,A,_,_,Y,h5,T.ins.cl,T.ins.n "number",dS,pl,_,_,_,Y,Y,aM.of h3,bG l,(by show 1<=sizeLine;decide),λt1 g=> ?_⟩;have U:ae H (upd H t1 (.tup [v])):=(ae.refl H).upd g;refine⟨ro,t1,row,[v],Y,Y,U _ _ h4,aB,a,λm p F hp=> ?_⟩;have B:=U.trans F;refine⟨_,Y,f,_,I,_,_,Y,B _ _ h2,S,T.fr.bf.n "places",gD,?_⟩;refine⟨f,I,b,.int at_,e,.ref pl,d,u,_,_,_,Y,B _ _ h2,λX x G c o=> ?_⟩;have C:=B.trans c;refine⟨_,Y,r,_,y,_,Y,C _ _ h1,T.run.cl,T.run.n "topmost",(by rw[c6];decide),?_⟩;rw[kG];refine q _ x G y p (ae.but C).upd aB ?_ ?_
 ·rw[aC (bx o (C _ _ h1) GS)];exact o
 ·rw[aC (bx (c _ _ hp) (C _ _ h1) (by intro z;cases z))];exact c _ _ hp
def lP(T: .k7)(H:Hp)(r:Addr)(bl lf dn oc p rs mk b:V)(at_:Int)(d u:V)(row places: .s)(Q:VK):Prop:=∀H' x G y ro pl,.ia->H' r= .pU y (.jA .a4 p)-> .b4= .bW .sV (du b .gV .lx .ih d u)->H' ro= .aE row->H' pl= .aE .ct-> .bN
theorem lP.end_{T: .k7}{H X:Hp}{r x G y ro pl:Addr}{bl a lf dn oc p rs mk b:V}{at_:Int}{d u:V}{row places: .s}{Q:VK}(q:lP T H r bl lf dn oc p rs mk b at_ d u row .ct Q)(s: .jP)
  (h1:H r= .pU y (.jA a p))(W:X x= .bW .sV (du b .gV .lx .ih d u))(M:X ro= .aE row)(hp:X pl= .aE .ct):
  .ea (.eL X r .sp y (.Fx .a4 (.jA a p))):=by
 rw[9,kG,q _ x G y ro pl (ae.but s).upd aB ?_ ?_ ?_]
 ·rw[54,bx W (s _ _ h1) GS,W]
 ·rw[54,.al M (s _ _ h1),M]
 ·rw[54,.al hp (s _ _ h1),hp]
def XE(T: .k7):Sp:=λvs H Q _=>∃(r f ro i t:Addr) (bl s lf dn oc p rs mk b:V) (at_:Int) (e:V) (pl:Addr) (d u k val:V) (n:Int) (places row us: .s),vs=[.i4,.ai,.lx,.fH,.bc]/\Done T H r f ro i t bl s lf dn oc p rs mk b at_ e pl d u k .br val .ct row us/\lP T H r bl lf dn oc p rs mk b (.dM+n) d u row .ct Q
theorem A3(T: .k7):ah P w K mg base .x 4 T.skip.f T.skip.fd ["run","frame","row","instruction","taken"] (XE T):=by refine T.skip.F.az ["run","frame","row","instruction","taken"] .f;obtain⟨r,f,ro,i,t,bl,s,lf,dn,oc,p,rs,mk,b,at_,e,pl,d,u,k,val,n,places,row,us,rfl,D,q⟩:=h;obtain⟨⟨y,h1⟩,⟨I,h2⟩,h3,h4,⟨A,h5⟩,j⟩:=D;have S:=.f3;rw[214,⟨_,.hT (aJ T.fr.moved (kz T.fr) M W (cu .e (cu (.e1 c9 c9 .T aq .ep) (.lh 2 .T)))),?_⟩,⟨.j,f,_,I,.iA,S,.jD,.o,.lj,h5,T.ins.cl,T.ins.n "number",dS,.tz,f,_,I,.iA,S,.gD,?_⟩,⟨f,I,b,.gV,e,.ih,d,u,.cS,h2,λX x G a o=> ?_⟩,⟨.cU,a _ _ h1,.np,.fQ⟩,q.end_ a h1 o (a _ _ h4) (a _ _ h3)]
def Xn(T: .k7):Sp:=λvs H Q _=>∃(r f ro i t:Addr) (bl s lf dn oc p rs mk b:V) (at_:Int) (e:V) (pl:Addr) (d u k n val:V) (places row us: .s),vs=[.i4,.ai,.lx,.fH,.bc]/\Done T H r f ro i t bl s lf dn oc p rs mk b at_ e pl d u k n val .ct row us/\places.length+ .a8<= .W/\lP T H r bl lf dn oc p rs mk b .dM d u row (.ct++us) Q
theorem RB(T: .k7):ah P w K mg base .x 4 T.bind.f T.bind.fd ["run","frame","row","instruction","taken"] (Xn T):=by refine T.bind.F.az ["run","frame","row","instruction","taken"] .f;obtain⟨r,f,ro,i,t,bl,s,lf,dn,oc,g,rs,mk,b,at_,e,pl,d,u,k,n,val,places,row,us,rfl,D,a,q⟩:=h;obtain⟨⟨y,h1⟩,⟨I,h2⟩,h3,h4,⟨A,h5⟩,j⟩:=D;have S:=.f3;rw[6,⟨_,.hT (aJ T.fr.moved (kz T.fr) M W (cu .e (cu .ny (.lh 2 (.l7 oX .aF))))),?_⟩,⟨.j,f,_,I,.iA,S,.jD,.tz,f,_,I,.iA,S,.gD,_,Y,pl,t,.o,h3,j,a,λm p F hp=> ?_⟩,⟨f,I,b,.gV,e,.ih,d,u,.cS,F _ _ h2,λX x G c o=> ?_⟩];rw[293,F,c,⟨.cU,C _ _ h1,.np,.fQ⟩,q.end_ C h1 o (C _ _ h4) (c _ _ hp)]
structure sD(K:ag)(mg: .d) where
 T: .k7
 truth:wc K mg
 chain:vj K mg
def XG(U:sD K mg):Sp:=λvs H Q _=>∃(r f ro i t:Addr) (bl s lf dn oc p rs mk b:V) (at_:Int) (e:V) (pl:Addr) (d u k val:V) (n:Int) (places row: .s) (a l:Addr) (c:Bool),vs=[.i4,.ai,.lx,.fH,.bc]/\Done U.T H r f ro i t bl s lf dn oc p rs mk b at_ e pl d u k .br val .ct row .cW/\H a= .bX U.truth.c l (iM (.bl c))/\lP U.T H r bl lf dn oc p rs mk b (.k4 .dM (.dM+n)) d u row .ct Q
theorem S0(U:sD K mg): .pR P w K U.T.B5.f U.T.B5.fd (XG U):=by
 refine U.T.B5.F.az ["run","frame","row","instruction","taken"] .f;obtain⟨r,f,ro,i,t,bl,s,lf,dn,oc,p,rs,mk,b,at_,e,pl,d,u,k,val,n,places,row,a,l,c,rfl,D,N,q⟩:=h;have v:=D;obtain⟨⟨y,h1⟩,⟨I,h2⟩,h3,h4,⟨A,h5⟩,m⟩:=D;have S:=U.T.fr.bf.cl;rw[0,⟨_,O (.zJ (eJ (J .jH)) (aJ U.T.fr.moved (kz U.T.fr) M.m W (kD .e .ny .p .T)) (.bB (aJ U.T.skip (A3 U.T) M W (oZ .F .e .p .a3 .aF)))),?_⟩,⟨_,Y,t,_,.o,aM.of m,bG (j:=0) Y,a,_,l,.h,N,U.truth.cl,U.truth.n "holds",D6,.ac⟩]
 cases c with
 |true=>rw[20,aR ?_,⟨.j,f,_,I,.iA,.B2 U "at",iu,.tz,f,_,I,.iA,.B2 U "places",gD,?_⟩,⟨f,I,b,.gV,e,.ih,d,u,.cS,h2,λX x G g o=> ?_⟩,⟨.cU,g _ _ h1,U.T.run.cl,U.T.run.n "topmost",.ei⟩];rw[69,.M,q.end_ g h1 o (g _ _ h4) (g _ _ h3)]
 |false=>rw[18,?_];rw[69,.n,⟨.j,.j,_,Y,r,f,ro,i,t,bl,s,lf,dn,oc,p,rs,mk,b,at_,e,pl,d,u,k,val,n,.ct,row,_,Y,v,q⟩]
def XD(U:sD K mg):Sp:=λvs H Q _=>∃(r f ro i t:Addr) (bl s lf dn oc p rs mk b:V) (at_:Int) (e:V) (pl:Addr) (d u k val:V) (n:Int) (places row: .s) (a l:Addr) (m:Int) (g o:V),vs=[.i4,.ai,.lx,.fH,.bc]/\Done U.T H r f ro i t bl s lf dn oc p rs mk b at_ e pl d u k .br val .ct row .cW/\H a= .bX U.chain.c l (dF (.int m) g o)/\places.length+2<= .W/\(m=0->lP U.T H r bl lf dn oc p rs mk b (.dM+n) d u row .ct Q)/\(.iB->lP U.T H r bl lf dn oc p rs mk b .dM d u row (.ct++[g,o]) Q)
theorem Sr(U:sD K mg): .pR P w K U.T.part.f U.T.part.fd (XD U):=by
 refine U.T.part.F.az ["run","frame","row","instruction","taken","chain"] .f;obtain⟨r,f,ro,i,t,bl,s,lf,dn,oc,rf,rs,mk,b,at_,e,pl,d,u,k,val,n,places,row,a,l,m,g,o,rfl,D,N,q,R,L⟩:=h;have v:=D;obtain⟨⟨y,h1⟩,⟨I,h2⟩,h3,h4,⟨A,h5⟩,h6⟩:=D;have S:=U.T.fr.bf.cl;have z:=U.chain.cl;rw[6,⟨_,.aC 5 nd .jH (.i3 (.pj (.jl 5)) (aJ U.T.skip (A3 U.T) M W (oZ .F .e .p .a3 .aF)) (.hT (aJ U.T.fr.moved (kz U.T.fr) M.m W (cu .e (cu .ny (cu .p (ao (.l7 oX (dE (bj (.jl 5) (.jl 5))))))))))),?_⟩,⟨_,Y,t,_,.o,aM.of h6,bG (j:=0) Y,?_⟩,⟨.w7,z,U.chain.n "size",nB,.aR,cE .gW .gW⟩]
 ·rw[137,m=0]
  exact⟨.j,.j,_,Y,r,f,ro,i,t,bl,s,lf,dn,oc,rf,rs,mk,b,at_,e,pl,d,u,k,val,n,.ct,row,_,Y,v,R V⟩
 ·rw[137,.iB]
  refine⟨.j,f,_,I,.iA,.B2 U "at",iu,.tz,f,_,I,.iA,.B2 U "places",gD,.w7,z,U.chain.n "first",yE,.w7,z,U.chain.n "others",yF,.Fw .W,λt1 T=> ?_⟩;have s1: .aB (.g5 t1 [g,o]):=.gs T;refine⟨pl,t1,.o,s1 _ _ h3,aB,q,λH1 p F hp=> ?_⟩;have B:=s1.trans F;refine⟨f,I,b,.gV,e,.ih,d,u,.cS,B _ _ h2,λX x G e2 hx2=> ?_⟩;rw[293,B,e2,⟨.cU,C _ _ h1,U.T.run.cl,U.T.run.n "topmost",.ei⟩,(L V).end_ C h1 hx2 (C _ _ h4) (e2 _ _ hp)]
end FC
namespace L2
open PySem PySem.Spec PyProof.Rows
section
variable{X:Cx}
theorem HH: .ff .Pow (rI (λi j=>0<=j/\(.tg i)*j<=2^27) (.fL (i^j.toNat))):=.xJ (pow_int B.1 B.2 q)
theorem TV: .ff .LShift (rI (λi j=>0<=j/\(.tg i)+j<=2^27) (.fL (i*2^j.toNat))):=.xJ (lshift_int B.1 B.2 q)
theorem MJ(a:X.base.NoDigits)(B: .dO): .sE X (.type "str") (∃i,xs=[.aL]/\ .xc<10^4300/\ .gw .xI H):=by intro pins s σ H xs us Q I r h;obtain⟨i,rfl,hz,q⟩:=h;rw[223,r];refine str_of_int_or .c7 (.Gq a) (λ_=>⟨.str .xI,.eb _,⟨_,Y⟩,q⟩) λb=> ?_;rw[56,cY hz b]
theorem HZ{a:Expr}{l:TE}{pos:Pos}(u:X.base.NoDigits)(B: .dO)(N: .A a l): .A (.FormattedValue a (-1) none pos) (fun σ H Q=>l σ H λx m=>∃i,x= .aL/\ .xc<10^4300/\ .gw .xI m):=by rw[301,YV (.kl _ I h λv U ⟨x,m,n,M,i,ex,hz,q⟩=> ?_)];obtain⟨t,rfl⟩:=M;refine formatField_int (n.ok.hd B) (u.keeps n.bk) (λ_=>⟨.str .xI,m,.xH n,⟨_,Y⟩,q⟩) λb=> ?_;rw[56,cY hz b]
theorem xZ(y:Str):Str.empty++y=y:=by obtain⟨a⟩:=y;show(⟨(#[]:Array Nat)++a⟩:Str)=⟨a⟩;rw[Kz]
theorem T_{a b c:Expr}{l tb o:TE}{pos:Pos}(N: .A a l)(S: .km)(B: .A c o)(g:evalEach [a,b,c] .S=[.Y a,.Y b,.Y c]:=by rfl):
  .A (.JoinedStr [a,b,c] pos) (fun σ H Q=>l σ H λx m=>∃i,x= .str i/\ .aT i/\tb σ m λy q=>∃j,y= .str j/\ .aT (i++j)/\o σ q λz V=>∃k,z= .str k/\ .aT (i++j++k)/\ .gw (i++j++k) V):=by
 rw[34,wpAny_JoinedStr ?_]
 rw[9,g,.kl _ I h λv U ⟨x,m,n,M,i,ex,l1,R⟩=> ?_]
 subst ex
 obtain⟨t1,rfl⟩:=M
 rw[58,⟨i,t1,Y,by rw[xZ];exact l1,?_⟩,xZ,aE (S pins U σ m _ n R) λv u ⟨y,q,W,F,j,p,l2,L⟩=> ?_]
 subst p
 obtain⟨t2,rfl⟩:=F
 rw[0,⟨j,t2,Y,l2,?_⟩,aE (B pins u σ q _ W L) λv C ⟨z,V,t,f,k,r,e,G⟩=> ?_]
 subst r
 obtain⟨d,rfl⟩:=f
 exact⟨k,d,Y,e,e,.str (i++j++k),V,.xH t,⟨_,Y⟩,G⟩
theorem QO:i5 X "int.bit_length" (λx xs H Q=>∃i,x= .aL/\xs=[]/\Q (.Gp i) H):=by intro pins s σ H x xs v us Q I M rs h;obtain⟨i,rfl,rfl,q⟩:=h;obtain⟨t,rfl⟩:=M;cases rs;exact call_int_bit_length ⟨.Gp i,.eb _,⟨_,Y⟩,q⟩
theorem HU{a:Expr}{l:TE}{apos pos:Pos}(N: .A a l)(z: .md a "bit_length" a= .Y a:=by rfl)(q: .r8 .hd:=by rfl): .ka a "bit_length" [] (JN X.K "int" (λx xs H Q=>∃i,x= .aL/\xs=[]/\Q (.Gp i) H) l):=Bd F.plainAttrs_int slot_int_bit_length type_int_bit_length QO N z q
theorem MD(B: .dO): .r6 X "all" (∃(a:Addr) (bs: .kk),xs= .cW/\ .ob H a (bs.map V.bl)/\ .cx (bs.all id)):=by
 intro pins s σ H xs us Q I r h;obtain⟨a,bs,rfl,j,q⟩:=h;obtain⟨u,rfl,k⟩:=.r4;cases k;rw[174,I,j];refine call_all_walk (Kn .u3 ?_);have f:a≠ .u:=dj p.lt
 have S:∀(i:Nat) (v:Value),.a1 .aO= .aQ->v=Value.bool (.hP bs i):=λi v e=>by
  have M: .a1 g= .aQ:=by simpa using e
  have R:i< .r7:=.dD M;have y:i<bs.length:=.En .kj
  have W: .a1 (bs.map V.bl)=some (.bl (.hP bs i)):=by rw[gE,bS y,i4,bS y];rfl
  obtain⟨N,h1,h2⟩:=D.get W;rw[122,M];exact h2
 have c:(List.range .eY).all (λi=>.hP bs i)=bs.all id:=by
  rw[129,.kj,bh];rw[cj,<-R];rw[173,j3,j7,j7]
  ·intro h x W;obtain⟨i,hi,e⟩:=List.getElem_of_mem W;rw[106,h i (Dc.mpr hi),i4,bS hi];rw[32,e,this]
  ·intro h i hi;have z:=Dc.mp hi;rw[13,i4,bS z,h _ (List.getElem_mem z)]
 refine⟨.u,.l2,_,λi=>.hP bs i,Y,Walks.list (A:=.r0) .c7 .u a f .aO,⟨⟨.ma⟩,p.isList.push _⟩,?_,λh' tk G=> ?_⟩
 ·intro i v s' n d e U;rw[1,S i v e,lF U]
 ·rw[c];rw[2,⟨.bl (bs.all id),H,?_,Y,q⟩,.E0 I tk (G b o (by simp;exact .r1 e) .eO)]
theorem ME: .r6 X "isinstance" (∃x n t b,xs=[x,.ty n]/\gX X.K H x t/\ .G0 X.K t n= .ki/\ .cx b):=by intro pins s σ H xs us Q I r h;obtain⟨x,n,t,b,rfl,ty,e,q⟩:=h;obtain⟨u,N,rfl,M,F⟩:=vals2 r;rw[33,Pe I M ty e λtk=>⟨.ev,.eb _,Y,q⟩]
theorem Inv.J0{pins: .D}{σ:St}{H:Hp}{s:Shared}{l:Addr}{xs: .s}(I: .k)(W:H l= .gY):
  .r<= .W/\∃(g: .q) (n:Nat) (G: .aU) (i: .u2),.h3 g/\ .hK l (.BD .h2 G .aO n i):=by
 obtain⟨z,g,r,⟨cls,G,data,i⟩,e,B,n,hd⟩:=.lc l W
 cases B
 cases hd
 exact⟨z,g,n,G,i,r,e⟩
end
open AutoSeq1 (wpAny_loadPart')in
theorem Qk(l:Addr)(items:Array Value)(n:Nat)(b:Addr)(a:Array Value)(j:Nat)(G:Option Addr)(i:Array (Option Value))(F:¬(!items.isEmpty&&Builtin.List.listTooLong (items.size+a.size))=true)(h1:items.size<=sizeLine)(h2:items.size+a.size<=sizeLine+1):
  Meets (Builtin.«list.extend» ⟨[.ref l,.ref b],[]⟩) (λ_ R s=>s.heap.get? l=some {cls:=.type "list",dict:=none,data:=.seq items n,slots:= #[]}/\s.heap.get? b=some {cls:=.type "tuple",dict:=G,data:=.seq a j,slots:=i}/\R (.ok (.ret Value.none)) {s with heap:=s.heap.update l (Obj.mapSeq λx=>x++a),toks:=s.toks}):=by
 refine .of_wp λprog w A R s h=> ?_
 obtain⟨hp,g,d,tk,os⟩:=s
 obtain⟨c,S,h⟩:=h
 have f2:=yq
 have f3:=AutoSeq1.sub_list_list
 have V:=AutoSeq1.sub_tuple_list
 have e:=AutoSeq1.sub_list_tuple
 have z:(items++a).size<=sizeLine+1:=by rw[Array.size_append];exact h2
 wp_walk using (wpAny_updateSeq c Y (hz:=h1) (_hz':=z)),wpAny_loadPart' c,wpAny_loadPart' S
 exact⟨_,Y,h⟩
section
variable{X:Cx}
def UW:V-> .e5:=λx vs H Q=>∃l b xs c,x= .ou/\vs=(.c3 b)/\H l= .cu/\H b= .aE c/\ .r+ .az<= .W/\ .ea (.bZ H l (xs++c))
theorem QP:i5 X "list.extend" UW:=by
 intro pins s σ H x vs v us Q I M f h;obtain⟨l,b,xs,c,rfl,rfl,W,S,hz,q⟩:=h;cases M;obtain⟨u,rfl,ru⟩:=f.one;cases ru;rw[172,W];obtain⟨z2,V,j,G,i,a,D⟩:=I.J0 S;have y:=.cZ;have hsz: .eY+ .BG<= .W:=.Go cj
 rw[168,¬ .c (! g.toArray.isEmpty&&Builtin.List.listTooLong (.eY+ .BG)),by rw[G1 hsz,Cn];exact d7,kl F.slot_list_extend ⟨_,e,Y⟩ F.entry_list_extend (F.args_list_extend_2 _ _) (Qk l .aO n b V.toArray j G i d .u1 (by omega)) ⟨e,D,?_⟩,⟨.au,_,.Gn (g++V) W e (.r5 a) ?_,Y,q⟩];rw[28,bL]
end
theorem Q0:fillsNumberSlot .h2 "mul"= .kh:=PySem.fillsNumberSlot_seq (id:="tuple.__mul__") (r:=.ps "tuple.__rmul__") vm.lookup (by decide+kernel) F.slot_tuple_rmul.lookup (by decide+kernel)
theorem Vk:seqRepeat? .h2= .BF "tuple.__mul__":=by unfold seqRepeat?;rw[24,PySem.seqSlot_of (T:="tuple") (name:="__mul__") (id:="tuple.__mul__") vm.lookup (by decide+kernel),PySem.seqSlot_of (T:="tuple") (name:="__rmul__") (id:="tuple.__rmul__") F.slot_tuple_rmul.lookup (by decide+kernel)]
theorem OY(a:Int)(t:Tok)(l:Addr)(items: .bf)(n:Nat)(G: .aU)(i: .u2):
  Meets (Builtin.«int.__rmul__» ⟨[.hX a,.ou],[]⟩) (λ_ R s=>.hK l (.BD .h2 G items n i)/\R (.tE Value.notImplemented) s):=by
 refine .of_wp λprog w A R s h=> ?_
 obtain⟨hp,g,d,tk,os⟩:=s
 obtain⟨b,h⟩:=h
 wp_walk
 exact⟨_,Y,h⟩
theorem IM(x:Value)(m:Nat):List.foldl (λB o=>B++o) #[] (.mc #[x])=(.mc x).toArray:=by
 have h:∀(m:Nat) (acc: .bf),List.foldl (λB o=>B++o) acc (.mc #[x])=acc++(.mc x).toArray:=by
  intro m
  induction m with
  |zero=>intro acc;simp
  |succ m j=>intro acc;rw[Lk,zc,j,Lk];apply Array.ext';simp
 rw[h,Kz]
open AutoSeq1 (wpAny_loadPart')in
theorem Yy(x:Value)(l:Addr)(n:Nat)(k:Int)(u:Tok)(G:Option Addr)(i:Array (Option Value))(h1:k=1):
  Meets (Builtin.«tuple.__mul__» ⟨[.ref l,.int k u],[]⟩) (λ_ R s=>s.heap.get? l=some {cls:=.type "tuple",dict:=G,data:=.seq #[x] n,slots:=i}/\R (.ok (.ret (Value.ref l))) {s with heap:=s.heap,toks:=s.toks}):=by
 subst h1
 refine .of_wp λprog w A R s h=> ?_
 obtain⟨hp,g,d,tk,os⟩:=s
 obtain⟨a,h⟩:=h
 have f1:=Ck
 have f2:=yq
 wp_walk using wpAny_loadPart' a
 exact⟨_,Y,h⟩
open AutoSeq1 (wpAny_loadPart')in
theorem Yz(x:Value)(l:Addr)(n:Nat)(k:Int)(u:Tok)(G:Option Addr)(i:Array (Option Value))(h1:k=0):
  Meets (Builtin.«tuple.__mul__» ⟨[.ref l,.int k u],[]⟩) (λ_ R s=>s.heap.get? l=some {cls:=.type "tuple",dict:=G,data:=.seq #[x] n,slots:=i}/\R (.ok (.ret (Value.ref s.heap.objs.size))) {s with heap:=s.heap.push {cls:=.type "tuple",data:=.seq #[]},toks:=s.toks}):=by
 subst h1
 refine .of_wp λprog w A R s h=> ?_
 obtain⟨hp,g,d,tk,os⟩:=s
 obtain⟨a,h⟩:=h
 have f1:=Ck
 have f2:=yq
 wp_walk using wpAny_loadPart' a
 exact⟨_,Y,h⟩
open AutoSeq1 (wpAny_loadPart')in
theorem Yx(x:Value)(l:Addr)(n:Nat)(k:Int)(u:Tok)(G:Option Addr)(i:Array (Option Value))(h1:2<=k)(h2:k<=1000):
  Meets (Builtin.«tuple.__mul__» ⟨[.ref l,.int k u],[]⟩) (λ_ R s=>s.heap.get? l=some {cls:=.type "tuple",dict:=G,data:=.seq #[x] n,slots:=i}/\
   R (.ok (.ret (Value.ref s.heap.objs.size))) {s with heap:=s.heap.push {cls:=.type "tuple",data:=.seq ((List.replicate k.toNat #[x]).foldl (·++·) #[])},toks:=s.toks}):=by
 refine .of_wp λprog w A R s h=> ?_
 obtain⟨hp,g,d,tk,os⟩:=s
 obtain⟨a,h⟩:=h
 have f1:=Ck
 have f2:=yq
 have t:(decide (k< -(2^63))||decide (k≥2^63))=false:=by
  rw[aW (by omega),aW (by omega)];rfl
 have C:(k==1)=false:=by
  rw[lg];omega
 wp_walk using wpAny_loadPart' a
 refine yi (by rw[t];rfl) ?_
 wp_walk using wpAny_loadPart' a
 refine yi (by rw[aW (by omega:¬k<=0)];rfl) ?_
 refine yi (aW (show¬((1:Nat):Int)*k>(2^63-1)/8 by omega)) ?_
 have L:Builtin.Tuple.tupleTooMany (((1:Nat):Int)*k)=false:=aW (by rw[br];omega)
 refine yi (aW (by intro z;rw[show Builtin.Tuple.tupleTooMany (((#[x]:Array Value).size:Int)*k)=false from L]at z;cases z)) ?_
 wp_walk using wpAny_loadPart' a
 have hsz:¬(List.foldl (λB o=>B++o) #[] (List.replicate k.toNat #[x])).size>sizeLine:=by
  rw[IM,cj,lN,br];omega
 refine yi (aW hsz) ?_
 wp_walk
 exact⟨_,Y,h⟩
section
variable{X:Cx}
def U5:R2:=λx y H Q=>∃a k v,x= .B/\y= .int k/\H a= .aE [v]/\0<=k/\k<=1000/\∀H' p,(.t2 b (.dg= .l))->H' p= .aE (List.replicate k.toNat v)-> .eW p
theorem TU: .ff .Mult U5:=by
 intro pins s σ H x y v u Q I M l h;obtain⟨a,k,v,rfl,rfl,W,h1,h2,q⟩:=h;cases M;obtain⟨t,rfl⟩:=l;obtain⟨z,g,n,G,i,r,e⟩:=I.J0 W;obtain⟨N,rfl,d⟩:=.r4;have tup:∀{H':Hp} {k:Nat},.t2 b (upd H .u (.tup (List.replicate k v)) b= .l):=λ{H' k} b o S=>.dS S I.fresh S
 rw[164,∀(m:Nat),m<=1000->k.toNat=m-> .iR .e4 (.Gm s "tuple" (.gx (.mc N)) .ag),λm j C=>by
  rw[171,.mc v,.mc N,by
   clear C j
   induction m with
   |zero=>rw[71]
   |succ m c=>rw[62,d,c]]
  rw[35,⟨.e4,.g5 .u (.mc v),?_,Y,q _ _ (tup (H':=H)) (by rw[aB,C])⟩,.xG I .ag (λ_ _ q=>.co q) ⟨.sz lN,.mc N,D,?_⟩,⟨_,.ee,.aR⟩],wpAny_binaryOp_repeat_ref (T:="tuple") (U:="int") (by decide) ⟨_,e,Y⟩ (λs'=>.Gl s' k) Q0 F.fills_int_mul F.slot_int_rmul Vk F.slot_int_index.lookup (kl F.slot_int_rmul (.Gl s k) F.entry_int_rmul (F.args_int_rmul_2 _ _) (OY k t a [N].toArray n G i) ⟨e,Y,⟨_,e,Y⟩,?_⟩)];by_cases f:k=1
 ·rw[0,kl vm ⟨_,e,Y⟩ CB (Cz _ _) (Yy N a n k t G i f) ⟨e,?_⟩,⟨.B,.eb _,Y,q H a .Gc ?_⟩];rw[24,W,f]
 ·by_cases w:k=0
  ·rw[2,kl vm ⟨_,e,Y⟩ CB (Cz _ _) (Yz N a n k t G i w) ⟨e,?_⟩,fin 0 (by omega) (by rw[w];rfl)]
  ·rw[15,kl vm ⟨_,e,Y⟩ CB (Cz _ _) (Yx N a n k t G i (by omega) (by omega)) ⟨e,?_⟩,IM,fin k.toNat (by omega) rfl]
end
theorem Q7: .BE (.type "list_reverseiterator") "__len__" (pure none):=by rw[typeLookup_type,builtinLookup_eq_fast];kernel_rfl
theorem Ot: .BE (.type "list_reverseiterator") "__length_hint__" (.BF "list_reverseiterator.__length_hint__"):=by rw[typeLookup_type,builtinLookup_eq_fast];kernel_rfl
section
variable{prog:Program}{w:World}{A:Around}{E: .E}{s:Shared}{R: .mb}
theorem Ou{I l:Addr}{i:Int}{Q: .cq Bool}(hit:s.heap.IsRevIter I l i)(h:Q .a s): .cz (Builtin.List.listLengthHint (.ref I)):=by
 unfold Builtin.List.listLengthHint;rw[26,Kq .qZ Q7 ?_];show wpAny _ A (specialOf (Value.ref I) (Str.ofString "__length_hint__")>>=_) _ _ _;rw[26,Kq .qZ Ot ?_];generalize a:("list_reverseiterator.__length_hint__":String)=id0
 wp_delta
 rw[show splitId id0=some ("list_reverseiterator","__length_hint__")from by subst a;decide+kernel];subst a;rw[221,wpAny_isInstance (b:=true) .qZ (by rw[isSubtype_type];kernel_rfl) ?_,aZ h]
theorem MH{I l:Addr}{items: .bf}{Q: .E}(n: .tZ=none)(f:l≠I)(hit:s.heap.IsRevIter I l (.zU .bm))(T:s.heap.IsList l items)(G: .bm<= .W)
  (U:∀h' tk c,(.ot b I (.ch-> .aM= .l))-> .r3 .u (.BD .o7 none items.toList.reverse.toArray c #[])-> .bV .u .qT):
  .cz (call .o7 (.c3 I)):=by
 have W:Walks prog w A.in1.in1 I [I,l] [I] .bm _ _:=Walks.listRev (A:=A.in1.in1) n I l f items
 have q:I< .u:=by obtain⟨o,d,_⟩:=hit;exact bM d
 have r:l< .u:=by obtain⟨o,d,_⟩:=T;exact bM d
 have u: .u≠I:=eO q
 have nl: .u≠l:=eO r
 have x: .u∉[I,l]:=λj=>by
  rcases bu.mp j with z|z
  ·exact u z
  ·exact nl (by simpa using z)
 rw[206,Builtin.List.listSameRef .e4 (.ref I)= .a,by simp[Builtin.List.listSameRef,u],callType_codes (Q₁:=λobj N=>obj= .e4/\N=(.BC s "list" (.seq #[]))) F.called_list (F.typeCall_list_1 _) F.entry_list_init (code_list_new _ ⟨Y,Y⟩) λobj N ⟨L,es⟩=> ?_]
 subst L es
 have t:(.xF s #[]).get? .u=some (.Ee (.seq #[])):=.ee
 have p:(.xF s #[]).IsRevIter I l (.zU .bm):=hit.at λo e=>.eO
 rw[48,⟨⟨_,t,Y⟩,F.args_list_init_2 _ _,?_⟩,wpAny _ A.in1.in1 (do let old<-Builtin.List.listItems (.ref s.heap.objs.size);Builtin.List.listUpdate (.ref s.heap.objs.size) (λ_=> #[]);letGo old.toList.reverse;Builtin.List.listExtendWith (.ref s.heap.objs.size) (.ref I) .none) _ _ _]
 rw[26,?_]
 unfold Builtin.List.listItems
 rw[67,pI t Y .cE,.wa _ (updateSeq .u λ_=> #[]) _ _ _ (wpAny_updateSeq t Y ?_)]
 have H:=nG (Obj.mapSeq (λ_=>(#[]: .bf))) t Y
 have h: .ot b .u (.iC (.xF s #[])= .l-> .iC ((.xF s #[]).update .u (Obj.mapSeq (λ_=>(#[]: .bf))))= .l):=
  λb o S e=>(jz _ _ (eQ S)).trans e
 have a:=p.at λo e=>h I o (eQ u) e
 rw[26,wpAny_letGo ?_]
 unfold Builtin.List.listExtendWith
 rw[138,Cf a.typeIs ?_,.l4 h1]
 rw[67,Ko a ?_,ju (Ou a ?_)]
 rw[.n]
 have y:=(T.at λo e=>bA (o':=o) _ e).at λo e=>h l o (eQ nl) e
 refine aZ ⟨plainId_quiet F.plain_extend_loop _,codeAny_extend_loopS W.toS G _ x _ .bm 0 _ _ _ Y .ab ⟨.ab,by simpa using a,y⟩ H (ItemsOf.nil _) λs' acc c j K k=>⟨Y,?_⟩⟩
 obtain⟨h',g',d',t',o'⟩:=s'
 obtain⟨C,m,m3,m4,B⟩:=j
 have D:g'=s.gens:=m
 have V:d'=s.drawn:=m3
 have v:o'=s.os:=m4
 subst D V v
 have g:acc=items.toList.reverse.toArray:=by
  obtain⟨hz,M⟩:=k
  apply Array.ext
  ·rw[hz];simp
  ·intro i h1 h2
   have P:items[.bm-1-i]? = .i5 acc:=M i (acc[i]) (yo h1)
   have h3:i< .bm:=by simpa using h2
   rw[yo (by omega)]at P
   rw[<-eD P]
   simp[List.getElem_reverse]
 subst g
 exact U h' t' c (λb o S e=>C b o (by simp;exact⟨.r1 e,S⟩) (h b o (.r1 e) .eO)) K
end
section
variable{X:Cx}{e:Expr}{ta:TA}{p1 p2 pos1 pos2:Pos}
theorem Bi(B: .dO)(y:Gl X "list")(j:X.mg "list"=none)(k:Gl X "reversed")(x:X.mg "reversed"=none)(N: .cm [e] ta)(L: .bt e=[(.a,.dC)]:=by rfl)
  (d: .bt (.BB p2 [e] [] pos2)=[(.a,.Y (.BB p2 [e] [] pos2))]:=by rfl):
  .A (.hO "list" p1 [.BB p2 [e] [] pos2] [] pos1) (.DZ σ H (λvs m=>∃(a:Addr) (xs: .s),vs= .cW/\ay X.K m a xs/\∀l,m l=none-> .lb l m l .A4)):=by
 rw[224,jY (jP I y j (.im "list" (.fI "list")) ?_),nP ?_ d Y]
 rw[d]
 rw[6,vi ?_,jY (jP I k x (.im "reversed" (.fI "reversed")) ?_),nP (aE (N pos2 pins s σ H _ I h) λus U ⟨vs,m,n,i,a,xs,ex,C,q⟩=> ?_) L Y]
 subst ex
 obtain⟨u,rfl,D⟩:=vals1 i
 cases D
 obtain⟨g,z,pl,hz⟩:=n.list C
 refine call_reversed_list .r2 (yD ?_)
 have F:=.c0
 have f:a≠ .L:=dj pl.lt
 have W: .Bq m (.BA U a (.u0-1)):=.Bp n U λ_ _ e=>.eO
 have p:(.BA U a (.u0-1)).IsList a .aO:=pl.isList.push _
 refine MH (n.ok.hd B) f ⟨.ma⟩ p .u1 λh' tk c G t=> ?_
 have v:m (.BA U a (.u0-1)).objs.size=none:=W.fresh
 have up: .fD (U.heap.get? b) (.aM= .l):=λb o e=>G b o (.r1 e) .eO
 have r: .L<=(.BA U a (.u0-1)).objs.size:=by rw[gk];exact qb _
 rw[2,⟨.ref _,_,n.laid (o:=.lst .A4) (t':=tk) up r ?_,Y,q _ v⟩,⟨.os dy,g.reverse,c,z.reverse,t⟩]
end
def CY(x:Str):It:=⟨λi _=>i< .oq,λi H v H'=>∃T c,v= .ref T/\H T=none/\H'= .g5 T [.a5 i,.jV]/\ .xE x= .ae,λi _=>i= .oq⟩
theorem YA{P:Program}{w:World}{K:ag}{C: .bK}{a:Nat}{tpos:Pos}(e L:Addr)(x:Str)(t:Tok)(ty:String)(j:ty="str_ascii_iterator"∨ty="str_iterator"):
  .ol P w K (.Tuple C a tpos) (CY x) [e,L] e ((∃old,IsEnum h e L (.m i) old)/\h.IsStrIter L ty x t i/\e≠L) where
 mem:=by simp
 obj:=λi h st b S=>by
  obtain⟨⟨old,g⟩,⟨o,d,B,hd⟩,_⟩:=st
  rw[300,b=e∨b=L]
  rcases M with z|z
  ·rw[49,⟨_,g,.Bv⟩]
  ·rw[49,⟨o,d,.Gh hd⟩]
 keep:=λi h h' st k=>let ⟨⟨old,g⟩,⟨o,d,r⟩,f⟩:=st;⟨⟨old,k e (by simp) _ g⟩,⟨o,k L (by simp) o d,r⟩,f⟩
 item:=by
  intro X hP U F B i pins s σ H E I N st hg
  subst hP U F
  obtain⟨⟨old,g⟩,hit,f⟩:=st
  have hel:e< .u:=bM g
  have hil:L< .u:=by obtain⟨_,q,_⟩:=hit;exact bM q
  have D:Draws .a6 X.w .r0 L [L] .oq (λi v=>∃c u,.xE x= .ae/\v= .str .bY u) (λi h=>h.IsStrIter L ty x t i):=by
   rcases j with z|z
   ·rw[49,Draws.strAscii (A:=.r0) .c7 L x t]
   ·rw[49,Draws.strWide (A:=.r0) .c7 L x t]
  refine wpAny_pyNext_enum_itemD D g hit hg f (by simpa using f) λy h' tk hP d hit' hT hsz G=> ?_
  obtain⟨c,uu,hcx,rfl⟩:=hP
  refine⟨_,Y,wpAny_letOwnedTupleGo_enum (s:=.je (tk+1)) d λl p W=> ?_⟩
  have hT2:l.get? .u= .Bs #[.int i tk,.str .bY uu]:=.hb _ (eO hel) hT
  have new:dk .a6 X.w (.g5 .u [.a5 i,.jV]) l .u (.tup [.a5 i,.jV]):=
   ⟨.Fw .W,[.int i tk,.str .bY uu],.pS ⟨_,Y⟩ ⟨_,Y⟩,⟨_,hT2,.aR⟩⟩
  have n: .xx (.g5 .u [.a5 i,.jV]) l (tk+1):=
   I.J3 (ch:=[e,L]) (λb R S q=>.hb b (λz=>.Gk) (G b R (λz=>.Gk) (λz=>.Gk) q)) N .y new
  refine⟨.e4,_,n,Y,⟨_,c,Y,.hc,Y,hcx⟩,⟨⟨_,p⟩,?_,f⟩,.fe⟩
  ·obtain⟨o,q,r⟩:=hit'
   exact⟨o,.hb L (eQ f) q,r⟩
  ·have m:b< .u:=by
    rw[300,b=e∨b=L]
    rcases M with z|z
    ·rw[49,hel]
    ·rw[49,hil]
   rw[54,dj m,(N b S).1]
 done:=by
  intro X hP U F B i pins s σ H E I N st hg
  subst hP U F
  obtain⟨⟨old,g⟩,hit,f⟩:=st
  obtain⟨f0,f1,f2,f3,V,f5⟩:=.Gj L
  have T:i= .oq:=hg
  subst T
  have D:Draws .a6 X.w .r0 L [L] .oq (λi v=>∃c u,.xE x= .ae/\v= .str .bY u) (λi h=>h.IsStrIter L ty x t i):=by
   rcases j with z|z
   ·rw[49,Draws.strAscii (A:=.r0) .c7 L x t]
   ·rw[49,Draws.strWide (A:=.r0) .c7 L x t]
  exact wpAny_pyNext_enum_endD D g hit λh' eb=>⟨Y,I.turned (t':=.ag) (λb o S q=>eb b o S q) f0 f1 f3 V f5⟩
 self:=λA i s Q E st h=>let ⟨⟨_,g⟩,_⟩:=st;wpAny_pyIter_enum g h
def Ow(l:TA):TI:=fun σ H R=>l σ H λvs m=>∃x,vs=(.cX x)/\R (CY x) m
theorem Ug{X:Cx}{e:Expr}{l:TA}{p pos f:Pos}{C: .bK}{a:Nat}(y:Gl X "enumerate")(j:X.mg "enumerate"=none)(N: .cm [e] l)(L: .bt e=[(.a,.dC)]:=by rfl):
  PI X (.Tuple C a f) (.hO "enumerate" p [e] [] pos) (Ow l):=by
 rw[169,I,y,j,boot_enumerate,.kf s I h λus U ⟨vs,m,n,i,x,ex,q⟩=> ?_,L,Y]
 subst ex
 rw[223,i]
 refine call_enumerate_str λh' g hit hsz G=>wpAny_pyIter_enum g ?_
 rw[219,.Bq m h',.Bp n U G,⟨.L+1,[.L+1,.L],_,_,m,Y,W,YA (.L+1) .L x t _ ?_,⟨⟨.none,g⟩,hit,Nat.succ_ne_self _⟩,.fe,q⟩]
 ·unfold strIterType
  split
  ·exact .ao
  ·rw[8,Y]
 ·rw[300,b= .L+1∨b= .L]
  have r: .L<=b:=by
   rcases M with z|z
   ·rw[49,zp _ _]
   ·rw[49,.y]
  exact n.iO r (n.aw.fresh r)
section
variable{prog:Program}{w:World}{A:Around}{E: .E}{s:Shared}
theorem QX{L t:Addr}{i:Nat}{items: .bf}{x:Value}{Q: .E}(hit: .xy .G L t)(V: .Bn t)(W: .a1 items= .aa)
  (U:∀h',IsTupIter h' L t .z-> .m7 L h'->Q x .dX): .cz (.xD L):=by
 obtain⟨o,d,B,hd⟩:=id hit
 obtain⟨f,b,-,a,c⟩:=V
 unfold Builtin.SmallTypes.nextOf
 rw[170,.tQ "__next__" .qZ BF (vb BF .qZ entry_tupleiter_next ?_ (args_tupleiter_next _)),.om _ .m9 0 _ _ _ s d hd .bc Y ?_,.wa _ (.kZ (Value.ref t== .fq) _) _ _ s ?_]
 rw[89,aa (by exact d7),.om _ .m9 1 _ _ _ s d hd (.int i 0) Y ?_,.m6 _ (seqItems? .bc>>=_) _ _ s (pI b c ?_)]
 simp only[i0,W]
 rw[138,vd d hd (by simp) (aZ ⟨x,Y,aZ (U _ ⟨_,nG _ d (zA (nM hd _)),.gG (Dv ..),?_⟩ (Heap.SameBut.update ..))⟩),nM hd]
 simp[rawInt]
theorem QW{L t:Addr}{i:Nat}{items: .bf}{Q: .E}(n: .tZ=none)(hit: .xy .G L t)(V: .Bn t)(W: .a1 items=none)
  (P:∀h' e,Heap.ExtBut L .G h'->(∃o,.qV e/\o.cls= .Gi)->E .iQ .dX): .cz (.xD L):=by
 obtain⟨o,d,B,hd⟩:=id hit
 obtain⟨f,b,-,g,c⟩:=V
 unfold Builtin.SmallTypes.nextOf
 rw[170,.tQ "__next__" .qZ BF (vb BF .qZ entry_tupleiter_next ?_ (args_tupleiter_next _)),.om _ .m9 0 _ _ _ s d hd .bc Y ?_,.wa _ (.kZ (Value.ref t== .fq) _) _ _ s ?_]
 rw[89,aa (by exact d7),.om _ .m9 1 _ _ _ s d hd (.int i 0) Y ?_,.m6 _ (seqItems? .bc>>=_) _ _ s (pI b c ?_)]
 simp only[i0,W]
 rw[26,yj (ak (vd d hd (by simp) (.m6 _ (newExc .Gi []>>=_) _ _ _ ?_)))]
 simp only[newExc,newTuple]
 rw[26,pH (ak (m:=firstArgMember _ _) (wpAny_of_eq (a:=.fq) (by first|rfl|(simp only[firstArgMember];rfl)) (pH ?_ (by size_fits)))) (by size_fits)]
 simp only[raiseNew]
 rw[15,ak (wpAny_handled ?_),n,.qY (wpAny_throw (P _ _ (((Heap.SameBut.update ..).extBut.push _).push _) ⟨_,.ee,Y⟩))]
end
theorem Draws.tup{prog:Program}{w:World}{A:Around}(n: .tZ=none)(L t:Addr)(f:t≠L)(items: .bf):
  .qW w A L [L,t] .bm (λi v=>.a1 items= .aQ) (λi h=>.xy h L t/\IsTup h t items) where
 live:=λ_ _ st=>let ⟨o,ho,_⟩:=st.1;⟨o,ho⟩
 frame:=λ_ _ _ st G=>⟨let ⟨o,ho,r⟩:=st.1;⟨o,G L (by simp) o ho,r⟩,let ⟨o,ho,r⟩:=st.2;⟨o,G t (by simp) o ho,r⟩⟩
 item:=λi s Q E hi st U=>QX st.1 st.2 (x:=items[i]) (by simp[hi]) λh' a j=>U _ h' .ag (by simp[hi]) ⟨a,let ⟨o,ho,r⟩:=st.2;⟨o,j.extBut t o f ho,r⟩⟩ j
 done:=λs Q E st P=>QW n st.1 st.2 (by simp) P
structure ZA(z TI TO i1 i2:Addr)(f1 f2: .g):Prop where
 a1:TI≠z
 a2:TO≠z
 a3:i1≠z
 a4:i2≠z
 a5:TI≠TO
 a6:TI≠i1
 a7:TI≠i2
 a8:TO≠i1
 a9:TO≠i2
 z1:z∉f1
 z2:z∉f2
 t1:TO∉f1
 t2:TO∉f2
 b1:i2∉f1
 b2:i1∉f2
section
variable{prog:Program}{w:World}{A:Around}{E: .E}{s:Shared}
variable{z TI TO i1 i2:Addr}{f1 f2: .g}{n1 n2 k:Nat}{P1 P2: .bk Nat .aw}{S1 S2: .tC Nat}
theorem Y5{a b:Value}{Q: .E}(h: .qW w A i1 f1 n1 P1 S1)(B: .qW w A i2 f2 n2 P2 S2)(d:ZA z TI TO i1 i2 f1 f2)
  (hz: .xz .G z TO)(l: .Bw .G TI i1 i2)(m: .iO .G a b)(h1:S1 k .G)(h2:S2 k .G)(l1:k<n1)(l2:k<n2)
  (hQ:∀x y h' tk,P1 k x->P2 k y-> .By h' z TO .u-> .iO h' x y->S1 (k+1) h'->S2 (k+1) h'->IsPair h' .u x y-> .Bx= .b7->
   (∀c o,c≠z->c≠TO->c≠i1->c≠i2-> .jx c-> .qV c)-> .bV .u .qT):
  .bx prog w A (Builtin.«zip.__next__» ⟨.c3 z,[]⟩) (λfin s'=>∃v,fin= .done (.ret v)/\Q v s') E s:=by
 rw[6,.om _ .fp 2 _ _ _ _ hz Y .m5 Y ?_,.om _ .fp 3 _ _ _ _ hz Y (.ref TI) Y (ak (pI l Y ?_)),.m6 _ (Builtin.SmallTypes.ownedTupleIsFree .fp>>=_) _ _ _ ?_]
 unfold Builtin.SmallTypes.ownedTupleIsFree
 refine .nb hz Y .none Y .cE
 simp only[jd]
 rw[26,yj (.nb hz Y (.ref TO) Y (ak (.xA hz λg1 i t=>ak ?_)))]
 replace i: .xC g1 z TO:=i
 replace t: .m7 z g1:=t
 simp only[vJ,List.zipIdx_nil,zd,vE]
 have n:S1 k g1:=.qX h _ _ _ h1 (t.extBut q o (λy=>d.z1 .iP) e)
 rw[26,ak (Ce (.m6 _ (.xD i1>>=_) _ _ _ (h.item k _ _ _ l1 n λx g2 tk2 px f C=>.cE)))]
 replace C:Heap.SameBut i1 g1 g2:=C
 have K: .iO g2 a b:=.m8 C _ _ d.a8 t _ _ d.a2 m
 rw[26,pI K Y (ak (wpAny_updateSeq_pair K λg3 H L=>ak (wpAny_letGo .cE)))]
 replace H: .iO g3 x b:=H
 replace L:Heap.SameBut TO g2 g3:=L
 have V:S2 k g3:=.qX B _ _ _ h2 (L.extBut q o (λy=>d.t2 .iP) (.m8 C q o (λy=>d.b2 .iP) t q o (λy=>d.z2 .iP) e))
 rw[26,ak (Ce (.m6 _ (.xD i2>>=_) _ _ _ (B.item k _ _ _ l2 V λy U tk4 py r p=>.cE)))]
 replace p:Heap.SameBut i2 g3 U:=p
 have M: .iO U x b:=.xB p _ d.a9 H
 rw[26,pI M Y (ak (wpAny_updateSeq_pair M λP u I=>ak (wpAny_letGo (aZ .cE))))]
 replace u: .iO P x y:=u
 replace I:Heap.SameBut TO U P:=I
 rw[26,pI u Y (ak (wpAny_newTuple ?_))]
 have hsz: .oo= .u:=by rw[I.1,p.1,L.1,C.1,t.1]
 have X: .xC P z TO:=.m8 I _ _ (eQ d.a2) p _ _ (eQ d.a4) (.m8 L _ _ (eQ d.a2) C _ _ (eQ d.a3) i)
 have g:∀c o,c≠z->c≠TO->c≠i1->c≠i2-> .jx c->P.get? c= .l:=λc o F D e3 e4 e=>.xB I _ D (.m8 p _ _ e4 L _ _ D (.m8 C _ _ e3 t _ _ F e))
 have s15:S1 (k+1) P:=.qX h _ _ _ f (I.extBut q o (λy=>d.t1 .iP) (.m8 p q o (λy=>d.b1 .iP) L q o (λy=>d.t1 .iP) e))
 have s25:S2 (k+1) P:=.qX B _ _ _ r (I.extBut q o (λy=>d.t2 .iP) e)
 have N:z< .oo:=bM X
 refine .m6 _ (Builtin.SmallTypes.ownedTupleHandOut .fp (.ref .oo)>>=_) _ _ _ ?_
 unfold Builtin.SmallTypes.ownedTupleHandOut
 have z6: .xC (P.push (.hS #[x,y])) z TO:=.co X
 rw[26,.xA z6 λW z7 R=> ?_]
 replace z7: .By W z TO .oo:=z7
 replace R:Heap.SameBut z (P.push (.hS #[x,y])) W:=R
 refine .xA z7 λG T S=> ?_
 replace T: .By G z TO .oo:=T
 replace S:Heap.SameBut z W G:=S
 have up:∀c o,c≠z->P.get? c= .l->G.get? c= .l:=λc o F e=>.m8 S _ _ F R _ _ F .eO
 have T8:IsPair G .oo x y:=.m8 S _ _ (eO N) R _ _ (eO N) .ee
 have n8: .Bu G (.oo+1):=by rw[S.1,R.1,gk]
 rw[hsz]at T T8 n8
 rw[15,aZ ⟨_,Y,show .bV .oo _ from ?_⟩,hsz,hQ x y G _ px py T (up _ _ d.a2 u) (.qX h _ _ _ s15 (up q o (λy=>d.z1 .iP) e)) (.qX B _ _ _ s25 (up q o (λy=>d.z2 .iP) e)) T8 n8 λc o F D e3 e4 e=>up c o F (g c o F D e3 e4 e)]
theorem Y3{a b:Value}{Q: .cq Fin}(h: .qW w A i1 f1 n1 P1 S1)(d:ZA z TI TO i1 i2 f1 f2)
  (hz: .xz .G z TO)(l: .Bw .G TI i1 i2)(m: .iO .G a b)(h1:S1 n1 .G)
  (P:∀h' e,(∀c o,c≠z->c≠i1-> .jx c-> .qV c)->(∃o,.qV e/\o.cls= .Gi)->E .iQ .dX):
  .cz (Builtin.«zip.__next__» ⟨.c3 z,[]⟩):=by
 rw[6,.om _ .fp 2 _ _ _ _ hz Y .m5 Y ?_,.om _ .fp 3 _ _ _ _ hz Y (.ref TI) Y (ak (pI l Y ?_)),.m6 _ (Builtin.SmallTypes.ownedTupleIsFree .fp>>=_) _ _ _ ?_]
 unfold Builtin.SmallTypes.ownedTupleIsFree
 refine .nb hz Y .none Y .cE
 simp only[jd]
 rw[26,yj (.nb hz Y (.ref TO) Y (ak (.xA hz λg1 i t=>ak ?_)))]
 replace i: .xC g1 z TO:=i
 replace t: .m7 z g1:=t
 simp only[vJ,List.zipIdx_nil,zd,vE]
 have n:S1 n1 g1:=.qX h _ _ _ h1 (t.extBut q o (λy=>d.z1 .iP) e)
 rw[26,ak (Ce (.m6 _ (.xD i1>>=_) _ _ _ (h.done _ _ _ n λg2 e C g=> ?_)))]
 replace C:Heap.ExtBut i1 g1 g2:=C
 obtain⟨r,p,f⟩:=g
 have z2: .xC g2 z TO:=C _ _ (eQ d.a3) i
 have u:e≠z:=λy=>by
  subst y
  rw[z2]at p
  cases p
  simp at f
 exact .xA z2 λg3 _ L=>P g3 e (λc o F D x=>.xB L _ F (C _ _ D (.xB t _ F x))) ⟨r,.xB L _ u p,f⟩
theorem UM{a b:Value}{Q: .cq .gz}(h: .qW w A.in1 i1 f1 n1 P1 S1)(B: .qW w A.in1 i2 f2 n2 P2 S2)(d:ZA z TI TO i1 i2 f1 f2)
  (hz: .xz .G z TO)(l: .Bw .G TI i1 i2)(m: .iO .G a b)(h1:S1 k .G)(h2:S2 k .G)(l1:k<n1)(l2:k<n2)
  (U:∀x y h' tk,P1 k x->P2 k y-> .By h' z TO .u-> .iO h' x y->S1 (k+1) h'->S2 (k+1) h'->IsPair h' .u x y-> .Bx= .b7->
   (∀c o,c≠z->c≠TO->c≠i1->c≠i2-> .jx c-> .qV c)->Q (.I .u) .qT):
  .cz (pyNext .fp):=by
 rw[222,s,.fp,"zip",⟨_,hz,Y⟩]
 unfold pyNext
 exact ak (Kl (.tQ "__next__" I yL (vb yL I F.entry_zip_next (Y5 h B d hz l m h1 h2 l1 l2 λx y h' tk R L G i V e r g f=>aZ (U x y h' tk R L G i V e r g f)) (F.args_zip_next_1 _))))
theorem UL{a b:Value}{Q: .cq .gz}(h: .qW w A.in1 i1 f1 n1 P1 S1)(d:ZA z TI TO i1 i2 f1 f2)
  (hz: .xz .G z TO)(l: .Bw .G TI i1 i2)(m: .iO .G a b)(h1:S1 n1 .G)
  (U:∀h',(∀c o,c≠z->c≠i1-> .jx c-> .qV c)->Q none .dX): .cz (pyNext .fp):=by
 rw[222,s,.fp,"zip",⟨_,hz,Y⟩]
 unfold pyNext
 rw[221,Kl (.tQ "__next__" I yL (vb yL I F.entry_zip_next (Y3 h d hz l m h1 λh' e G ⟨o,f,B⟩=> ?_) (F.args_zip_next_1 _))),ak (wpAny_isInstance (T:="StopIteration") (b:=true) ⟨o,f,B⟩ isSubtype_stop (aZ (U _ G)))]
end
def ny(h:Heap)(t u:Addr):Heap:=(.pz (.pz h (.m4 .bc 0 0) (.m4 (.ref u) 0 0)) (.hS #[.ref .bD,.qU]) (.hS .Bt)).push (.gB "zip" (.fields #[.none,.m5,.m5,.ref (.bD+2),.ref (.bD+3)]))
theorem Y2(t u:Addr)(xs ys: .bf):Meets (Builtin.«zip.__new__» ⟨[.type "zip",.bc,.ref u],[]⟩) (λ_ R s=>.mZ t xs/\ .mZ u ys/\R (.tE (.ref (.u+4))) {s with heap:=ny .G t u}):=by
 refine .of_wp λprog w A R s h=> ?_;obtain⟨hp,g,d,tk,os⟩:=s;obtain⟨h1,h2,h⟩:=h;have b:=sub_zip;have t1:IsTup (Shared.heap ⟨hp,g,d,tk,os⟩) t xs:=h1;have t2:IsTup (Shared.heap ⟨hp.push (.m4 .bc 0 0),g,d,tk,os⟩) u ys:=let ⟨o,ho,r⟩:=h2;⟨o,bA _ ho,r⟩
 wp_walk using iter_tuple t1,iter_tuple t2
 refine⟨.ac⟩;simp only[gk];exact h
def C1(K:ag)(a b:Addr)(xs ys: .s):It:=⟨λi H=>.eq/\aM K H b ys/\i< .r/\i< .tY,λi H v H'=>∃T x y,v= .ref T/\H T=none/\H'= .g5 T [x,y]/\ .iN= .aa/\ .a1 ys= .d3,λi H=>.eq/\i= .r⟩
theorem YF{P:Program}{w:World}{K:ag}{elts: .bK}{kk:Nat}{tpos:Pos}{a b z TI TO f e:Addr}{xs ys: .s}
  (d:ZA z TI TO f e [f,a] [e,b])(n1:a≠f)(n2:b≠e):
  .ol P w K (.Tuple elts kk tpos) (C1 K a b xs ys) [z,TI,TO,f,e] z (.xz h z TO/\IsPair h TI .ai (.ref e)/\(∃x y,.iO h x y)/\ .xy h f a/\ .xy h e b) where
 mem:=by simp
 obj:=λi h st c B=>by
  obtain⟨hz,l,⟨x,y,m⟩,⟨o1,F,_,d1⟩,⟨C,D,_,d2⟩⟩:=st
  have M:c=z∨c=TI∨c=TO∨c=f∨c=e:=by simpa using B
  rcases M with q|q|q|q|q
  ·rw[1,q,⟨_,hz,.Bv⟩]
  ·rw[1,q,⟨_,l,.Bv⟩]
  ·rw[1,q,⟨_,m,.Bv⟩]
  ·rw[1,q,⟨o1,F,.Gh d1⟩]
  ·rw[1,q,⟨C,D,.Gh d2⟩]
 keep:=λi h h' st k=>by
  obtain⟨hz,l,⟨x,y,m⟩,⟨o1,F,R⟩,⟨C,D,L⟩⟩:=st
  exact⟨.kg z _ hz,.kg TI _ l,⟨x,y,.kg TO _ m⟩,⟨o1,.kg f o1 F,R⟩,⟨C,.kg e C D,L⟩⟩
 item:=by
  intro X hP U hK B i pins s σ H E I N st hg
  subst hP U hK
  obtain⟨hz,l,⟨x0,y0,m⟩,h1,h2⟩:=st
  obtain⟨hqa,hqb,l1,l2⟩:=hg
  obtain⟨g,rv,p,_⟩:=.cl hqa
  obtain⟨its2,rv2,T,_⟩:=.cl hqb
  have hzl:z< .u:=bM hz
  have D1:=.Gg .a6 X.w X .c7 f a n1 .aO
  have D2:=.Gg .a6 X.w X .c7 e b n2 its2.toArray
  rw[0,UM D1 D2 d hz l m ⟨h1,p⟩ ⟨h2,T⟩ (.tX rv.length l1) (.tX rv2.length l2) λu u2 h' tk pu pu2 z' TO' s1' s2' hT hsz G=> ?_,⟨_,Y,wpAny_letOwnedTupleGo_zip (s:=.qT) z' λh'' z'' W=> ?_⟩]
  have gx: .iN= .i5 xs:=bS l1
  have gy: .a1 ys= .i5 ys:=bS l2
  obtain⟨w1,F,ru⟩:=rv.get gx
  obtain⟨w2,D,xK⟩:=rv2.get gy
  have eu:w1=u:=by
   have pu': .a1 g= .V:=by simpa using pu
   rw[F]at pu'
   exact eD pu'
  have eu2:w2=u2:=by
   have pu': .a1 its2=some u2:=by simpa using pu2
   rw[D]at pu'
   exact eD pu'
  subst eu eu2
  have hT2:h''.get? .u= .Bs #[w1,w2]:=.hb _ (eO hzl) hT
  have new:dk .a6 X.w (.g5 .u [xs[i],ys[i]]) h'' .u (.tup [xs[i],ys[i]]):=
   ⟨.Fw .W,[w1,w2],.pS ru xK,⟨_,hT2,.aR⟩⟩
  have n: .xx (.g5 .u [xs[i],ys[i]]) h'' tk:=
   I.J3 (ch:=[z,TI,TO,f,e]) (λc o S q=>.hb c .qS (G c o .qS .qS .qS .qS q)) N .y new
  refine⟨.e4,_,n,Y,⟨.cS,.hc,Y,gx,gy⟩,⟨z'',?_,⟨w1,w2,?_⟩,.ad⟩,λc hcm=> ?_⟩
  ·exact .hb _ d.a1 (G _ _ d.a1 d.a5 d.a6 d.a7 l)
  ·exact .hb _ d.a2 TO'
  ·obtain⟨⟨o,q,r⟩,_⟩:=s1'
   exact⟨o,.hb _ d.a3 q,r⟩
  ·obtain⟨⟨o,q,r⟩,_⟩:=s2'
   exact⟨o,.hb _ d.a4 q,r⟩
  ·have j:c< .u:=by
    have M:c=z∨c=TI∨c=TO∨c=f∨c=e:=by simpa using hcm
    rcases M with q|q|q|q|q
    ·rw[1,q,hzl]
    ·rw[1,q,bM l]
    ·rw[1,q,bM m]
    ·rw[q];obtain⟨_,F,_⟩:=h1;exact bM F
    ·rw[q];obtain⟨_,D,_⟩:=h2;exact bM D
   rw[54,dj j,(N c hcm).1]
 done:=by
  intro X hP U hK B i pins s σ H E I N st hg
  subst hP U hK
  obtain⟨hz,l,⟨x0,y0,m⟩,h1,h2⟩:=st
  obtain⟨hqa,eg⟩:=hg
  obtain⟨g,rv,p,_⟩:=.cl hqa
  have D1:=.Gg .a6 X.w X .c7 f a n1 .aO
  have en:i= .eY:=.tX rv.length eg
  refine UL D1 d hz l m ⟨by rw[<-en];exact h1,p⟩ λh' G=>⟨Y,I.YG (t':=.ag) (ch:=[z,TI,TO,f,e]) (λc o S q=>G c o .qS .qS q) N⟩
 self:=λA i s Q E st h=>wpAny_pyIter_zip st.1 h
def OC(K:ag)(l:TA):TI:=fun σ H R=>l σ H λvs m=>∃a b xs ys,vs= .oj/\aM K m a xs/\aM K m b ys/\R (C1 K a b xs ys) m
theorem Um{X:Cx}{e D:Expr}{ta:TA}{p pos f:Pos}{C: .bK}{kk:Nat}(y:Gl X "zip")(hm:X.mg "zip"=none)(N: .cm [e,D] ta)
  (L: .b1 [e,D]=(.a,.dC):: .bt D:=by rfl)(l: .w9 [D]= .a:=by rfl):
  PI X (.Tuple C kk f) (.hO "zip" p [e,D] [] pos) (OC X.K ta):=by
 rw[169,I,y,hm,MA,.kf s I h λus U ⟨vs,m,n,i,a,b,xs,ys,ex,x,A,q⟩=> ?_,L,l]
 subst ex
 obtain⟨w,Q,rfl,r2,r3⟩:=vals2 i
 cases r2
 cases r3
 obtain⟨g,rv,p1,_⟩:=n.tuple x
 obtain⟨V,v,T,_⟩:=n.tuple A
 have E:a< .L:=by obtain⟨o,ho,_⟩:=p1;exact bM ho
 have K:b< .L:=by obtain⟨o,ho,_⟩:=T;exact bM ho
 refine callType_new F.called_zip (by decide) (F.typeCall_zip_2 _ _) (F.newCall_zip_2 _ _) (λobj=>F.args_object_init_3 obj _ _) F.entry_zip_new (Y2 a b .aO V.toArray) ⟨p1,T,?_⟩
 have t:∀(h:Heap) (o:Obj),.Bu (h.push o) (.bD+1):=λh o=>gk ..
 have P: .tV a b (.L+4)=some (.gB "zip" (.fields #[.none,.m5,.m5,.ref (.L+2),.ref (.L+3)])):=by
  have:=.xw ((.pz (.Br U .B 0 0) (.m4 .gl 0 0) (.hS #[.tW,.sn .L])).push (.hS .Bt)) (.gB "zip" (.fields #[.none,.m5,.m5,.ref (.L+2),.ref (.L+3)]))
  rw[t,t,t,t]at this
  rw[81]
 have g4: .tV a b (.L+3)= .Bs .Bt:=by
  refine .co ?_
  have:=.xw (.pz (.Br U .B 0 0) (.m4 .gl 0 0) (.hS #[.tW,.sn .L])) (.hS .Bt)
  rw[t,t,t]at this
  rw[81]
 have g3: .tV a b (.L+2)= .Bs #[.tW,.sn .L]:=by
  refine .oi ?_
  rw[165,.xw ((.Br U .B 0 0).push (.m4 .gl 0 0)) (.hS #[.tW,.sn .L]),t,t]
 have g2: .tV a b (.L+1)=some (.m4 .gl 0 0):=by
  rw[220,.co (.oi ?_),.xw (.Br U .B 0 0) (.m4 .gl 0 0),t]
  rw[81]
 have g1: .tV a b .L=some (.m4 .B 0 0):=
  .oi (.oi .ee)
 have G:∀c o,U.heap.get? c= .l-> .tV a b c= .l:=λc o e=>
  .co (.oi (.oi e))
 rw[219,.Bq m (ny U.heap a b),.Bp n U G,⟨⟨_,P,Y⟩,wpAny_pyIter_zip P ?_⟩]
 have S:∀k:Nat,∀c:Addr,c< .L-> .L+k≠c:=λk c B e=>by
  have h2: .L+k< .L:=.Bo B
  rw[56,lQ (zp _ k) h2]
 have hd:∀j k:Nat,j≠k-> .L+j≠ .L+k:=λj k h e=>h (Nat.add_left_cancel e)
 have d:ZA (.L+4) (.L+2) (.L+3) (.L+0) (.L+1) [.L+0,a] [.L+1,b]:=by
  refine⟨.m3 _ _,.m3 _ _,.m3 _ _,.m3 _ _,.m3 _ _,.m3 _ _,.m3 _ _,.m3 _ _,.m3 _ _,.tU,.ad⟩
  all_goals
   intro hm
   rcases bu.mp hm with z|z
   ·exact hd _ _ (by decide) z
   ·first
     |exact S _ _ E (cX.mp z)
     |exact S _ _ K (cX.mp z)
 refine⟨.L+4,[.L+4,.L+2,.L+3,.L+0,.L+1],_,_,m,Y,W,YF d (eQ (S _ _ E)) (eQ (S _ _ K)),⟨P,g3,⟨_,_,g4⟩,⟨_,g1,Y,Y⟩,⟨_,g2,Y,Y⟩⟩,λc u=> ?_,q⟩
 have r: .L<=c:=by
  have M:c= .L+4∨c= .L+2∨c= .L+3∨c= .L+0∨c= .L+1:=by simpa using u
  rcases M with z|z|z|z|z
  all_goals (rw[z];exact zp _ _)
 exact n.iO r (n.aw.fresh r)
theorem Ak{B:It}{n:Nat}{g:TG}{tb:TS}{D:Ends}{σ:St}{H:Hp}(Pv: .pd)(F: .gu 0)(c:∀i σ H,i<n-> .g9->B.go i H)(a:∀σ H,.gu n->B.stop n H)
  (L:∀i x σ H H',i<n-> .g9-> .tl i H x-> .AH x σ H' (.w1 .dl .dl σ2 X))(hd:∀σ H,.gu n-> .ha):
  .tR 0 m σ H (W i m σ H->
   (.iv B/\ .ha)∨(B.go i H/\ .tS (N σ' H'->∃M,M<m/\ .tT M H') (.tl i H x-> .AH x σ H' (.w1 N N σ2 X)))):=by
 rw[299,⟨.xv (m=n-i) (i<=n/\ .g9),⟨n,.o0,F⟩,?_⟩,i<n]
 ·rw[8,⟨c i σ H j p,.dl,.xu ⟨n- .z,.it,j,d⟩ (L i x σ H H' j p y)⟩]
 ·rw[99,i=n,⟨a σ H p,hd σ H p⟩]
end L2
namespace FC
open PySem PySem.Spec PyProof.Rows L2
variable{P:Program}{w:World}{K:ag}{mg: .d}{base:Heap}
section
variable{X:Cx}
theorem Ua{x:Str}{n:Int}{pos:Pos}(y: .bR)(h:∃t,.cD= .tN n)(hd: .bu= .a:=by decide): .tM .br:=by obtain⟨t,e⟩:=h;exact uQ y e ⟨t,Y⟩ hd
theorem HV{x:Str}{n:Str}{pos:Pos}(y: .bR)(h:∃t,.cD= .oc n t)(hd: .bu= .a:=by decide): .tM (.str n):=by obtain⟨t,e⟩:=h;exact uQ y e ⟨t,Y⟩ hd
theorem jl{x:Str}{a:Addr}{pos:Pos}(y: .bR)(h: .cD= .I a)(hd: .bu= .a:=by decide): .tM .B:=uQ y h Y hd
end
variable{P:Program}{w:World}{K:ag}{mg: .d}{base:Heap}
structure eB(K:ag)(c:Addr)(x qual:Str)(i j:Nat) where
 f:Addr
 fd: .lX
 F:fj K x qual (.dt i j) f fd
 m:Meth K c x f
structure L7(K:ag)(mg: .d) where
 c:Addr
 f:Addr
 fd: .lX
 F: .xs K "WrongAt.__init__" (.dt 82 0) f fd
 g:mg "WrongAt"= .I c
 fe:nS K c f
 at_:k_ K c "place"
 ca: .kd .bQ c
structure LA(K:ag)(mg: .d)(x:Str) where
 c:Addr
 g:mg x= .I c
 x:sN K c
 ca: .kd .bQ c
def cK(K:ag)(a:Addr)(xs: .N):Prop:=.G5 (.qA K a/\o.cls= .h2/\ .gZ= .seq g n/\g.size<= .W/\ .h3 .qH)
theorem cK.sq{a:Addr}{xs: .N}{H:Hp}(h:cK K a xs): .eq:=.inr h
structure sL(K:ag)(mg: .d)(x:Str)(xs: .N) where
 a:Addr
 g:mg x= .I a
 k:cK K a xs
structure rJ(P:Program)(w:World)(K:ag)(mg: .d)(x:Str)(kvs: .xr L2.V) where
 a:Addr
 g:mg x= .I a
 k:KD K P w a kvs
structure nL(K:ag)(c:Addr):Prop where
 h1: .vZ K .bQ "__class__" .G4
 h2: .G3 K .zx= .G2
 h3: .G1 K= .d2
 h4: .zi c .Be= .d2
 h5: .G0 K .bQ "str"=some .a
abbrev Lx(K:ag)(mg: .d):=eV K mg "Passage" "Passage.__init__" 11 ["blocks","instructions","beginning","reached","torn"]
abbrev Lu(K:ag)(mg: .d):=eV K mg "Opened" "Opened.__init__" 73 ["mark","inside"]
abbrev KW(K:ag)(mg: .d):=eV K mg "Inputs" "Inputs.__init__" 74 ["opened","wanting"]
abbrev LV(K:ag)(mg: .d):=eV K mg "Tokens" "Tokens.__init__" 84 ["words","places","length","at"]
abbrev LU(K:ag)(mg: .d):=eV K mg "Telling" "Telling.__init__" 153 ["pieces","length","parts"]
def wO: .hI Int:=.ke ([("MOST_DIGITS",100),("MOST_WEIGHT",200),("MOST_DIVISIONS",5000),("MOST_BYTES_inputs",4000),("MOST_OPEN",40),("INPUT_WEIGHT",1),("MOST_BYTES_reading",6000),("MOST_BLOCKS",60),("MOST_INSTRUCTIONS",300),("MOST_MADE_WITH",60),("MOST_SMALL",999),("MOST_DEPTH",160),("BETWEEN_MARKS",64),("GOES_ON",0),("ENDED",1),("WAS_REFUSED",2),("RESULT",0),("ONE_VALUE",1),("FUNCTION_AND_VALUE",2),("NOTHING",3),("MOST_PARTS",2000),("MOST_BYTES_telling",8000),("BLOCK_FRAME",0),("FOLD_FRAME",1),("BLANK",32),("FIRST_SIGN",40),("MOST_BUDGET",1000),("MOST_STEPS",100000),("OUT_OF_RANGE",-1),("NOT_THERE",-2),("NO_RUN",-3),("NO_CODE",-4),("TOO_FEW_STEPS",-5),("TOO_LARGE_TO_SHOW",-6),("NO_INPUTS_TEXT",-7),("OTHER_COUNT",-8),("NOT_ENDED",-9)]: .FZ Int) (Str.ofString p.1,p.2)
def zZ: .H:=(["len","range","str","int","all","isinstance","list","tuple","reversed","enumerate","zip","abs","max","ord","Exception"]: .tL).map .Bb
structure Txt(P:Program)(w:World)(K:ag)(mg: .d) where
 gi: .bg
 gc:vp K mg
 oG: .kd (.ref gc.L.c) gc.L.c
 fr:rO K mg
 run:DS K mg
 qT:Ds K mg .Bd
 rA:D4 K mg .Bd
 hB:D7 K mg .Bd
 dI:Cq K mg .Bd
 Vd: .kd (.ref gi.ex.U.T.R.c) gi.ex.U.T.R.c
 c_:L7 K mg
 jS:LA K mg "NoInputs"
 block:yx K mg
 held:CK K mg
 calls:Cs K mg
 bW:Lx K mg
 opened:Lu K mg
 cy:KW K mg
 tokens:LV K mg
 telling:LU K mg
 qQ:eB K bW.c "hand_on" "Passage.hand_on" 11 1
 ko:eB K cy.c "must" "Inputs.must" 74 1
 qP:eB K cy.c "innermost" "Inputs.innermost" 74 2
 uv:eB K cy.c "take_bracket" "Inputs.take_bracket" 74 3
 mG:eB K cy.c "take_value" "Inputs.take_value" 74 4
 uw:eB K cy.c "take_comma" "Inputs.take_comma" 74 5
 oO:eB K cy.c "take_end" "Inputs.take_end" 74 6
 ux:eB K cy.c "take_list_end" "Inputs.take_list_end" 74 7
 uy:eB K cy.c "take_pair_end" "Inputs.take_pair_end" 74 8
 uz:eB K cy.c "take_word" "Inputs.take_word" 74 9
 ur:eB K cy.c "take" "Inputs.take" 74 10
 oR:eB K tokens.c "are_over" "Tokens.are_over" 84 1
 kr:eB K tokens.c "here" "Tokens.here" 84 2
 kq:eB K tokens.c "go_on" "Tokens.go_on" 84 3
 oP:eB K telling.c "count_parts" "Telling.count_parts" 153 1
 oQ:eB K telling.c "write" "Telling.write" 153 2
 qR:eB K telling.c "whole" "Telling.whole" 153 3
 uq:eB K calls.c "are_over" "Calls.are_over" 181 1
 jf:eB K calls.c "take_number" "Calls.take_number" 181 2
 oN:eB K calls.c "take_text" "Calls.take_text" 181 3
 oj:aF K mg "do_get" 126
 oa:aF K mg "do_bind" 127
 md:aF K mg "do_free" 128
 oq:aF K mg "do_skip" 129
 ou:aF K mg "do_unless" 130
 om:aF K mg "do_part" 131
 tR:aF K mg "is_word" 6
 oC:aF K mg "taken_sorts" 7
 tL:aF K mg "given_count" 8
 qv:aF K mg "behind_left_out" 12
 tP:aF K mg "is_no_right_block" 13
 tQ:aF K mg "is_no_right_local" 14
 tH:aF K mg "fault_where_reached" 15
 tG:aF K mg "fault_at" 16
 tS:aF K mg "more_places" 17
 tN:aF K mg "hand_on_from" 18
 qw:aF K mg "block_fault" 19
 tD:aF K mg "code_fault" 20
 tx:aF K mg "block_heights" 21
 oA:aF K mg "shown_bound" 46
 n9:aF K mg "are_digits" 48
 mj:aF K mg "read_fraction" 49
 ow:aF K mg "fraction_text" 50
 ue:aF K mg "worked_out" 60
 qE:aF K mg "whole_root" 62
 t8:aF K mg "rooted" 63
 oy:aF K mg "pieces_of" 72
 tY:aF K mg "read_inputs" 75
 uc:aF K mg "token_places" 83
 mm:aF K mg "read_small" 85
 t7:aF K mg "read_power" 86
 t6:aF K mg "read_num" 87
 tZ:aF K mg "read_instruction" 88
 qC:aF K mg "read_block" 89
 tX:aF K mg "read_code" 90
 tU:aF K mg "only_gives" 107
 tK:aF K mg "given" 108
 qA:aF K mg "give_to" 124
 n_:aF K mg "call" 125
 og:aF K mg "do_call" 132
 oh:aF K mg "do_fold" 133
 oo:aF K mg "do_ret" 134
 tT:aF K mg "next_instruction" 136
 ua:aF K mg "taken_from" 137
 t9:aF K mg "step_block" 138
 t_:aF K mg "step_fold" 139
 qx:aF K mg "do_step" 140
 qy:aF K mg "do_steps" 141
 tF:aF K mg "do_all_steps" 142
 tM:aF K mg "go_back" 143
 qz:aF K mg "frames_of" 144
 tO:aF K mg "instruction_words" 146
 tE:aF K mg "code_text" 147
 jK:aF K mg "with_commas" 154
 tW:aF K mg "plain_text" 155
 tV:aF K mg "opened" 156
 oD:aF K mg "write_values" 157
 ud:aF K mg "value_text" 158
 tJ:aF K mg "frame_text" 159
 tI:aF K mg "frame_numbers" 160
 oB:aF K mg "sign_of" 165
 ub:aF K mg "text_of" 166
 oz:aF K mg "row_of" 167
 qB:aF K mg "load_as" 182
 mh:aF K mg "load" 183
 l_:aF K mg "check" 184
 mq:aF K mg "show" 185
 mf:aF K mg "heights" 186
 l9:aF K mg "begin" 187
 qD:aF K mg "standing" 188
 mr:aF K mg "step" 189
 mn:aF K mg "run" 190
 l8:aF K mg "back" 191
 lZ:aF K mg "answer" 192
 me:aF K mg "frames" 193
 mi:aF K mg "look" 194
 ma:aF K mg "count" 195
 lh:aF K mg "answers" 197
 oH:∀p∈wO,∃t,mg p.1= .tN p.2
 Fj:∀x∈zZ,mg x=none
 bJ:sL K mg "WITH_SMALL_NUMBER" [.Fs,.AW,.str "fn",.Fr,.Fq,.qx,.tv,.tu]
 ya:sL K mg "GIVING_NOTHING" [.str "bind",.AW,.qx,.tv,.tu,.str "ret"]
 pA:sL K mg "JUMPING" [.qx,.tv,.tu]
 bK: .ju Addr
 bI:rJ P w K mg "TAKES" [(.inr "num",.b6 "num"),(.inr "true",.b6 "true"),(.inr "false",.b6 "false"),(.inr "nil",.b6 "nil"),(.inr "get",.b6 "get"),(.inr "bind",.b6 "bind"),(.inr "free",.b6 "free"),(.inr "skip",.b6 "skip"),(.inr "unless",.b6 "unless"),(.inr "part",.b6 "part"),(.inr "pair",.b6 "pair"),(.inr "fst",.b6 "fst"),(.inr "snd",.b6 "snd"),(.inr "cons",.b6 "cons"),(.FX,.b6 "add"),(.FW,.b6 "sub"),(.FV,.b6 "mul"),(.FU,.b6 "div"),(.FT,.b6 "floor"),(.FS,.b6 "rest"),(.inr "pow",.b6 "pow"),(.inr "root",.b6 "root"),(.inr "less",.b6 "less"),(.inr "same",.b6 "same"),(.inr "call",.b6 "call"),(.inr "fold",.b6 "fold"),(.inr "ret",.b6 "ret")]
 Ge: .b5 K "num" []
 Gr: .b5 K "true" []
 F5: .b5 K "false" []
 Gd: .b5 K "nil" []
 F_: .b5 K "get" []
 F1: .b5 K "bind" [.lW]
 F8: .b5 K "free" []
 Gn: .b5 K "skip" []
 Gs: .b5 K "unless" (.cX "truth")
 Gg: .b5 K "part" (.cX "list")
 Gf: .b5 K "pair" [.lW,.lW]
 F9: .b5 K "fst" (.cX "pair")
 Gp: .b5 K "snd" (.cX "pair")
 F3: .b5 K "cons" [.lW,.FY]
 F0: .b5 K "add" [.d1,.d1]
 Gq: .b5 K "sub" [.d1,.d1]
 Gb: .b5 K "mul" [.d1,.d1]
 F4: .b5 K "div" [.d1,.d1]
 F6: .b5 K "floor" [.d1,.d1]
 Gi: .b5 K "rest" [.d1,.d1]
 Gh: .b5 K "pow" [.d1]
 Gk: .b5 K "root" [.d1]
 Ga: .b5 K "less" [.d1,.d1]
 Gm: .b5 K "same" [.d1,.d1]
 F2: .b5 K "call" [.str "function",.lW]
 F7: .b5 K "fold" [.lW,.lW,.FY]
 Gj: .b5 K "ret" [.lW]
 ir:rJ P w K mg "WORKS" [(.FX,.ref gi.ex.U.T.add.f),(.FW,.ref gi.ex.U.T.sub.f),(.FV,.ref gi.ex.U.T.mul.f),(.FU,.ref gi.ex.U.div.f),(.FT,.ref gi.ex.U.floor.f),(.FS,.ref gi.ex.U.rest.f)]
 cv:rJ P w K mg "GIVERS" [(.inr "num",.ref gi.num.f),(.inr "true",.ref gi.nk.f),(.inr "false",.ref gi.mu.f),(.inr "nil",.ref gi.nil.f),(.inr "fn",.ref gi.fn.f),(.inr "pair",.ref gi.mC.f),(.inr "fst",.ref gi.fst.f),(.inr "snd",.ref gi.snd.f),(.inr "cons",.ref gi.cons.f),(.FX,.tO gi),(.FW,.tO gi),(.FV,.tO gi),(.FU,.tO gi),(.FT,.tO gi),(.FS,.tO gi),(.inr "pow",.ref gi.pow.f),(.inr "root",.ref gi.root.f),(.inr "less",.ref gi.less.f),(.inr "same",.ref gi.same.f)]
 fB:rJ P w K mg "DOERS" [(.inr "get",.ref oj.f),(.inr "bind",.ref oa.f),(.inr "free",.ref md.f),(.inr "skip",.ref oq.f),(.inr "unless",.ref ou.f),(.inr "part",.ref om.f),(.inr "call",.ref og.f),(.inr "fold",.ref oh.f),(.inr "ret",.ref oo.f)]
 x_:sL K mg "CALLS" [.ref mh.f,.ref l_.f,.ref mq.f,.ref mf.f,.ref l9.f,.ref mr.f,.ref mn.f,.ref l8.f,.ref lZ.f,.ref me.f,.ref mi.f,.ref ma.f]
 Fh:∃t,mg "MARKS"= .oc "[]()," t
 Am:∃t,mg "SIGNS"= .oc "()*+,-./0123456789:;<=>?@ABCDEFGHIJKLMNOPQRSTUVWXYZ[\\]^_`abcdefghijklmnopqrstuvwxyz" t
 G6:nL K gi.ex.U.T.num.c
 G8:nL K gi.truth.c
 AS:nL K gi.so.chain.c
 G7:nL K gi.pair.c
 G5:nL K gi.func.c
abbrev Txt.ru(T: .b): .k7:=⟨T.run,T.fr,.lP,T.oj,T.oa,T.md,T.oq,T.ou,T.om⟩
abbrev Txt.xK(T: .b):sD K mg:=⟨T.ru,T.gi.truth,T.gi.so.chain⟩
abbrev Txt.R(T: .b): .bS:=T.gi.ex.U.T.R
theorem Txt.Oa(T: .b)(x:Str)(n:Int)(h:(x,n)∈wO:=by decide):∃t,mg x= .tN n:=T.oH _ h
theorem Txt.gb(T: .b)(x:Str)(h:x∈zZ:=by decide):mg x=none:=T.Fj x h
section
variable{X:Cx}{e o:Expr}{es: .bK}{pos p apos:Pos}{ta te:TE}{t:TA}{C:Addr}{m qual:Str}{i j k:Nat}{ps: .H}{sp:Sp}{E:L2.St->XK}
theorem Txt.bE(T:Txt P w X.K X.mg)(x:Str)(n:Int)(h:(x,n)∈wO:=by decide)(y: .bR:=by rfl)(hd: .bu= .a:=by decide): .tM .br:=Ua y (T.Oa x n h) hd
theorem Txt.cA(T:Txt P w X.K X.mg)(a: .eB)(y:Gl X "len":=by rfl)(U: .bt e= .kc (.a,.dC):=by rfl)(l: .w9 []= .a:=by rfl): .kb "len" p [e] (rq (λxs H Q=>∃a c,xs= .cW/\(.ob H a c∨aM X.K H a c)/\ .dr .az) (cN te f9)):=jT z8 y .Ev DO (cu a dO U) (by decide) (by decide) U l
theorem Txt.lC(T:Txt P w X.K X.mg)(a: .eB)(y:Gl X "len":=by rfl)(U: .bt e= .kc (.a,.dC):=by rfl)(l: .w9 []= .a:=by rfl): .kb "len" p [e] (rq (λxs H Q=>∃z,xs=(.cX z)/\ .aT z/\ .dr .c0) (cN te f9)):=jT MF y .Ev DO (cu a dO U) (by decide) (by decide) U l
theorem c5{pl: .lV}(g: .jo o)(c: .oa C)(M:eB X.K C m qual i j)(F:ah .a6 X.w X.K X.mg .ca .o1 k M.f M.fd ps sp)(b: .h7)(W:gI X E)(N: .g7)(S: .qM (.a8= .aV->bindArgs (.fk m qual (ja (.dt i j)) (hI (.dt i j)) (d4 (.dt i j)) .none z pm q G ct) ⟨.fg⟩= .o9):=by rw[166])
  (R: .fm= .fl:=by rfl)(l: .iG= .a:=by rfl)
  (V: .qL o m (e::es)=(do
   let a<-eval o X.env
   standAt apos.atName
   let (f,first)<-holding [a] (getMethod a m pl)
   callWith pos f first (backTo pos (starEach (e::es) X.env)) (backToKw pos (keywordEach [] X.env))):=by rfl):
  .ka o m (e::es) (x6 C m sp [] E ta t):=Ub g c M.m F b (.Bc M) .nil .bn N R l V
theorem dq{pl: .lV}(g: .jo o)(c: .oa C)(M:eB X.K C m qual i j)(F:ah .a6 X.w X.K X.mg .ca .o1 k M.f M.fd ps sp)(b: .h7)(W:gI X E)(S: .qM (.a8= .aV->bindArgs (.fk m qual (ja (.dt i j)) (hI (.dt i j)) (d4 (.dt i j)) .none z pm q G ct) ⟨.fg⟩= .o9):=by rw[166])
  (V: .qL o m []=(do
   let a<-eval o X.env
   standAt apos.atName
   let (f,first)<-holding [a] (getMethod a m pl)
   callWith pos f first (backTo pos (starEach [] X.env)) (backToKw pos (keywordEach [] X.env))):=by rfl):
  .ka o m [] (x6 C m sp [] E ta f9):=Uc g c M.m F b (.Bc M) .nil .bn V
end
end FC
namespace Fr
abbrev Q:=Vaunia.Q
def ofRat(r:Rat):Q:=⟨r.num,r.den⟩
theorem Rb{a b:Rat}(h:ofRat a=ofRat b):a=b:=by injection h with h1 h2;exact Rat.ext h1 h2
theorem of_eq(n:Int)(d:Nat)(hd:d≠0):Vaunia.Q.of n d=ofRat .ho:=by unfold Vaunia.Q.of ofRat;rw[aa hd,Rat.num_mkRat,Rat.den_mkRat,aa hd,aa hd,Dk]
structure Is(q:Q)(n:Int)(d:Nat):Prop where
 pos:0<d
 eq:q=ofRat .ho
theorem Is.of(n:Int){d:Nat}(hd:0<d):Is (Vaunia.Q.of n d) n d:=⟨hd,of_eq n d (eO hd)⟩
theorem Is.ofInt(n:Int):Is (Vaunia.Q.ofInt n) n 1:=⟨Nat.one_pos,by unfold Vaunia.Q.ofInt ofRat;rw[Rat.num_mkRat,Rat.den_mkRat];simp⟩
theorem Is.den{q:Q}{n:Int}{d:Nat}(h: .iT): .an≠0:=.Hh (.ho).den_nz
theorem GP(r:Rat):mkRat r.num r.den=r:=Rat.mkRat_self r
theorem Is.i_{q:Q}{n:Int}{d:Nat}(h: .iT): .aP* .ay=n* .ik:=by
 rw[131,mkRat .aP .an,.ho,.Hh (GP _),(zH h.den (eO .hf)).mp e]
theorem Is.same{p q:Q}{n m:Int}{d e:Nat}(h: .kz)(k: .hp):(p=q)↔n* .uD=m* .ay:=by
 rw[307,h.eq,k.eq]
 ·intro z;exact(zH (eO .hf) (eO k.pos)).mp (Rb z)
 ·intro z;rw[(zH (eO .hf) (eO k.pos)).mpr z]
theorem Is.to{q:Q}{n m:Int}{d e:Nat}(h: .iT)(g:0<e)(z:n* .uD=m* .ay): .hp:=⟨g,by rw[h.eq,(zH (eO .hf) (eO g)).mpr z]⟩
theorem Is.self{q:Q}{n:Int}{d:Nat}(h: .iT):Is q .aP .an:=⟨sm h.den,.Fg h.eq _ (ofRat (mkRat (.ho).num (.ho).den)) GP⟩
theorem Is.neg{q:Q}{n:Int}{d:Nat}(h: .iT):Is (Vaunia.Q.neg q) (-n) d:=by
 have B:=h.i_;rw[261,Vaunia.Q.neg q,ofRat (- .ho),h.eq]
 refine⟨.hf,?_⟩;rw[e,<-Rat.neg_mkRat]
theorem Is.add{p q:Q}{n m:Int}{d e:Nat}(h: .kz)(k: .hp):Is (p.add q) (n*e+m*d) (d*e):=by
 unfold Vaunia.Q.add;have hp:=h.self;have kp:=k.self;refine(Is.of _ (lR hp.pos kp.pos)).to (lR .hf k.pos) ?_;have t:=h.i_;have C:=k.i_;push_cast;have a1:p.num* .ik*(.ay*e)=(p.num*d)*(.an*e):=by simp only[fQ,fR,fk]
 have a2: .aP*(.CC p)*(.ay*e)=(.aP*e)*(p.den*d):=by simp only[fQ,fR,fk]
 rw[CL,CL,a1,a2,t,C];congr 1<;>simp only[fQ,fR,fk]
theorem Is.sub{p q:Q}{n m:Int}{d e:Nat}(h: .kz)(k: .hp):Is (p.sub q) (n*e-m*d) (d*e):=by have:=h.add k.neg;rw[rY,<-K8]at this;exact this
theorem Is.mul{p q:Q}{n m:Int}{d e:Nat}(h: .kz)(k: .hp):Is (p.mul q) (n*m) (d*e):=by
 unfold Vaunia.Q.mul;have hp:=h.self;have kp:=k.self;refine(Is.of _ (lR hp.pos kp.pos)).to (lR .hf k.pos) ?_;have t:=h.i_;have C:=k.i_;push_cast;have a1:p.num* .aP*(.ay*e)=(p.num*d)*(.aP*e):=by simp only[fQ,fR,fk]
 rw[a1,t,C];simp only[fQ,fR,fk]
theorem Is.zero{q:Q}{n:Int}{d:Nat}(h: .iT): .aP=0↔n=0:=by
 have c:=h.i_;have hd: .ay≠0:=.uF h
 have g: .ik≠0:=.ye h
 constructor
 ·intro z;rw[z,Int.zero_mul]at c;exact(Int.mul_eq_zero.mp c.symm).resolve_right g
 ·intro z;rw[z,Int.zero_mul]at c;exact(Int.mul_eq_zero.mp c).resolve_right hd
theorem Is.xi{q:Q}{n:Int}{d:Nat}(h: .iT): .aP<0↔n<0:=by
 have c:=h.i_;have hd: .gg d:=.uF h
 have g: .gg .an:=.ye h
 constructor
 ·intro z;have k: .aP* .ay<0:=K4 z hd;rw[c]at k;exact yY.mp λw=>yY.mpr k (pT w (rW g))
 ·intro z;have k:n* .ik<0:=K4 z g;rw[<-c]at k;exact yY.mp λw=>yY.mpr k (pT w (rW hd))
theorem Jh(z:Int):z.sign*z=(.rs:Int):=by rw[fk,Int.mul_sign_self]
theorem Is.inv{q:Q}{m:Int}{e:Nat}(k: .hp)(j: .iB):Is q.inv (m.sign*e) .rt:=by
 have G: .aP≠0:=λz=>j (k.zero.mp z);unfold Vaunia.Q.inv;refine(Is.of _ (Int.natAbs_pos.mpr G)).to (Int.natAbs_pos.mpr j) ?_;have c:=k.i_
 have L:q.num.sign=m.sign:=by
  rcases vx m 0 with z|z|z
  ·rw[vA z,vA (k.xi.mpr z)]
  ·rw[5,z,j]
  ·have:¬ .aP<0:=λw=>by have:=k.xi.mp w;omega
   rw[vB z,vB (by omega)]
 rw[L,fQ,fQ];congr 1;rw[<-Jh m,<-Jh .aP,L];rw[326,.ik*(m.sign*m)=m.sign*(m* .an)]
 rw[this,<-c];simp only[fQ,fR,fk]
theorem Is.div{p q:Q}{n m:Int}{d e:Nat}(h: .kz)(k: .hp)(j: .iB):Is (p.div q) (n*(m.sign*e)) (d* .rt):=h.mul (k.inv j)
theorem Is.div_pos{p q:Q}{n m:Int}{d e:Nat}(h: .kz)(k: .hp)(j:0<m):Is (p.div q) (n*e) (d* .rt):=by have:=h.div k (by omega);rw[vB j,yZ]at this;exact this
theorem Is.wA{p q:Q}{n m:Int}{d e:Nat}(h: .kz)(k: .hp)(j:m<0):Is (p.div q) (-n*e) (d* .rt):=by have:=h.div k (by omega);rw[vA j,Int.neg_one_mul,yW,<-rY]at this;exact this
theorem Nl{a n b d:Int}(S:0<b)(hd:0<d)(h:a*d=n*b):a/b=n/d:=by
 rw[39,a/b=(a*d)/(b*d),by rw[K2 _ _ hd],n/d=(n*b)/(d*b),by rw[K2 _ _ S]]
 rw[F,D,h,fk b d]
theorem Is.floor{q:Q}{n:Int}{d:Nat}(h: .iT):q.floor=n/ .ay:=Nl (.ye h) (.uF h) h.i_
theorem NJ(x y:Int):Int.fdiv (-x) (-y)=Int.fdiv x y:=Int.neg_fdiv_neg x y
theorem Is.floorOf{p q:Q}{n m:Int}{d e:Nat}(h: .kz)(k: .hp)(j: .iB):Vaunih.floorOf p q=Int.fdiv (n*e) (m*d):=by
 unfold Vaunih.floorOf;have hd: .gg d:=.uF h
 rcases vx m 0 with z|z|z
 ·rw[(h.wA k z).floor,<-NJ,lL _ (by rw[<-rY];exact .Hj)];congr 1
  ·rw[rY]
  ·push_cast;rw[<-rY,fk];rw[139]
 ·rw[5,z,j]
 ·rw[(h.div_pos k z).floor,lL _ .Hj];congr 1;push_cast;rw[fk];rw[139]
theorem Is.rest{p q:Q}{n m:Int}{d e:Nat}(h: .kz)(k: .hp)(j: .iB):Is (p.sub (q.mul (.Hd p q))) (Int.fmod (n*e) (m*d)) (d*e):=by have:=h.sub (k.mul (Is.ofInt (Vaunih.floorOf p q)));rw[h.floorOf k j]at this⊢;rw[Nat.mul_one]at this;refine this.to this.pos ?_;congr 1;rw[Int.fmod_def];congr 1;simp only[fQ,fR,fk]
theorem Is.pow{q:Q}{n:Int}{d:Nat}(h: .iT)(k:Nat):Is (q.pow k) (n^k) (d^k):=by unfold Vaunia.Q.pow;refine(Is.of _ (lS h.self.pos)).to (lS .hf) ?_;push_cast;rw[<-CQ,<-CQ,h.i_]
theorem Is.lt{p q:Q}{n m:Int}{d e:Nat}(h: .kz)(k: .hp):p.lt q= .f5 (n* .uD) (m* .ay):=by
 unfold Vaunia.Q.lt;congr 1;have t:=h.i_;have C:=k.i_;have hd: .gg d:=.uF h
 have g: .gg e:=.uF k
 have c: .gg p.den:=.ye h
 have f: .gg .an:=.ye k
 rw[39,p.num* .ik*(d*e)=(n*e)*(p.den* .an),by
  rw[326,p.num* .ik*(d*e)=(p.num*d)*(.an*e)]
  rw[this,t];simp only[fQ,fR,fk],.aP*(.CC p)*(d*e)=(m*d)*(p.den* .an),by
  rw[326,.aP*(.CC p)*(d*e)=(.aP*e)*(p.den*d)]
  rw[this,C];simp only[fQ,fR,fk]]
 have a: .gg (d*e):=Int.mul_pos hd g;have b: .gg ((.CC p)* .an):=Int.mul_pos c f;apply propext;constructor
 ·intro z;rw[106,K3 z a,F,D];exact K1 this (rW b)
 ·intro z;have:=K3 z b;rw[<-F,<-D]at this;exact K1 this (rW a)
end Fr
namespace Sq
theorem QV{r x:Nat}(W:0<x):2*r<=x+r*r/x:=by
 have h:(2*r-x)*x<=r*r:=by
  rcases Nat.le_total x (2*r)with k|k
  ·obtain⟨d,hd⟩:∃d,2*r=x+d:=⟨2*r-x,by omega⟩;rw[65,2*r-x=d,by omega]
   rw[232,(.m (d*x))<=(.m (r*r)),by
    rw[79,(2:Int)*r=x+d,by exact_mod_cast hd,0<=((r:Int)-x)*(r-x),by
     rcases CN 0 ((r:Int)-x)with q|q
     ·exact pT q q
     ·exact K5 q q]
    have h3: .ay=2*r-x:=by omega
    push_cast;rw[h3]
    grind]
  ·rw[204,2*r-x=0]
   rw[28,this]
 rw[23,(vM W).mpr h]
theorem JD(r:Nat)(M:0<r):∀(k x:Nat),r<=x->x-r<2^k->Vaunih.sqrtFrom (r*r) k x=r
 |0,x,h1,h2=>by
  have:x=r:=by simp at h2;omega
  rw[19,this]
 |k+1,x,h1,h2=>by
  have W:0<x:=by omega
  have b:=QV (r:=r) W
  show(if(x+r*r/x)/2<x then Vaunih.sqrtFrom (r*r) k ((x+r*r/x)/2)else x)=r
  rw[17,x,r]
  ·subst e
   have:x*x/x=x:=Nat.mul_div_cancel _ W
   rw[this,.gJ]
  ·have j:r<x:=by omega
   have c:r*r/x<=r:=by
    rw[2,Nat.div_le_of_le_mul ?_,zt r h1]
   have a:(x+r*r/x)/2<x:=by omega
   rw[9,af a,JD r M k _ (by omega) ?_]
   rw[324,sr]
theorem JE(r:Nat): .Hg (r*r) r:=by
 unfold Vaunih.sqrt;rw[136,r]
 ·subst F;rfl
 ·have M:0<r:=sm F;have G:r*r≠0:=eO (lR M M);rw[aa G];have a:=Nat.lt_log2_self (n:=r*r);have V:∀j:Nat,(2:Nat)^(2*j)=4^j:=.H7 qd
  rw[219,r<=2^(.uE r r/2+1),by refine vN .a2;rw[291,Nat.mul_lt_mul_of_lt_of_lt z z,i6];rw[30,2^(.uE r r+1)<=2^(.uE r r/2+1+(.uE r r/2+1)),.Cy],JD r M _ _ W ?_];rw[30,2^(.uE r r/2+1)<=2^(.uE r r+2),.Cy]
theorem JC{a b j:Nat}(B:Nat.Coprime a b)(h:a*b=j*j):∃u,a=u*u:=by
 refine⟨.BN j,?_⟩;have h1: .BN j* .BN j=Nat.gcd (a^2) (j^2):=by rw[Nat.pow_gcd_pow,vP]
 rw[h1,vP,vP,<-h,Nat.gcd_mul_left,B,Nat.mul_one]
end Sq
namespace Fr
open Vaunih
theorem Is.parts{q:Q}{n:Int}{d:Nat}(h: .iT):∃g:Nat,0<g/\n= .aP* .qg/\d= .an*g/\Nat.Coprime .g1 .an:=by
 rw[10,.ho,⟨.aP,.an,h.den,.Hh (.ho).reduced⟩,by
  apply Rat.ext
  ·rw[46,(.ho).num= .aP,h.eq]
  ·rw[46,(.ho).den= .an,h.eq]]
 obtain⟨g,y,h1,h2⟩:=Rat.mkRat_num_den (eO .hf) e;rw[15,⟨g,sm y,.cc,?_⟩,h.eq,(.ho).reduced]
theorem Is.low{m:Int}{l:Nat}(R:0<l)(B:Nat.Coprime .rt l):Is ⟨m,l⟩ m l:=by refine⟨R,?_⟩;have e:=Rat.mk_eq_mkRat m l (eO R) B;rw[<-e];rfl
theorem Is.root{q:Q}{n d:Nat}(h:Is q .Z d):(∀k:Nat,n*d=k*k->∃p,rootOf q=some p/\Is p .bq d)/\((∀k:Nat,n*d≠k*k)->rootOf q=none):=by
 obtain⟨g,y,h1,h2,B⟩:=h.parts;rw[158,¬ .aP<0,by have:=h.xi.mp z;omega]
 have N:(.ky:Int)= .aP:=CV (by omega);have l: .g1= .ky:=by omega
 have w:n= .ky*g:=by
  rw[232,.Z=(.m (.ky*g)),by rw[h1];push_cast;rw[N]]
 have s:0< .an:=sm h.den;rw[l]at B;have key:n*d= .ky* .an*(g*g):=by rw[w,h2];simp only[sj,zu,gW]
 constructor
 ·intro k G;have o:g∣k:=by have:g^2∣k^2:=⟨.ky* .an,by rw[vP,vP,<-G,key,gW]⟩;exact(Nat.pow_dvd_pow_iff (by decide)).mp this
  obtain⟨j,rfl⟩:=o
  have t: .ky* .an=j*j:=by
   rw[131,.ky* .an*(g*g),j*j*(g*g),by rw[<-key,G];simp only[sj,zu,gW],Nat.eq_of_mul_eq_mul_right (lR y y) e]
  obtain⟨u,L⟩:=Sq.JC B t;obtain⟨v,D⟩:=Sq.JC B.symm (by rw[gW];exact t);have U: .Hg .ky u:=by rw[L,Sq.JE]
  have x: .Hg .an v:=by rw[D,Sq.JE]
  have r:j=u*v:=by
   have:j*j=(u*v)*(u*v):=by rw[<-t,L,D];simp only[sj,zu,gW]
   exact Nat.mul_self_inj.mp this
  have c:0<v:=sm λz=>by rw[z]at D;omega
  refine⟨⟨(u:Int),v⟩,.ad⟩
  ·unfold rootOf;rw[323,aa f];rw[U,x,af ⟨L.symm,D.symm⟩]
  ·have i:Nat.Coprime u v:=by rw[L,D]at B;exact Nat.Coprime.coprime_dvd_right (Lp v v) (Nat.Coprime.coprime_dvd_left (Lp u u) B)
   refine(Is.low (m:=(u:Int)) c (.F1 i)).to .hf ?_;rw[h2,r,D];push_cast;simp only[fQ,fR,fk]
 ·intro G;unfold rootOf;rw[aa f];rw[78,aa];rintro⟨a,b⟩;rw[7,G (Vaunih.sqrt .ky*Vaunih.sqrt .an*g) ?_,key]
  conv=>lhs;rw[<-a,<-b]
  simp only[sj,zu,gW]
end Fr
namespace Sq
theorem core{B p t r:Int}(hp:1<=p)(b:p*p<=B)(g:0<=r)(i:r<4*B)(lo:4*(B*t)-8*(p*B)+8*(p*p)<=r)(hi:r<4*(B*t)+8*(p*B)+4*(p*p)):
  (t+1)*(t+1)<4*B+r:=by
 have S:1<=B:=by
  rw[30,(1:Int)*1<=p*p,CO hp hp (by omega) (by omega)]
 have up:t<=2*p:=by
  refine Int.not_lt.mp .a2
  have k:=CP (.zm (2*p+1) t) (.Hi B)
  rw[Int.mul_add,rX,fR]at k
  rw[283,B*p,p*B,fk _ _,e]
  rw[30,0<=p*p,.Hj]
 have dn: -(2*p)<=t:=by
  refine Int.not_lt.mp .a2
  have k:=CP (.zm t (-(2*p)-1)) (.Hi B)
  rw[CS,rX,yW,fR]at k
  rw[283,B*p,p*B,fk _ _,e]
  omega
 have sq:∀x y:Int,-y<=x->x<=y->x*x<=y*y:=by
  intro x y h1 h2
  rcases CN 0 x with h|h
  ·exact CO h2 h2 h (by omega)
  ·have:(-x)*(-x)<=y*y:=CO (by omega) (by omega) (by omega) (by omega)
   rwa [Int.neg_mul_neg]at this
 rw[39,(2*p-1)*(2*p-1)=4*(p*p)-4*p+1,by
  rw[Int.sub_mul,CS,yZ,rX,show 2*p*(2*p)=4*(p*p)from by rw[fQ,fR p 2 p,<-fQ];rfl]
  omega,(2*p)*(2*p)=4*(p*p),by rw[fQ,fR p 2 p,<-fQ];rfl]
 have s:(2*p+1)*(2*p+1)=4*(p*p)+4*p+1:=by
  rw[CL,Int.mul_add,yZ,rX,D]
  omega
 have T:p<=p*p:=by
  rw[23,CP hp (.Hi p)]
 rcases vx t (2*p-1)with h|h|h
 ·have k:=sq (t+1) (2*p-1) (by omega) (by omega)
  rw[F]at k
  omega
 ·subst h
  have k:B*(2*p-1)=2*(p*B)-B:=by rw[CS,rX,fR,fk B p]
  rw[k]at lo
  have:(2*p-1+1)*(2*p-1+1)=4*(p*p):=by rw[show 2*p-1+1=2*p from by omega,D]
  rw[28,this]
 ·have V:t=2*p:=by omega
  subst V
  have k:B*(2*p)=2*(p*B):=by rw[fR,fk B p]
  rw[k]at lo
  rw[28,s]
theorem XN{a p M q r:Int}(N:1<=a)(hp:1<=p)(v:p<=a)(y:M=4*(a*p)*q+r)(g:0<=r)(i:r<4*(a*p))(lo:4*(p*p)*((a-1)*(a-1)+1)<=M)(hi:M<4*(p*p)*((a+1)*(a+1))):
  (a*p+q-1)*(a*p+q-1)<M/\M<(a*p+q+1)*(a*p+q+1):=by
 have b:p*p<=a*p:=Int.mul_le_mul_of_nonneg_right v (by omega)
 have c:=core (B:=a*p) (p:=p) (t:=a*p-q) (r:=r) hp b g i (by grind) (by grind)
 constructor
 ·grind
 ·have:0<=(a*p-q-1)*(a*p-q-1):=by
   rcases CN 0 (a*p-q-1)with h|h
   ·exact pT h h
   ·exact K5 h h
  grind
theorem step{n c d e a:Nat}(G:4^c<=n)(h:e<d)(hd:d<=2*e+1)(i:d<=c)(N:1<=a)(lo:(a-1)*(a-1)<n/4^(c-e))(hi:n/4^(c-e)<(a+1)*(a+1)):
  1<=a*2^(d-e-1)+n/2^(2*c-e-d+1)/a/\
  (a*2^(d-e-1)+n/2^(2*c-e-d+1)/a-1)*(a*2^(d-e-1)+n/2^(2*c-e-d+1)/a-1)<n/4^(c-d)/\
  n/4^(c-d)<(a*2^(d-e-1)+n/2^(2*c-e-d+1)/a+1)*(a*2^(d-e-1)+n/2^(2*c-e-d+1)/a+1):=by
 obtain⟨k,rfl⟩:∃k,d=e+k+1:=⟨d-e-1,by omega⟩
 rw[202,c-e=(c-(e+k+1))+(k+1),2*c-e-(e+k+1)+1=2*(c-(e+k+1))+(k+2)]
 have t:e+k+1-e-1=k:=by omega
 have V:∀j:Nat,(2:Nat)^(2*j)=4^j:=.H7 qd
 have w:n/4^(c-e)=n/4^(c-(e+k+1))/4^(k+1):=by rw[F,i6,zm]
 have U:n/2^(2*c-e-(e+k+1)+1)=n/4^(c-(e+k+1))/2^(k+2):=by rw[D,i6,V,zm]
 have h4:4^e<=n/4^(c-e):=by
  rw[vM .rq,<-i6]
  exact cn (sg (by congr 1;omega)) G
 rw[w]at lo hi h4
 rw[U,t]
 generalize y:n/4^(c-(e+k+1))=M at*
 generalize hp:2^k=p at*
 have f:1<=p:=by rw[<-hp];exact .rq
 have A:4^(k+1)=4*(p*p):=by rw[<-hp,sr,gW,<-V,Dr,i6]
 have T:2^(k+2)=4*p:=by rw[<-hp,i6,gW]
 have v:p<=a:=by
  rw[322,2^e<a+1,by
   refine Nat.lt_of_not_le .a2
   have:=nJ z z
   rw[<-i6,<-Dr,V]at this
   omega,p<=2^e,by rw[<-hp];exact .Cy]
 rw[A]at lo hi h4
 rw[T,zm]
 have m:0<4*p*a:=lR (by omega) (by omega)
 have g:0<4*(p*p):=by have:=lR f f;omega
 have l:=Nat.div_add_mod M (4*p*a)
 have x:=Nat.mod_lt M m
 generalize M/(4*p*a)=q at*
 generalize M%(4*p*a)=r at*
 have lo1:4*(p*p)*((a-1)*(a-1)+1)<=M:=by
  have:=(vM g).mp (show(a-1)*(a-1)+1<=M/(4*(p*p))from lo)
  rwa [gW]
 have o:M<4*(p*p)*((a+1)*(a+1)):=by
  have:=(Lo g).mp hi
  rwa [gW]
 obtain⟨b,rfl⟩:∃b,a=b+1:=⟨a-1,by omega⟩
 have z:=XN (a:=(b:Int)+1) (p:=p) (M:=M) (q:=q) (r:=r) (by omega) (by omega) (by omega) (by rw[<-l];push_cast;grind) (by omega) (by
  have:(r:Int)<(.m (4*p*(b+1))):=by exact_mod_cast x
  rw[325]) (by
  have:(.m (4*(p*p)*((b+1-1)*(b+1-1)+1)))<=M:=by exact_mod_cast lo1
  simp only[zl]at this
  rw[325]) (by
  have:(M:Int)<(.m (4*(p*p)*((b+1+1)*(b+1+1)))):=by exact_mod_cast o
  rw[325])
 have I:1<=(b+1)*p+q:=cn (lR (Nat.succ_pos b) f) (zp _ _)
 generalize L:(b+1)*p+q=s at*
 have hsz:((b:Int)+1)*p+q=s:=by rw[<-L];push_cast;rfl
 rw[hsz]at z
 refine⟨I,.ad⟩
 ·have z1:=z.1
  obtain⟨u,rfl⟩:∃u,s=u+1:=⟨s-1,by omega⟩
  simp only[zl]
  rw[232,(.m (u*u))<(M:Int),by push_cast;push_cast at z1;grind]
 ·have z2:=z.2
  rw[232,(M:Int)<(.m ((s+1)*(s+1))),by push_cast;exact z2]
end Sq
namespace FC
open PySem PySem.Spec PyProof.Rows L2
variable{P:Program}{w:World}{K:ag}{mg: .d}{base:Heap}
structure VC where
 num:Addr
 truth:Addr
 chain:Addr
 pair:Addr
 func:Addr
variable{P:Program}{w:World}{K:ag}{mg: .d}{base:Heap}
abbrev Txt.vc(T: .b):VC:=⟨.FM,T.gi.truth.c,T.gi.so.chain.c,T.gi.pair.c,T.gi.func.c⟩
def XX:Nat:=2*10^100
structure bP(q:ft)(wt:Nat)(t:Int)(d:Nat):Prop where
 is:Fr.Is q t d
 bt: .x2 t<=XX^wt
 bd:2*d<=XX^wt
 w1:1<=wt
 w2: .nV
def VX(C:VC)(F:Hp)(n:Nat):aP->(.ap L2.V)×(.ap .N)
 | .num q wt=>(λv=>∃(a:Addr) (t:Int) (d:Nat),v= .B/\dU C.num F a t .ay .nJ/\bP q wt t d,.B9)
 | .truth b=>(λv=>∃a G,v= .B/\F a= .bW C.truth (iM .ev),.B9)
 | .nil=>(λv=>∃a G,v= .B/\F a= .x6 C .aX .au .au,λus=>us=[])
 | .cons x l=>(λv=>.jK/\∃a G f o,v= .B/\F a= .x6 C (.sZ .FL) f .ns/\ .jT C F n x f/\ .jT C F n l .ns,
   λus=>∃u i,us=u::i/\ .jT C F n x u/\(VX C F n l).2 i)
 | .pair x y=>(λv=>∃a G f g,v= .B/\F a= .bW C.pair (iI f g)/\ .jT C F n x f/\ .jT C F n y g,.B9)
 | .func b kept=>(λv=>b<n/\∃a G t us,v= .B/\F a= .bW C.func (jy .fV .bc)/\F t= .jS/\ .a8<=60/\ .q6 C F n kept,.B9)
abbrev bw(C:VC)(F:Hp)(n:Nat)(x:aP)(v:L2.V):Prop:=.jT C F n x v
abbrev bY(C:VC)(F:Hp)(n:Nat)(xs: .Q)(vs: .N):Prop:=Paired (bw C F n) xs vs
theorem VX.same{C:VC}{F m:Hp}{n:Nat}(s: .dh m):∀(x:aP),(∀v,.jT C F n x v-> .jT C m n x v)/\(∀us,.q6 C F n x-> .q6 C m n x)
 | .num q wt=>⟨λv ⟨a,t,d,e,h,k⟩=>⟨a,t,d,e,h.mono s,k⟩,.t5⟩
 | .truth b=>⟨.Ac ⟨a,G,e,s _ _ h⟩ h⟩
 | .nil=>⟨.Ac ⟨a,G,e,s _ _ h⟩ h⟩
 | .cons x l=>⟨λv ⟨R,a,G,f,o,e,h,h1,h2⟩=>⟨R,a,G,f,o,e,s _ _ h,.tK x _ h1,.tK l _ h2⟩,λus ⟨u,i,e,h1,h2⟩=>⟨u,i,e,.tK x _ h1,(VX.same s l).2 _ h2⟩⟩
 | .pair x y=>⟨λv ⟨a,G,f,g,e,h,h1,h2⟩=>⟨a,G,f,g,e,s _ _ h,.tK x _ h1,.tK y _ h2⟩,.t5⟩
 | .func b kept=>⟨λv ⟨S,a,G,t,us,e,h,h1,h2,h3⟩=>⟨S,a,G,t,us,e,s _ _ h,s _ _ h1,h2,(VX.same s kept).2 _ h3⟩,.t5⟩
theorem bw.same{C:VC}{F m:Hp}{n:Nat}{x:aP}{v:L2.V}(h: .fX x v)(s: .dh m):bw C m n x v:=.tK x v h
theorem bY.same{C:VC}{F m:Hp}{n:Nat}{xs: .Q}{vs: .N}(h: .l6 xs vs)(s: .dh m):bY C m n xs vs:=.g4 h (bw.same z s)
theorem Az{C:VC}{F:Hp}{n:Nat}:∀{xs: .Q} {us: .N},.q6 C F n .qh↔ .nM xs
 |[],us=>⟨.qy (by cases(show us=[]from h);exact .nil) (by cases h;rfl)⟩
 |x::xs,us=>⟨.qy (by
   obtain⟨u,i,rfl,h1,h2⟩:=h
   rw[62,h1,Az.mp h2]) (by
   cases h with
   |cons h1 h2=>exact⟨.mP,Az.mpr h2⟩)⟩
theorem AA{C:VC}{F:Hp}{n:Nat}:∀{kept:aP} {us: .N},.q6 C F n kept-> .nM kept.list/\kept=Vaunih.ofList kept.list
 | .nil,us,h=>⟨by cases(show us=[]from h);exact .nil,Y⟩
 | .cons x l,us,h=>by
  obtain⟨u,i,rfl,h1,h2⟩:=h
  obtain⟨h3,h4⟩:=AA h2
  rw[48,⟨.cons h1 h3,?_⟩,.B8 l= .B8 (.FK l)]
  rw[<-h4]
 | .num _ _,_,h=>h.elim
 | .truth _,_,h=>h.elim
 | .pair _ _,_,h=>h.elim
 | .func _ _,_,h=>h.elim
theorem wV:∀xs: .Q,(.qh).list=xs
 |[]=>rfl
 |x::xs=>.i8 (x::(.qh).list) _ (wV xs)
theorem O7:∀xs: .Q,.mM .qh
 |[]=>rfl
 |_::_=>rfl
theorem bw.ofList{C:VC}{F:Hp}{n:Nat}:∀{l:aP} {v:L2.V},.fX l v-> .jK->l= .FK l
 | .nil,_,_,_=>rfl
 | .cons x l,v,h,_=>by
  obtain⟨R,a,G,f,o,e,b,h1,h2⟩:=h
  show .B8 l= .B8 (.FK l)
  rw[<-bw.ofList h2 R]
 | .num _ _,_,_,R=>by cases R
 | .truth _,_,_,R=>by cases R
 | .pair _ _,_,_,R=>by cases R
 | .func _ _,_,_,R=>by cases R
theorem bw.chain{C:VC}{F:Hp}{n:Nat}:∀{l:aP} {v:L2.V},.fX l v-> .jK->∃a us,v= .B/\hC C.chain F us a/\ .nM l.list
 | .nil,_,⟨a,G,e,h⟩,_=>⟨a,[],e,⟨G,h⟩,.nil⟩
 | .cons x l,v,h,_=>by
  obtain⟨R,a,G,f,o,e,c,h1,h2⟩:=h
  obtain⟨b,us,g,h3,h4⟩:=bw.chain h2 R
  cases g
  refine⟨a,f::us,e,⟨G,o,?_,h3⟩,.cons h1 h4⟩
  have:=b_ h4
  rw[32,this,c]
 | .num _ _,_,_,R=>by cases R
 | .truth _,_,_,R=>by cases R
 | .pair _ _,_,_,R=>by cases R
 | .func _ _,_,_,R=>by cases R
section
open Vaunih (Op operate power weighed)
theorem L9:0<XX:=by decide+kernel
theorem L8:XX<=2^334:=by decide+kernel
theorem zR{k:Nat}(h:k<=200):XX^k<=2^66800:=by
 rw[79,XX^k<=(2^334)^k,Dq L8 k,(2^334)^k<=(2^334)^200,fH .rq h];have h3:(2^334)^200=2^66800:=.H9
 omega
theorem L_{j k:Nat}(h:j<=k):XX^j<=XX^k:=fH L9 h
theorem zQ{k:Nat}(h:1<=k):2<=XX^k:=by
 have:=L_ h;rw[10,XX^1,XX,Nat.pow_one _];rw[30,2<=XX,by decide+kernel]
theorem bits_le{z:Int}{k:Nat}(h:2* .rs<=XX^k)(G:k<=200):Builtin.Int.intBits z<=66800:=by
 rw[64,zG];have:=zR G;rw[318,0< .rs∨ .rs=0,by omega,(1:Nat)<=2^66800,.rq];omega
theorem xg{a b:Int}(h: .Hf+ .He<=2000000):IntMulOk a b:=by
 unfold IntMulOk
 have:Builtin.Int.intTooBig (.m (.Hf+ .He))= .a:=by
  unfold Builtin.Int.intTooBig;refine aW ?_;rw[30,(2000000:Int)<=(PySem.bitsLine:Int),by decide+kernel]
 intro z;rw[bU]at z;have z2:=z.2;rw[show((.tg a)+(.tg b))=(.m (.Hf+ .He))from by omega,this]at z2;cases z2
theorem mN{a b:Int}{i j:Nat}(N: .x2 a<=XX^i)(hi:i<=200)(S: .x2 b<=XX^j)(D:j<=200):IntMulOk a b:=by have h1:=bits_le N hi;have h2:=bits_le S D;exact .Cw
theorem gM{a b i j:Nat}(h1:2*a<=XX^i)(h2:2*b<=XX^j):4*(a*b)<=XX^(i+j):=by
 rw[291,nJ h1 h2,i6];rw[10,2*a*(2*b),4*(a*b),by rw[Ls]]
 omega
theorem bP.dz{q:ft}{wt:Nat}{t:Int}{d:Nat}(h:bP q wt t d): .x2 .ay<=XX^wt:=.F1 h.bd
section
variable{p q:ft}{v w':Nat}{n m:Int}{d e:Nat}
theorem bP.pos(h: .kx):0<d:=h.is.pos
theorem bP.mL(h: .kx)(k:bP q w' m e): .j4 n .uD m .ay (.j4 .ay .uD n m (.j4 .ay m (-n) .uD (IntMulOk (- .ay) m))):=⟨.uC h.bt k.dz,mN k.bt k.w2 h.dz h.w2,.uC h.dz k.dz,.uC h.bt k.bt,.uC h.dz k.bt,.uC (by rw[pU];exact h.bt) k.dz,.uC (by rw[pU];exact h.dz) k.bt⟩
theorem bP.add(h: .kx)(k:bP q w' m e)(U:v+w'<=200):bP (p.add q) (v+w') (n*e+m*d) (d*e):=by have a1:=.yd;have a2:=gM k.bt h.dz;have a3:=.CB;rw[Di w' v]at a2;refine⟨h.is.add k.is,.uB,U⟩;rw[106,K6 (n*e) (m*d),j4,j4];omega
theorem bP.sub(h: .kx)(k:bP q w' m e)(U:v+w'<=200):bP (p.sub q) (v+w') (n*e-m*d) (d*e):=by have a1:=.yd;have a2:=gM k.bt h.dz;have a3:=.CB;rw[Di w' v]at a2;refine⟨h.is.sub k.is,.uB,U⟩;have:=K6 (n*e) (-(m*d));rw[pU,j4,j4,<-K8]at this;omega
theorem bP.mul(h: .kx)(k:bP q w' m e)(U:v+w'<=200):bP (p.mul q) (v+w') (n*m) (d*e):=by have a1:=gM h.bt k.bt;have a3:=.CB;refine⟨h.is.mul k.is,.uB,U⟩;rw[j4];omega
theorem bP.div_pos(h: .kx)(k:bP q w' m e)(j:0<m)(U:v+w'<=200):bP (p.div q) (v+w') (n*e) (d* .rt):=by have a1:=.yd;have a3:=gM h.bd k.bt;refine⟨h.is.div_pos k.is j,.uB,U⟩;rw[j4];omega
theorem bP.wA(h: .kx)(k:bP q w' m e)(j:m<0)(U:v+w'<=200):bP (p.div q) (v+w') (-n*e) (d* .rt):=by have a1:=.yd;have a3:=gM h.bd k.bt;refine⟨h.is.wA k.is j,.uB,U⟩;rw[j4,pU];omega
theorem bP.nz(h: .kx)(k:bP q w' m e)(j: .iB):m* .ay≠0:=by have:=.hf;exact Int.mul_ne_zero j (by omega)
theorem natAbs_fdiv_le(x y:Int)(g:y≠0):(Int.fdiv x y).natAbs<=x.natAbs:=by
 have key:∀x y:Int,0<y->(Int.fdiv x y).natAbs<=x.natAbs:=λx y g=>by
  rw[lL _ (rW g)];by_cases W:0<=x
  ·rw[322,0<=x/y,Int.ediv_nonneg W (rW g),x/y<=x,Int.ediv_le_self y W]
  ·rw[322,x/y<0,Int.ediv_neg_of_neg_of_pos (by omega) g,x<=x/y,by refine .zG (Int.le_ediv_iff_mul_le g);have:x*y<=x*1:=Int.mul_le_mul_of_nonpos_left (by omega) (by omega);omega]
 by_cases h:0<y
 ·exact key x y h
 ·rw[165,key (-x) (-y) (by omega),Int.neg_fdiv_neg,pU]
theorem natAbs_fmod_le(x y:Int)(g:y≠0):(Int.fmod x y).natAbs<=y.natAbs:=by
 by_cases h:0<y
 ·rw[97,K0 x h,KZ x h];omega
 ·rw[97,K0 (-x) (b:= -y) (by omega),KZ (-x) (b:= -y) (by omega)];rw[Int.neg_fmod_neg]at h1 h2;omega
theorem bP.floor(h: .kx)(k:bP q w' m e)(j: .iB)(U:v+w'<=200):bP (.Hd p q) (v+w') (Int.fdiv (n*e) (m*d)) 1:=by have a1:=.yd;have hz:=h.nz k j;rw[220,⟨by rw[h.is.floorOf k.is j];exact Fr.Is.ofInt _,?_,zQ .vW,.vW,U⟩,natAbs_fdiv_le (n*e) (m*d) hz,j4];omega
theorem bP.rest(h: .kx)(k:bP q w' m e)(j: .iB)(U:v+w'<=200):bP (p.sub (q.mul (.Hd p q))) (v+w') (Int.fmod (n*e) (m*d)) (d*e):=by have a1:=gM k.bt h.dz;have a3:=.CB;rw[Di w' v]at a1;rw[220,⟨h.is.rest k.is j,.uB,U⟩,natAbs_fmod_le (n*e) (m*d) (h.nz k j),j4 m];omega
end
end
section
open Vaunih (Op operate power weighed)
def Gives(T: .b)(n:Nat)(r: .hn)(H:Hp)(Q:VK)(E:XK):Prop:=match r with
 | .ok v=>.nW (.hD H' v x-> .dL x)
 | .error k=>eM T.R .bq H E
def pk(T: .b)(n:Nat)(o:Op):Sp:=λvs H Q E=>∃(a b:L2.V) (R L:ft) (w1 w2:Nat),vs=[a,b]/\ .hD H (.num R w1) a/\ .hD H (.num L w2) b/\Gives T n (operate o R w1 L w2) H Q E
theorem mB{T: .b}{n wt:Nat}{q:Unit->ft}{H:Hp}{Q:VK}{E:XK}{t:Int}{d:Nat}(h:Gives T n (weighed wt q) H Q E)(ok: .nV->bP (q ()) wt t d):
  (.nJ<=200-> .nW (dU .FM H' x t .ay .nJ-> .mL))/\(200< .nJ->eM T.R 3 H E):=by
 unfold weighed at h
 refine⟨.CA ?_ ?_⟩
 ·rw[41,aa (show¬Vaunih.MOSTWEIGHT<wt by show¬200<wt;omega),h H' .a4 s ⟨x,t,d,Y,W,ok (by omega)⟩]
 ·rw[41,af (show Vaunih.MOSTWEIGHT<wt by show 200<wt;omega),h]
theorem Tx(T: .b)(n:Nat): .uA P w K T.gi.ex.U.T.add.f T.gi.ex.U.T.add.fd (pk T n .add):=by rw[321,Rv .Cz,k,λ_=>R.add L,g,λU=>f.add k U];exact⟨x,y,t1,d1,w1,t2,d2,w2,Y,.cc,⟨C,m,c⟩,.CA (.Hc H' x s) .Hb⟩
theorem TH(T: .b)(n:Nat): .uA P w K T.gi.ex.U.T.sub.f T.gi.ex.U.T.sub.fd (pk T n .sub):=by rw[321,SN .Cz,k,λ_=>R.sub L,g,λU=>f.sub k U];exact⟨x,y,t1,d1,w1,t2,d2,w2,Y,.cc,⟨C,m,c⟩,.CA (.Hc H' x s) .Hb⟩
theorem TC(T: .b)(n:Nat): .uA P w K T.gi.ex.U.T.mul.f T.gi.ex.U.T.mul.fd (pk T n .mul):=by rw[321,Sl .Cz,k,λ_=>R.mul L,g,λU=>f.mul k U];exact⟨x,y,t1,d1,w1,t2,d2,w2,Y,.cc,⟨e,c⟩,.CA (.Hc H' x s) .Hb⟩
theorem Aq{T: .b}{n wt:Nat}{L:ft}{w1:Nat}{t2:Int}{d2:Nat}{q:Unit->ft}{H:Hp}{Q:VK}{E:XK}{t:Int}{d:Nat}(k:bP L w1 t2 d2)(h:Gives T n (.sD L.num (.error 1) (weighed wt q)) H Q E)(ok: .j3-> .nV->bP (q ()) wt t d):
  (t2=0->eM T.R 1 H E)/\(.j3-> .nJ<=200-> .nW (dU .FM H' x t .ay .nJ-> .mL))/\(.j3->200< .nJ->eM T.R 3 H E):=by
 have hz:=k.is.zero
 refine⟨.a2,.a2,.a2⟩
 ·rw[41,af (hz.mpr z),h]
 ·rw[41,aa (λy=>z (hz.mp y)),(mB h (ok z)).1]
 ·rw[41,aa (λy=>z (hz.mp y)),(mB h (ok z)).2]
theorem Tz(T: .b)(n:Nat): .J P w K .x 6 T.gi.ex.U.div.f T.gi.ex.U.div.fd ["a","b"] (pk T n .div):=by
 rw[186,RJ T.gi.ex.U,k]
 have hd:∀z: .j3,(.m (d1*t2.natAbs))= .db t2 (-(d1:Int)*t2) (d1*t2):=λz=>by
  split
  ·rw[jB,Int.ofNat_natAbs_of_nonpos (by omega)];rw[rY,yW]
  ·rw[jB,Int.natAbs_of_nonneg (by omega)]
 obtain⟨i,g1,g2⟩:=Aq (t:=.db t2 (-t1*d2) (t1*d2)) (d:=d1*t2.natAbs) k g λz U=>by
  split
  ·exact f.wA k .q7 U
  ·exact f.div_pos k (by omega) U
 rw[7,⟨x,y,t1,d1,w1,t2,d2,w2,Y,.cc,⟨C,B,j,l⟩,i,λz U H' x s W=>g1 z (by omega) H' x s ?_,.Ha z⟩,hd z];simpa using W
theorem TB(T: .b)(n:Nat)(u:base.NoSeer)(I: .aj=none): .J P w K .x 40 T.gi.ex.U.floor.f T.gi.ex.U.floor.fd ["a","b"] (pk T n .floor):=by rw[186,RN T.gi.ex.U u I,k];obtain⟨i,g1,g2⟩:=Aq (d:=1) k g λz U=>f.floor k z U;exact⟨x,y,t1,d1,w1,t2,d2,w2,Y,.cc,⟨C,m,λz=>f.nz k z⟩,i,λz U H' x s W=>g1 z (by omega) H' x s (by simpa using W),.Ha z⟩
theorem TF(T: .b)(n:Nat): .J P w K .x 6 T.gi.ex.U.rest.f T.gi.ex.U.rest.fd ["a","b"] (pk T n .rest):=by rw[186,SD T.gi.ex.U,k];obtain⟨i,g1,g2⟩:=Aq k g λz U=>f.rest k z U;exact⟨x,y,t1,d1,w1,t2,d2,w2,Y,.cc,⟨C,m,c,λz=>f.nz k z⟩,i,λz U H' x s W=>g1 z (by omega) H' x s (by simpa using W),.Ha z⟩
def Kj: .fd Op Str
 | .add=>some "add"
 | .sub=>some "sub"
 | .mul=>some "mul"
 | .div=>some "div"
 | .floor=>some "floor"
 | .rest=>some "rest"
 |_=>none
def Xk(T: .b)(n:Nat):Sp:=λvs H Q E=>∃(o:Op) (k:Str) (a b:L2.V),Kj o= .e0/\vs=[.str k,a,b]/\pk T n o [a,b] H Q E
theorem S8(T: .b)(n:Nat)(u:base.NoSeer)(I: .aj=none): .J P w K .x 41 T.ue.f T.ue.fd ["word","a","b"] (Xk T n):=by
 refine T.ue.F.az ["word","a","b"] .f;obtain⟨o,k,a,b,e,rfl,h⟩:=h;rw[0,⟨.ax (xx .bn (xA (jl Y T.ir.g) .F) (bj .e .p))⟩,⟨.ac⟩]
 cases o with
 |add=>rw[53,⟨T.ir.a,_,.uz _ T,Tx T n,.b3,T.gi.ex.U.T.add.F.kp,T.gi.ex.U.T.add.F.b,.j,h⟩]
 |sub=>rw[53,⟨T.ir.a,_,.uz _ T,TH T n,.b3,T.gi.ex.U.T.sub.F.kp,T.gi.ex.U.T.sub.F.b,.j,h⟩]
 |mul=>rw[53,⟨T.ir.a,_,.uz _ T,TC T n,.b3,T.gi.ex.U.T.mul.F.kp,T.gi.ex.U.T.mul.F.b,.j,h⟩]
 |div=>rw[53,⟨T.ir.a,_,.uz _ T,Tz T n,.b3,T.gi.ex.U.div.F.kp,T.gi.ex.U.div.F.b,.j,h⟩]
 |floor=>rw[53,⟨T.ir.a,_,.uz _ T,TB T n u I,.b3,T.gi.ex.U.floor.F.kp,T.gi.ex.U.floor.F.b,.j,h⟩]
 |rest=>rw[53,⟨T.ir.a,_,.uz _ T,TF T n,.b3,T.gi.ex.U.rest.F.kp,T.gi.ex.U.rest.F.b,.j,h⟩]
 |less=>cases e
 |same=>cases e
end
section
open Vaunih (Op operate power weighed)
theorem Ji(t:Int):∀j:Nat,(t^j).sign=t.sign^j
 |0=>by rw[vz,vz];rfl
 |j+1=>by rw[vy,vy,Int.sign_mul,Ji t j]
theorem Ik{a i j:Nat}(h:2*a<=XX^i)(D:1<=j):2*a^j<=XX^(i*j):=by
 have h1:(2*a)^j<=(XX^i)^j:=Dq h j;rw[<-qd,Nat.mul_pow]at h1;rw[318,2<=2^j,.Al (fH (n:=2) (by decide) D) Nat.pow_one,2*a^j<=2^j*a^j,zt _ h2];omega
theorem xh(t:Int):∀j:Nat,(t^j).natAbs= .xS^j
 |0=>by rw[vz,zx];rfl
 |j+1=>by rw[vy,j4,xh t j,sr]
theorem bP.pow{q:ft}{v:Nat}{t:Int}{d:Nat}(h:bP q v t d){j wt:Nat}(U:wt=if j*v=0 then 1 else j*v)(R: .nV):bP (q.pow j) wt (t^j) (d^j):=by
 refine⟨h.is.pow j,.ad,?_,R⟩
 ·rw[xh];by_cases D:j=0
  ·subst D;rw[231,Nat.zero_mul,.M,zQ .y]
  ·have a:j*v≠0:=Nat.mul_ne_zero D .vW;rw[231,aa a,gW,Ik h.bt (by omega)]
 ·by_cases D:j=0
  ·subst D;rw[231,Nat.zero_mul,.M,zQ .y]
  ·have a:j*v≠0:=Nat.mul_ne_zero D .vW;rw[231,aa a,gW,Ik h.bd (by omega)]
 ·split at U<;>omega
theorem bP.inv{q:ft}{v:Nat}{t:Int}{d:Nat}(h:bP q v t d)(V:t≠0):bP q.inv v (t.sign*d) .xS:=by
 refine⟨h.is.inv V,?_,h.bt,h.w1,h.w2⟩;rw[j4,j6]
 have:t.sign.natAbs=1:=by
  rcases vx t 0 with z|z|z
  ·rw[19,vA z]
  ·rw[5,z,V]
  ·rw[19,vB z]
 rw[13,this,vO,h.bd]
theorem B8{v:Nat}{n:Int}(D:1<=v):rD (v:Int) n=(.m (if n.natAbs*v=0 then 1 else n.natAbs*v)):=by
 have N:dX n=(n.natAbs:Int):=by unfold dX;split<;>omega
 unfold rD;rw[N,<-jB,gW v];rw[136,n.natAbs*v]
 ·rw[24,af F,F]
 ·rw[aa F];split<;>omega
def WO(T: .b)(n:Nat):Sp:=λvs H Q E=>∃(a:L2.V) (q:ft) (wt:Nat) (k:Int),vs=(.jQ a k)/\ .hD H .fc a/\(-9<=k/\k<=9)/\Gives T n (power q wt k) H Q E
theorem Vb(T: .b)(n:Nat){vs: .N}{H:Hp}{Q:VK}{E:XK}(h:WO T n vs H Q E):BN .Cz vs H Q E:=by
 obtain⟨a,q,wt,k,rfl,⟨x,t,d,rfl,h1,f⟩,G,g⟩:=h;have hz:=f.is.zero;have hd:=f.pos;have eq:(.mq k)= .e7:=by unfold dX;split<;>omega
 have e:∀(z:Int) (i:Nat),2* .rs<=XX^wt->i<=9->IntMulOk (z^i) z:=λz i hz hi=>by
  have b1:=bits_le hz f.w2
  have b2:Builtin.Int.intBits (z^i)<=601200:=by
   rw[64,zG];have h3:=zG.mp b1;rw[xh];have h4: .rs^i<=(2^66800)^i:=Dq (nI h3) i;have h5:(2^66800)^i=2^(66800*i):=.H9
   have j:2^(66800*i)<=2^601200:=.Cy;by_cases c:i=9
   ·subst c;have m: .rs^9<(2^66800)^9:=Nat.pow_lt_pow_left h3 (by decide);have R:(2^66800)^9=2^601200:=.H9
    omega
   ·have j:2^(66800*i)<2^601200:=zw (by decide) (by omega);omega
  exact .Cw
 unfold power at g;refine⟨x,k,t,d,wt,Y,h1,G,⟨by omega,by have:=f.w2;omega⟩,λi hi=>⟨e t i f.bt hi,e d i f.dz hi⟩,λ⟨b,l⟩=> ?_,λp U=> ?_,λp U H' y s o=> ?_⟩
 ·rw[27,af ⟨hz.mpr l,b⟩,g]
 ·rw[108,.dj (p ⟨z.2,hz.mp z.1⟩),(.H8 0 0 (.rr k) g .yc).2 ?_]
  ·exfalso;rw[B8 f.w1]at U;omega
  ·rw[B8 f.w1]at U;exact U
 ·rw[.dj (p ⟨z.2,hz.mp z.1⟩)]at g;rw[B8 f.w1]at U o;rw[eq]at o;by_cases b:0<=k
  ·rw[af b,af b]at o;refine(.H8 (t^ .e7) (d^ .e7) (.rr k) g .yc).1 U H' y s ?_
   ·have F: .rr k=q.pow .e7:=by unfold Vaunia.Q.zpow;rw[.gJ];congr 1;omega
    rw[38,bP (.rr k) _ _ _,F,f.pow Y r]
   ·rw[1,CU,o]
  ·have V:t≠0:=λz=>p ⟨by omega,z⟩;rw[aa b,aa b]at o;have hp:t^ .e7≠0:=Int.pow_ne_zero V;rw[39,.rr k=q.inv.pow .e7,by unfold Vaunia.Q.zpow;rw[.rb],(t.sign* .ay)^ .e7= .db (t^ .e7) (- .ay^ .e7) (.ay^ .e7),by
    rw[CQ,<-Ji];rcases vx (t^k.natAbs) 0 with z|z|z
    ·rw[vA z,af z,Int.neg_one_mul]
    ·rw[5,z,hp]
    ·rw[vB z,.gJ,yZ]]
   have u:(.m (.xS^ .e7))= .db (t^ .e7) (-t^ .e7) (t^ .e7):=by rw[<-xh];split<;>omega
   refine(.H8 ((t.sign* .ay)^ .e7) (.xS^ .e7) (.rr k) g .yc).1 U H' y s ?_
   ·rw[38,bP (.rr k) _ _ _,F,(f.inv V).pow Y r]
   ·rw[13,D,u,o]
end
section
open Builtin.Int (intBits)
def bl(n:Nat):Nat:=.H6
theorem nV{n m:Nat}:bl n<=m↔n<2^m:=by unfold bl;rw[zG,j6]
theorem zW(n:Nat):n<2^bl n:=nV.mp .y
theorem zV{n:Nat}(h: .lI):1<=bl n/\2^(bl n-1)<=n:=by
 rw[206,1<=bl n,sm λz=>by have:=zW n;rw[z]at this;omega,⟨h1,vN .a2⟩];rw[23,nV.mpr z]
section
variable(n:Nat)
def rC:Nat:=(bl n-1)/2
def rM:Nat:=bl .bw
def rK(i:Nat):Nat:=.bw/2^(.dy-i)
def rR: .ed Nat
 |0=>1
 |i+1=>rR i*2^(.e6- .dx-1)+n/2^(2* .bw- .dx- .e6+1)/rR i
variable{n}
theorem ID(h: .lI):4^ .bw<=n/\n<4^(.bw+1):=by
 rw[306,zV h,zW n];have v:∀j:Nat,(4:Nat)^j=2^(2*j):=.H7 qd
 rw[v,v];have a:2^(2* .bw)<=2^(bl n-1):=.gA (by unfold rC;omega);have b:2^bl n<=2^(2*(.bw+1)):=.gA (by unfold rC;omega);omega
theorem IG:rK n 0=0:=by exact Nat.div_eq_of_lt (zW _)
theorem U0:rK n .dy= .bw:=by unfold rK;rw[lT,zx,Nat.div_one]
theorem IF{i:Nat}(h:i< .dy): .dx= .e6/2/\ .dx< .e6/\ .e6<= .bw:=by
 rw[130,.dy-i,(.dy- .z)+1]
 rw[206,.dx= .e6/2,by unfold rK;rw[e,sr,zm],⟨h1,?_,qa _ _⟩];have B: .bw≠0:=λz=>by unfold rM at h;rw[z]at h;have:bl 0=0:=rfl;omega
 have hp:1<= .e6:=by refine .zG (vM .rq);rw[vO];refine cn (.gA ?_) (zV B).2;unfold rM;omega
 omega
theorem xH(h: .lI):∀i,i<= .dy->1<=rR n i/\(rR n i-1)*(rR n i-1)<n/4^(.bw- .dx)/\n/4^(.bw- .dx)<(rR n i+1)*(rR n i+1)
 |0,_=>by
  obtain⟨h1,h2⟩:=ID h
  rw[IG,qf]
  refine⟨.y,.ad⟩
  ·show 0<n/4^ .bw
   exact .AR (vM .rq)
  ·rw[61,n/4^ .bw<4,Lo .rq]
   omega
 |i+1,hi=>by
  rw[320,h,i,by omega]
  obtain⟨f,k,D⟩:=IF (n:=n) (i:=i) (by omega)
  exact Sq.step (ID h).1 k (by omega) D a1 a2 a3
theorem U4(h: .lI):1<= .gf/\(.gf-1)*(.gf-1)<n/\n<(.gf+1)*(.gf+1):=by have:=xH h .dy .y;rw[U0,lT,zx,Nat.div_one]at this;exact this
theorem IH(h: .lI){i:Nat}(hi:i<= .dy){k:Nat}(G:n<2^(2*k)):rR n i<=2^k:=by
 rw[320,h,i,hi];refine vN .a2;rw[163,2^k<=rR n i-1,by omega,nJ h1 h1];rw[<-i6,<-Dr]at h2;have h3:=qa n (4^(.bw- .dx));omega
end
end
section
open Builtin.Int (intBits)
def WV:Sp:=λvs H Q _=>∃n:Nat,vs=[.br]/\n<2^140000/\∀r:Nat,r*r<=n->n<(r+1)*(r+1)-> .dr r
theorem S5(T: .b)(r:base.NoSeer)(I: .aj=none): .J P w K .x 40 T.qE.f T.qE.fd ["n"] WV:=by
 refine T.qE.F.az ["n","half","root","known","shift","before"] λ{G A outer s vs} H Q E nd W M h=> ?_;obtain⟨n,rfl,S,q⟩:=h;have o: .tb (e_ .x P w K mg base ["n","half","root","known","shift","before"] "whole_root" (.td 62) T.qE.f G A .a0 s H E) (.tc j (.wX i j)):=xu r I Y rfl rfl (xJ M (by decide));rw[0,⟨_,.eo (.ld .F aq aq) 1 nd (.e1 HE fN (HU .F) aq aq) (.aC 2 nd aq (.en aq (.bC (ik ef Y (Ui Y (T.gb "range") (cG (aL fN (HU .e) aq) (mV nu aq) (mV nu aq))) (eo 4 nd) (.aC 5 nd .a3 (.en (aL HI .e .aF) (O (aG 2 nd (.e1 c9 TV .p (.e1 fN fN .a3 (pv 5) aq) (.e1 o HI .F (.e1 c9 fN (.e1 fN A9 aq .e (pv 5)) .a3 aq) .p))))))) (hA (aU ic (aL dN .p .p) .F) (aL fN .p aq) .p)))),?_⟩,⟨.f0,cE .gW .gW⟩]
 ·have V:n=0:=by
   rw[30,.Z=0,by simpa using c]
  subst V;exact q 0 (by decide) (by decide)
 ·have V: .lI:=λz=>c .EC;obtain⟨b1,b2⟩:=zV V;have t:bl n<=140000:=nV.mpr S;have b:((.m .H6)-1)/2=(.m .bw):=by have: .H6=bl n:=rfl;rw[this];unfold rC;omega
  have l: .bw<=70000:=by unfold rC;omega
  have m: .dy<=17:=.AR nV;rw[44,⟨.f0,Y,.o,.o,⟨.fw⟩,?_⟩];rw[9,b,⟨.f0,Y,.tz,.cT,.dy,Y,.ad⟩]
  ·have:=v3.neg (i:=(.m .dy)-1) (j:= -1) (by omega) (by omega) (by omega) (by omega);rw[130,.uy ((.m .dy)-1) (-1),.dy]
   rw[e]at this;rw[81]
  ·refine NT (n:=.dy) (.i6 (H'=H) (∃(u v: .dH),σ=[.ig n,.qb .bw,.qb (rR n i),.qb .dx,u,v])) ⟨Y,none,none,by rw[IG];rfl⟩ ?_ ?_
   ·rintro i σ H' hi ⟨rfl,u,v,rfl⟩;obtain⟨f,k,y⟩:=IF (n:=n) hi;rw[320,V,i,by omega];have g:rR n i<=2^70000:=IH V (by omega) S;have a:(.m (.Cx .bw))-1+ .jL* -1=(.gE .dy .z):=by have: .Cx .bw= .dy:=rfl;rw[this];omega
    have x:(.m .bw)/2^(.yb (.dy- .z))=(.m .e6):=by rw[i0];unfold rK;rw[CT];rfl
    rw[44,⟨.j,.b2,.zp a⟩];rw[a,x];rw[202,(.m .e6)-(.m .dx)-1=(.m (.e6- .dx-1)),2*(.m .bw)-(.m .dx)-(.m .e6)+1=(.lr (2* .bw- .dx- .e6))]
    refine⟨.j,.b2,.o,.o,.ad⟩
    ·rw[9,F,⟨.pr⟩];have d: .Cx (rR n i)<=70001:=nV.mpr (by have:2^70000<2^70001:=.H5;omega);rw[30,(2:Int)^27=134217728,by decide]
    refine⟨.th,.inl ⟨.fw⟩,.b2,.b2,.o,.o,.ad⟩
    ·rw[28,D]
    refine⟨.b2,by omega,.o,Y,.ig (.gE .dy .z),.ig (.m .dx),?_⟩;have p:(.m (rR n i))*2^((.m .e6)-(.m .dx)-1).toNat+(.Z/2^(2*(.m .bw)-(.m .dx)-(.m .e6)+1).toNat).fdiv (.m (rR n i))=(.m (rR n .z)):=by rw[F,D,i0,i0,.wU _];show _=(.m (rR n i*2^(.e6- .dx-1)+n/2^(2* .bw- .dx- .e6+1)/rR n i));rw[Int.natCast_add,jB,CT,CT,CU,CU];rfl
    rw[<-p];rfl
   ·rintro σ H' ⟨rfl,u,v,rfl⟩;obtain⟨a1,a2,a3⟩:=U4 V;have g: .gf<=2^70000:=IH V .y S;have d: .Cx .gf<=70001:=nV.mpr (by have:2^70000<2^70001:=.H5;omega);refine⟨.th,.Cw,.i9,.E9 ?_ ?_⟩
    ·have L:n< .gf* .gf:=by have:=bQ C;rw[<-jB]at this;omega
     refine⟨.b2,?_⟩;rw[130,(.m .gf)-1,.m (.gf-1)]
     rw[78,e];rw[15,q _ (nI a2) ?_,Nat.sub_add_cancel a1,L]
    ·have L: .gf* .gf<=n:=by have:=cq .sN;rw[<-jB]at this;omega
     exact⟨_,Y,q _ L a3⟩
end
def rj(q:ft)(wt:Nat): .hn:=match Vaunih.rootOf q with
 |some p=>.ok (.num p wt)
 |none=>.error 2
def WW(T: .b)(n:Nat):Sp:=λvs H Q E=>∃(a:L2.V) (q:ft) (wt:Nat),vs=[a]/\ .hD H .fc a/\Gives T n (rj q wt) H Q E
theorem SE(T: .b)(n:Nat)(u:base.NoSeer)(I: .aj=none): .J P w K .x 41 T.t8.f T.t8.fd ["a"] (WW T n):=by
 refine T.t8.F.az ["a","square","root"] .f;obtain⟨a,q,wt,rfl,⟨x,t,d,rfl,⟨l,N⟩,f⟩,g⟩:=h;have cl:=.wD;have B:=T.gi.ex.U.T.num.n "top";have A:=T.gi.ex.U.T.num.n "bottom";rw[319,T.gi.ex.U.T.num.n "weight",⟨_,.eo (.cP (aU gO .i aq) (iq W Y T.gi.ex.U.T.root.fe (He T.gi.ex.U.T.root) M.m Y T.gi.ex.U.T.root.g T.gi.ex.U.T.root.F.b fL)) 1 nd (.lm dN .i) (.aC 2 nd (.gL T.qE (S5 T u I) .e) (.bC (.cP (aU jj (aL dN .p .p) .e) (iq W Y T.gi.ex.U.T.root.fe (He T.gi.ex.U.T.root) M.m Y T.gi.ex.U.T.root.g T.gi.ex.U.T.root.F.b fL)) (cS .Ay (ji .Ay) M.m W (cG .p .i .i)))),?_⟩,⟨.fb,_,l,.h,N,cl,B,dM,.fK,cE .gW .gW⟩]
 ·have V:t<0:=bQ c;have b:Vaunih.rootOf q=none:=by unfold Vaunih.rootOf;rw[af (f.is.xi.mpr V)]
  unfold rj at g;rw[27,b,T.gi.ex.U.T.root.raises g]
 ·have V:0<=t:=.wq (.eR▸c)
  obtain⟨m,rfl⟩:=Int.eq_ofNat_of_zero_le V;have F:2*m<=XX^wt:=.Al f.bt j6
  have S:=gM F f.bd
  have o:m*d<2^140000:=by
   rw[318,XX^(wt+wt)<=2^(66800+66800),by rw[i6,i6];exact nJ (zR f.w2) (zR f.w2),2^(66800+66800)<2^140000,.H5];have h4:m*d<=XX^(wt+wt):=by omega
   exact lQ h4 (lQ h2 h3)
  rw[0,⟨.fb,_,l,.h,N,cl,B,dM,.fb,_,l,.h,N,cl,A,c8,.o,mN f.bt f.w2 f.dz f.w2,?_⟩,⟨_,Y,m*d,by dsimp only;rw[jB];rfl,o,λr i D=> ?_⟩];have v:Builtin.Int.intBits (.m r)<=70000:=nV.mpr (Nat.lt_of_not_le λz=>by have h1:=nJ z z;rw[<-i6]at h1;exact absurd (lQ (cn h1 i) o) (iF _));refine⟨.th,.Cw,.cs⟩;obtain⟨R,U⟩:=Fr.Is.root f.is;by_cases L:r*r=m*d
  ·rw[10,! .t8 ((.m r)*(.m r)) ((.m m)*(.m d)),.a,by rw[<-jB,<-jB,L,bC rfl];rfl]
   rw[64,aa (by dsimp only;rw[e];decide)];obtain⟨p,hp,j⟩:=R r L.symm;unfold rj at g;rw[hp]at g;rw[58,⟨.j,x,_,l,.h,N,cl,A,c8,.fb,_,l,.h,N,cl,s,jR,jg λH' y s' C=>g H' (.ref y) s' ⟨y,r,d,Y,C,j,?_,f.bd,f.w1,f.w2⟩⟩,j6,vN .a2];rw[79,XX^wt*XX^wt<2*r*(2*r),Nat.mul_lt_mul'' z z,2*r*(2*r)=4*(r*r),by rw[Ls]]
   rw[<-i6]at h1;omega
  ·have e: .c (! .t8 ((.m r)*(.m r)) ((.m m)*(.m d))):=by
    rw[<-jB,<-jB,aW]
    ·rfl
    ·rw[110];exact L (by omega)
   rw[70,by dsimp only;rw[e],?_];have b:=U λk G=> ?_
   ·unfold rj at g;rw[27,b,T.gi.ex.U.T.root.raises g]
   ·clear o S;rw[G]at i D;rcases Nat.lt_trichotomy k r with z|z|z
    ·rw[23,Nat.mul_lt_mul'' z z]
    ·rw[z]at G;exact L G.symm
    ·have h5:(r+1)*(r+1)<=k*k:=nJ z z;omega
section
open Vaunih (Instr Op operate power)
def TM:Op->Str
 | .add=>"add"
 | .sub=>"sub"
 | .mul=>"mul"
 | .div=>"div"
 | .floor=>"floor"
 | .rest=>"rest"
 | .less=>"less"
 | .same=>"same"
def dB: .cd->Str
 | .num _ _=>"num"
 | .truth true=>"true"
 | .truth false=>"false"
 | .nil=>"nil"
 | .get _=>"get"
 | .bind=>"bind"
 | .free _=>"free"
 | .fn _=>"fn"
 | .call _=>"call"
 | .fold _=>"fold"
 | .ret=>"ret"
 | .skip _=>"skip"
 | .unless _=>"unless"
 | .part _=>"part"
 | .pair=>"pair"
 | .fst=>"fst"
 | .snd=>"snd"
 | .cons=>"cons"
 | .op o=>TM o
 | .pow _=>"pow"
 | .root=>"root"
def f6: .cd->Int
 | .get i=>i
 | .free i=>i
 | .fn i=>i
 | .call i=>i
 | .fold i=>i
 | .skip i=>i
 | .unless i=>i
 | .part i=>i
 | .pow i=>i
 |_=>0
structure pS(x:Instr):Prop where
 lo: -9<=f6 x
 hi:f6 x<=999
 pw:∀k,x= .o5->k<=9
def de(T: .b)(F:Hp)(x:Instr)(v:L2.V):Prop:=pS x/\∃i A val,v= .fH/\F i= .bX .AY A (iA (.str .de) (.int (f6 x)) val)/\∀q wt,x= .fc->bw T.vc F 0 .fc val
theorem de.same{T: .b}{F m:Hp}{x:Instr}{v:L2.V}(h: .pe F v)(s: .dh m): .pe m v:=by obtain⟨ok,i,A,val,e,h,g⟩:=h;exact⟨ok,i,A,val,e,s _ _ h,λq wt z=>.df (g q wt z)⟩
def jM: .cd-> .fd .Q .hn
 | .num q wt,[]=>.rY .fc
 | .truth b,[]=>.rY .DF
 | .nil,[]=>.rY .nil
 | .fn b,l=>.rY (.func b (Vaunih.ofList l))
 | .pair,[a,b]=>.rY .cG
 | .fst,[.pair a _]=>.rY a
 | .snd,[.pair _ b]=>.rY b
 | .cons,[a,l]=>.bJ .jK (.ok (.cons a l))
 | .op o,[.num p v,.num q u]=>some (operate o p v q u)
 | .pow k,[.num p v]=>some (power p v k)
 | .root,[.num p v]=>some (rj p v)
 |_,_=>none
def gR(T: .b)(n:Nat)(ok: .ap .cd):Sp:=λvs H Q E=>∃(i:L2.V) (t:Addr) (x:Instr) (tk: .Q) (us: .N) (r: .hn),vs=[i,.bc]/\ok x/\ .ii i/\H t= .jS/\ .nX H n tk/\ .ks x= .bL/\(∀b,x= .fn b->b<n/\tk.length<=60)/\Gives T n r H Q E
theorem Ap{o:Op}{tk: .Q}{r: .hn}(h: .ks (.op o)= .bL):∃p v q u,tk=[.num p v,.jw u]/\r=operate o p v q u:=by
 rcases tk with _|⟨a,_|⟨b,_|⟨c,tk⟩⟩⟩
 ·cases h
 ·cases a<;>cases h
 ·cases a<;>cases b<;>first|(cases h;exact⟨_,_,_,_,Y,Y⟩)|cases h
 ·cases a<;>cases b<;>cases h
theorem Oe{k:Int}{tk: .Q}{r: .hn}(h: .ks .o5= .bL):∃p v,tk=[.num p v]/\r=power p v k:=by
 rcases tk with _|⟨a,_|⟨b,tk⟩⟩
 ·cases h
 ·cases a<;>first|(cases h;exact⟨_,_,Y,Y⟩)|cases h
 ·cases a<;>cases h
theorem Of{tk: .Q}{r: .hn}(h: .ks .root= .bL):∃p v,tk=[.num p v]/\r=rj p v:=by
 rcases tk with _|⟨a,_|⟨b,tk⟩⟩
 ·cases h
 ·cases a<;>first|(cases h;exact⟨_,_,Y,Y⟩)|cases h
 ·cases a<;>cases h
theorem wG{x:Instr}(W:(∃q v,x= .jw v)∨(∃b,x= .DF)∨x= .nil){tk: .Q}{r: .hn}(h: .ks x= .bL):tk=[]:=by
 rcases W with⟨q,v,rfl⟩|⟨b,rfl⟩|rfl
 all_goals
  cases tk with
  |nil=>rfl
  |cons a tk=>cases h
theorem Od{tk: .Q}{r: .hn}(h: .ks .pair= .bL):∃a b,tk=[a,b]/\r= .ok .cG:=by rcases tk with _|⟨a,_|⟨b,_|⟨c,tk⟩⟩⟩<;>first|(cases h;exact⟨_,_,Y,Y⟩)|cases h
theorem Oc{tk: .Q}{r: .hn}(h: .ks .fst= .bL):∃a b,tk=[.cG]/\r= .ok a:=by
 rcases tk with _|⟨a,_|⟨b,tk⟩⟩
 ·cases h
 ·cases a<;>first|(cases h;exact⟨_,_,Y,Y⟩)|cases h
 ·cases a<;>cases h
theorem Og{tk: .Q}{r: .hn}(h: .ks .snd= .bL):∃a b,tk=[.cG]/\r= .ok b:=by
 rcases tk with _|⟨a,_|⟨b,tk⟩⟩
 ·cases h
 ·cases a<;>first|(cases h;exact⟨_,_,Y,Y⟩)|cases h
 ·cases a<;>cases h
theorem Ob{tk: .Q}{r: .hn}(h: .ks .cons= .bL):∃a l,tk=[a,l]/\ .jK/\r= .ok (.cons a l):=by
 rcases tk with _|⟨a,_|⟨b,_|⟨c,tk⟩⟩⟩
 ·cases h
 ·cases h
 ·simp only[jM]at h;split at h
  ·rw[94,⟨.h,.q7,Y⟩]
  ·cases h
 ·cases h
theorem kE{C:VC}{F:Hp}{n:Nat}{a:aP}{us: .N}(h: .nM [a]):∃u,us=[u]/\ .fX a u:=by
 cases h with
 |cons h1 h2=>cases h2;exact⟨.mY⟩
theorem mT{C:VC}{F:Hp}{n:Nat}{a b:aP}{us: .N}(h: .nM [a,b]):∃u v,us=[u,v]/\ .fX a u/\ .fX b v:=by
 cases h with
 |cons h1 h2=>
  cases h2 with
  |cons h3 h4=>cases h4;exact⟨.mP,h3⟩
theorem qV(T: .b)(n:Nat)(d:base.NoSeer)(I: .aj=none): .J P w K .x 42 T.gi.fh.f T.gi.fh.fd ["instruction","taken"] (.js T n (∃o k,x= .op o/\Kj o= .e0)):=by
 refine T.gi.fh.F.az ["instruction","taken"] .f;obtain⟨i,t,x,tk,us,r,rfl,⟨o,k,rfl,e⟩,⟨_,i,A,val,rfl,hi,_⟩,V,D,y,_,g⟩:=h;refine⟨.ax (aJ T.ue (S8 T n d I) M W (cG .i .fi .fi))⟩;have c:dB (.op o)=k:=by cases o<;>first|(cases e;rfl)|cases e
 rw[368,y];obtain⟨a,b,rfl,h1,h2⟩:=mT D;rw[c]at hi;exact⟨.hZ,.dG,.fP,a_,.gk 0,.gk 1,o,k,a,b,e,Y,a,b,p,q,v,u,Y,.cc,g⟩
theorem R3(T: .b)(n:Nat)(u:base.NoSeer)(I: .aj=none): .J P w K .x 42 T.gi.root.f T.gi.root.fd ["instruction","taken"] (.js T n (x= .root)):=by refine T.gi.root.F.az ["instruction","taken"] .f;obtain⟨i,t,x,tk,us,r,rfl,rfl,_,V,D,y,_,g⟩:=h;refine⟨.ax (.gL T.t8 (SE T n u I) .fi)⟩;obtain⟨p,v,rfl,rfl⟩:=Of y;obtain⟨a,rfl,h1⟩:=kE D;exact⟨.gk 0,a,p,v,Y,h1,g⟩
theorem Tr(T: .b)(n:Nat): .vA T.gi.num.f T.gi.num.fd (.js T n (∃q v,x= .jw v)):=by rw[72,RZ T.gi];obtain⟨i,t,x,tk,us,r,rfl,⟨q,v,rfl⟩,⟨_,i,A,val,rfl,hi,X⟩,V,D,y,_,g⟩:=h;cases wG (.inl ⟨q,v,Y⟩) y;cases y;exact⟨i,t,.pm,us,Y,⟨⟨A,hi⟩,V⟩,g H val .gX (X q v Y)⟩
theorem Tw(T: .b)(n:Nat): .vy P w K T.gi.nk.f T.gi.nk.fd T n (x= .Gw):=by rw[154,.lg (R6 T.gi)];cases wG (.inr (.inl ⟨true,Y⟩)) y;cases y;exact⟨i,t,.pm,us,Y,⟨⟨A,hi⟩,V⟩,.vz H' s ⟨x,G,Y,W⟩⟩
theorem Ti(T: .b)(n:Nat): .vy P w K T.gi.mu.f T.gi.mu.fd T n (x= .BJ):=by rw[154,.lg (RU T.gi)];cases wG (.inr (.inl ⟨false,Y⟩)) y;cases y;exact⟨i,t,.pm,us,Y,⟨⟨A,hi⟩,V⟩,.vz H' s ⟨x,G,Y,W⟩⟩
theorem Tq(T: .b)(n:Nat): .DK P w K mg T.gi.nil.f T.gi.nil.fd (.js T n (x= .nil)):=by rw[154,.lg (RY T.gi)];cases wG (.inr (.inr Y)) y;cases y;exact⟨i,t,.pm,us,Y,⟨⟨A,hi⟩,V⟩,.vz H' s ⟨x,G,Y,W⟩⟩
theorem Tj(T: .b)(n:Nat): .vy P w K T.gi.fn.f T.gi.fn.fd T n (∃b,x= .fn b):=by rw[72,RV T.gi];obtain⟨i,t,x,tk,us,r,rfl,⟨b,rfl⟩,⟨_,i,A,val,rfl,hi,X⟩,V,D,y,S,g⟩:=h;obtain⟨u,p⟩:=S b Y;have a:r= .ok (.func b (Vaunih.ofList tk)):=.sM y;subst a;exact⟨i,t,.pm,us,Y,⟨⟨A,hi⟩,V⟩,.vz H' s ⟨u,x,G,t,us,Y,W,s _ _ V,by rw[<-b_ D];exact p,Az.mpr (.df D)⟩⟩
theorem Ts(T: .b)(n:Nat): .vy P w K T.gi.mC.f T.gi.mC.fd T n (x= .pair):=by rw[369,.lg (R0 T.gi),Od y];obtain⟨u,v,rfl,h1,h2⟩:=mT D;exact⟨i,t,.rX,⟨⟨A,hi⟩,V⟩,u,v,Y,.vz H' s ⟨x,G,u,v,Y,W,.df h1,.df h2⟩⟩
theorem Tn(T: .b)(n:Nat): .vA T.gi.fst.f T.gi.fst.fd (.js T n (x= .fst)):=by rw[369,.lg (RW T.gi),Oc y];obtain⟨u,rfl,p,dp,f,k,rfl,hp,h1,h2⟩:=kE D;exact⟨i,t,.rX,⟨⟨A,hi⟩,V⟩,p,dp,f,k,Y,hp,g H f .gX h1⟩
theorem Tv(T: .b)(n:Nat): .vA T.gi.snd.f T.gi.snd.fd (.js T n (x= .snd)):=by rw[369,.lg (R5 T.gi),Og y];obtain⟨u,rfl,p,dp,f,k,rfl,hp,h1,h2⟩:=kE D;exact⟨i,t,.rX,⟨⟨A,hi⟩,V⟩,p,dp,f,k,Y,hp,g H k .gX h2⟩
theorem bw.list{C:VC}{F:Hp}{n:Nat}{l:aP}{v:L2.V}(h: .fX l v)(R: .jK):∃a G f o,v= .B/\F a= .x6 C (.a5 .FL) f o:=by
 cases l with
 |nil=>rw[199,⟨a,G,_,_,e,h⟩]
 |cons x l=>obtain⟨_,a,G,f,o,e,h,_⟩:=h;exact⟨a,G,_,_,e,h⟩
 |num _ _=>cases R
 |truth _=>cases R
 |pair _ _=>cases R
 |func _ _=>cases R
theorem Th(T: .b)(n:Nat): .DK P w K mg T.gi.cons.f T.gi.cons.fd (.js T n (x= .cons)):=by rw[154,.lg (RS T.gi)];obtain⟨a,l,rfl,R,rfl⟩:=Ob y;obtain⟨u,v,rfl,h1,h2⟩:=mT D;obtain⟨o,fV,f,k,rfl,d⟩:=h2.list R;exact⟨i,t,.rX,⟨⟨A,hi⟩,V⟩,u,o,fV,_,f,k,Y,d,.vz H' s ⟨R,x,G,u,o,Y,W,.df h1,.df h2⟩⟩
theorem Tt(T: .b)(n:Nat): .J P w K .x 7 T.gi.pow.f T.gi.pow.fd ["instruction","taken"] (.js T n (∃k,x= .o5)):=by rw[72,R1 T.gi];obtain⟨i,t,x,tk,us,r,rfl,⟨k,rfl⟩,⟨ok,i,A,val,rfl,hi,X⟩,V,D,y,_,g⟩:=h;obtain⟨p,v,rfl,rfl⟩:=Oe y;obtain⟨u,rfl,h1⟩:=kE D;exact⟨i,t,.rX,⟨⟨A,hi⟩,V⟩,u,Y,Vb T n ⟨u,p,v,k,Y,h1,⟨ok.lo,ok.pw k Y⟩,g⟩⟩
theorem To(T: .b)(n:Nat): .vy P w K T.gi.less.f T.gi.less.fd T n (x= .op .less):=by rw[72,RX T.gi];obtain⟨i,t,x,tk,us,r,rfl,rfl,⟨ok,i,A,val,rfl,hi,X⟩,V,D,d,_,g⟩:=h;rw[368,d];obtain⟨a,b,rfl,⟨x,t1,d1,rfl,h1,f⟩,⟨y,t2,d2,rfl,h2,k⟩⟩:=mT D;rw[258,k];rw[15,⟨i,t,.rX,⟨⟨A,hi⟩,V⟩,x,y,t1,d1,v,t2,d2,u,Y,.cc,C,m,λH' z G s hz=>g H' .fp s ⟨z,G,Y,?_⟩⟩,f.is.lt k.is,hz]
theorem Tu(T: .b)(n:Nat): .vy P w K T.gi.same.f T.gi.same.fd T n (x= .op .same):=by rw[72,R4 T.gi];obtain⟨i,t,x,tk,us,r,rfl,rfl,⟨ok,i,A,val,rfl,hi,X⟩,V,D,d,_,g⟩:=h;rw[368,d];obtain⟨a,b,rfl,⟨x,t1,d1,rfl,h1,f⟩,⟨y,t2,d2,rfl,h2,k⟩⟩:=mT D;rw[258,k];rw[15,⟨i,t,.rX,⟨⟨A,hi⟩,V⟩,x,y,t1,d1,v,t2,d2,u,Y,.cc,C,m,λH' z G s hz=>g H' .fp s ⟨z,G,Y,?_⟩⟩,show .a9 p q= .a9 (t1*(d2:Int)) (t2*(d1:Int))from by rw[iN];exact f.is.same k.is,hz]
def qL: .c1 .cd
 | .num _ _=>true
 | .truth _=>true
 | .nil=>true
 | .fn _=>true
 | .pair=>true
 | .fst=>true
 | .snd=>true
 | .cons=>true
 | .op _=>true
 | .pow _=>true
 | .root=>true
 |_=>.a
theorem R7(T: .b)(n:Nat)(u:base.NoSeer)(I: .aj=none): .J P w K .x 43 T.tK.f T.tK.fd ["instruction","taken"] (.js T n (.c (qL x))):=by
 refine T.tK.F.az ["instruction","taken"] .f;obtain⟨i,t,x,tk,us,r,rfl,aw,hi,V,D,y,S,g⟩:=h;obtain⟨ok,i,A,val,rfl,c,X⟩:=id hi;refine⟨.ax (xx .bn (xA (jl Y T.cv.g) .i) (bj .F .e))⟩;have cl:=.dG;have s:=.fP;have fin:∀{ok: .ap .cd},ok x->gR T n ok .g6 H Q E:=λh=>⟨.fH,t,x,tk,us,r,Y,h,hi,V,D,y,S,g⟩
 cases x with
 |num q v=>exact⟨.d7 "num" T,Tr T n,.b3,T.gi.num.F.kp,T.gi.num.F.b,.j,fin ⟨.h⟩⟩
 |truth b=>
  cases b with
  |true=>exact⟨.d7 "true" T,Tw T n,.b3,T.gi.nk.F.kp,T.gi.nk.F.b,.kR⟩
  |false=>exact⟨.d7 "false" T,Ti T n,.b3,T.gi.mu.F.kp,T.gi.mu.F.b,.kR⟩
 |nil=>exact⟨.d7 "nil" T,Tq T n,.b3,T.gi.nil.F.kp,T.gi.nil.F.b,.kR⟩
 |fn b=>exact⟨.d7 "fn" T,Tj T n,.b3,T.gi.fn.F.kp,T.gi.fn.F.b,.j,fin ⟨_,Y⟩⟩
 |pair=>exact⟨.d7 "pair" T,Ts T n,.b3,T.gi.mC.F.kp,T.gi.mC.F.b,.kR⟩
 |fst=>exact⟨.d7 "fst" T,Tn T n,.b3,T.gi.fst.F.kp,T.gi.fst.F.b,.kR⟩
 |snd=>exact⟨.d7 "snd" T,Tv T n,.b3,T.gi.snd.F.kp,T.gi.snd.F.b,.kR⟩
 |cons=>exact⟨.d7 "cons" T,Th T n,.b3,T.gi.cons.F.kp,T.gi.cons.F.b,.kR⟩
 |pow k=>exact⟨.d7 "pow" T,Tt T n,.b3,T.gi.pow.F.kp,T.gi.pow.F.b,.j,fin ⟨_,Y⟩⟩
 |root=>exact⟨.d7 "root" T,R3 T n u I,M,T.gi.root.F.kp,T.gi.root.F.b,.kR⟩
 |op o=>
  cases o with
  |less=>exact⟨.d7 "less" T,To T n,.b3,T.gi.less.F.kp,T.gi.less.F.b,.kR⟩
  |same=>exact⟨.d7 "same" T,Tu T n,.b3,T.gi.same.F.kp,T.gi.same.F.b,.kR⟩
  |add=>exact⟨.d7 "add" T,qV T n u I,M,.vx T T ⟨.o⟩⟩
  |sub=>exact⟨.d7 "sub" T,qV T n u I,M,.vx T T ⟨.o⟩⟩
  |mul=>exact⟨.d7 "mul" T,qV T n u I,M,.vx T T ⟨.o⟩⟩
  |div=>exact⟨.d7 "div" T,qV T n u I,M,.vx T T ⟨.o⟩⟩
  |floor=>exact⟨.d7 "floor" T,qV T n u I,M,.vx T T ⟨.o⟩⟩
  |rest=>exact⟨.d7 "rest" T,qV T n u I,M,.vx T T ⟨.o⟩⟩
 |_=>cases aw
def WE(T: .b):Sp:=.AS (vs=[i]/\ .ii i/\ .cx (qL x))
theorem Sn(T: .b): .J0 T.tU.f T.tU.fd (WE T):=by
 refine T.tU.F.az ["instruction"] .f;obtain⟨i,x,rfl,⟨ok,i,A,val,rfl,c,X⟩,q⟩:=h;rw[0,⟨.ax (xy (HS .i (jl Y T.cv.g)))⟩,⟨.lj,c,.dG,.fP,a_,T.cv.a,_,.inr .de,Y,T.cv.k,Y,?_⟩]
 cases x with
 |truth b=>cases b<;>exact q
 |op o=>cases o<;>exact q
 |_=>exact q
end
section
open Vaunih (Instr Op)
abbrev aX:=dH
variable{P:Program}{w:World}{K:ag}{mg: .d}{base:Heap}
def nA(T: .b)(F:Hp)(b:cM)(v:L2.V):Prop:=∃a l f xs,v= .B/\F a= .bX T.block.c l (j0 (.int .li) (.int b.self) .ai)/\F f= .cu/\ .xk T F .ey xs/\ .li<=60/\b.self<=1/\ .AO
def dQ(T: .b)(F:Hp)(c:aX)(v:L2.V):Prop:=∃l bs,v= .ou/\F l= .a7 bs/\Paired (nA T F) c bs/\ .az<=60/\1<= .az
theorem nA.same{T: .b}{F m:Hp}{b:cM}{v:L2.V}(h:nA T F b v)(s: .dh m):nA T m b v:=by obtain⟨a,l,f,xs,e,h1,h2,h3,h4⟩:=h;exact⟨a,l,f,xs,e,s _ _ h1,s _ _ h2,.g4 h3 (.df z),h4⟩
theorem dQ.same{T: .b}{F m:Hp}{c:aX}{v:L2.V}(h: .fJ F v)(s: .dh m): .fJ m v:=by obtain⟨l,bs,e,h1,h2,h3⟩:=h;exact⟨l,bs,e,s _ _ h1,.g4 h2 (.df z),h3⟩
theorem dP{α β:Type}{R: .nG}:∀{xs: .av} {ys: .lA},.pZ->∀{i:Nat} {x:α},.iN= .aa->∃y,.a1 ys= .d3/\R x y
 |_,_,.nil,i,x,e=>by simp at e
 |_,_,.cons h t,0,x,e=>by simp at e;subst e;exact⟨_,Y,h⟩
 |_,_,.cons h t,i+1,x,e=>by
  obtain⟨y,h1,h2⟩:=dP t (by simpa using e)
  exact⟨y,by simpa using h1,h2⟩
def jW(c:aX): .cd-> .H
 | .num _ _=>[]
 | .truth _=>[]
 | .nil=>[]
 | .get _=>[]
 | .bind=>["value"]
 | .free _=>[]
 | .fn b=>List.replicate (.nu c b x) "value"
 | .call _=>["function","value"]
 | .fold _=>["value","value","list"]
 | .ret=>["value"]
 | .skip _=>[]
 | .unless _=>["truth"]
 | .part _=>["list"]
 | .pair=>["value","value"]
 | .fst=>["pair"]
 | .snd=>["pair"]
 | .cons=>["value","list"]
 | .op _=>["number","number"]
 | .pow _=>["number"]
 | .root=>["number"]
theorem BG(c:aX)(x:Instr): .aA (jW c x) .dY:=by cases x<;>first|rfl|(unfold jW Vaunih.takes;rw[lN])
def W2(T: .b):Sp:=λvs H Q _=>∃(i bl:L2.V) (x:Instr) (c:aX),vs=[i,bl]/\ .ii i/\ .fJ H bl/\(∀b,x= .fn b->b< .az)/\∀H' p,.R->aM K H' p (.jF (jW c x))-> .eW p
theorem A6(T: .b): .cb T.oC.f T.oC.fd ["instruction","blocks"] (W2 T):=by
 refine T.oC.F.az ["instruction","blocks"] .f;obtain⟨i,bl,x,c,rfl,⟨ok,i,A,val,rfl,hi,X⟩,⟨l,bs,rfl,R,d,y,g⟩,S,q⟩:=h;rw[252,.dG,.fP,.sa];rw[0,⟨_,.lF (.ld .i bq (aL TU (.wh bq) (J (bz c7 .e .i)))) (xA (jl Y T.bI.g) .i)⟩,⟨.nf,.aJ⟩];by_cases j:∃b,x= .fn b
 ·obtain⟨b,rfl⟩:=j;have n:=S b Y;obtain⟨v,D,a,m,f,xs,rfl,N,_,_,G,_⟩:=.lu d n;rw[47,⟨aY,.nH⟩];rw[366,.g5 t [.lW],.gs V,⟨.iy,U _ _ hi,cl,r,dS,l,.eK (U _ _ R) D,a,_,m,.h,U _ _ N,.sP,.x8 T,rF,t,.o,aB,.ga,λH' p B hp=> ?_⟩,q H' p (.gG U) (aM.of ?_)];rw[128,.jF (jW c (.fn b)),List.replicate (.yb (.sK c b)) (L2.V.str "value"),by show .jF (.GR (.nu c b x))=_;rw[bS n,Lh,i0];rfl,e,hp]
 ·have fin:∀{xs: .H} {k:Str},.de=k->jW c x=xs->cK K (T.bK k) (.jF xs)-> .bV (T.bK k) H:=λ{xs k} _ e k=>q H _ .gX (.Bo k.sq)
  cases x with
  |fn b=>rw[5,⟨b,Y⟩,j]
  |num a b=>rw[4,⟨.b9 "num" T T.Ge⟩]
  |truth b=>
   cases b with
   |true=>rw[4,⟨.b9 "true" T T.Gr⟩]
   |false=>rw[4,⟨.b9 "false" T T.F5⟩]
  |nil=>rw[4,⟨.b9 "nil" T T.Gd⟩]
  |get a=>rw[4,⟨.b9 "get" T T.F_⟩]
  |bind=>rw[4,⟨.b9 "bind" T T.F1⟩]
  |free a=>rw[4,⟨.b9 "free" T T.F8⟩]
  |call a=>rw[4,⟨.b9 "call" T T.F2⟩]
  |fold a=>rw[4,⟨.b9 "fold" T T.F7⟩]
  |ret=>rw[4,⟨.b9 "ret" T T.Gj⟩]
  |skip a=>rw[4,⟨.b9 "skip" T T.Gn⟩]
  |«unless» a=>rw[4,⟨.b9 "unless" T T.Gs⟩]
  |part a=>rw[4,⟨.b9 "part" T T.Gg⟩]
  |pair=>rw[4,⟨.b9 "pair" T T.Gf⟩]
  |fst=>rw[4,⟨.b9 "fst" T T.F9⟩]
  |snd=>rw[4,⟨.b9 "snd" T T.Gp⟩]
  |cons=>rw[4,⟨.b9 "cons" T T.F3⟩]
  |pow a=>rw[4,⟨.b9 "pow" T T.Gh⟩]
  |root=>rw[4,⟨.b9 "root" T T.Gk⟩]
  |op o=>
   cases o with
   |add=>rw[4,⟨.b9 "add" T T.F0⟩]
   |sub=>rw[4,⟨.b9 "sub" T T.Gq⟩]
   |mul=>rw[4,⟨.b9 "mul" T T.Gb⟩]
   |div=>rw[4,⟨.b9 "div" T T.F4⟩]
   |floor=>rw[4,⟨.b9 "floor" T T.F6⟩]
   |rest=>rw[4,⟨.b9 "rest" T T.Gi⟩]
   |less=>rw[4,⟨.b9 "less" T T.Ga⟩]
   |same=>rw[4,⟨.b9 "same" T T.Gm⟩]
def V6(T: .b):Sp:=.AS (vs=[i]/\ .ii i/\Q (.a5 (Vaunih.gives x)) H)
theorem R8(T: .b): .J0 T.tL.f T.tL.fd (V6 T):=by
 refine T.tL.F.az ["instruction"] .f;obtain⟨i,x,rfl,⟨ok,i,A,val,rfl,hi,X⟩,q⟩:=h;rw[0,⟨.ax (hA (aU mS .i (jl Y T.ya.g) Y) aq aq)⟩,⟨.hZ,.dG,.fP,a_,T.ya.a,.nr T.ya.k.sq,Y,.aJ⟩]
 cases x with
 |truth b=>cases b<;>rw[4,q]
 |op o=>cases o<;>rw[4,q]
 |_=>first|exact aR q|exact aj q
def YU: .H:=(.Gv .tL).map .Bb
def kn(t:Str):Bool:=decide (t="fn")||YU.any λk=>.a9 k t
def Ws:Sp:=λvs H Q _=>∃t:Str,vs=(.cX t)/\ .cx (kn t)
theorem Sh(T: .b): .Ap T.tR.f T.tR.fd Ws:=by
 refine T.tR.F.az ["text"] .f;obtain⟨t,rfl,q⟩:=h;rw[0,⟨.ax (HW (.ji .F bq) (kF (xy (HS .F (jl Y T.bI.g)))))⟩,⟨.cs⟩];unfold kn at q;by_cases h:t="fn"
 ·subst h;exact aR q
 ·rw[10,.fR t "fn",.a,.wP (by injection z)];rw[126,e,⟨_,Y,T.bI.a,_,.inr t,Y,T.bI.k,Y,?_⟩];rw[aW h,yA]at q;rw[<-J8];have D:∀k:Str,.IG (.rS k) t= .a9 k t:=λk=>by rw[iN];exact⟨λz=>by injection z,λz=>by rw[z]⟩
  simp only[y4,List.any_nil,D];exact q
end
section
open Vaunih (Instr Op Hand Over Machine)
abbrev cx:=Vaunih.Frame
variable{P:Program}{w:World}{K:ag}{mg: .d}{base:Heap}
def dm: .c1 HO
 | .tup _=>true
 | .ins _ _ fs=>(.q8 fs ("kind":Str))||(.q8 fs ("folds":Str))||(.q8 fs ("word":Str))||(.q8 fs ("made_with":Str))
 |_=>.a
def oM: .c1 HO
 | .lst _=>true
 |_=>.a
def aD(L: .g)(H:Hp):Hp:=λb=>match H b with
 |some o=>.aq (dm o||(oM o&& .g0 b L)) .l none
 |none=>none
theorem lj{L: .g}{H:Hp}{b:Addr}{o:HO}(h:H b= .l)(k: .c (dm o||(oM o&& .g0 b L))):aD L H b= .l:=by unfold aD;rw[h];exact af k
theorem jL{L: .g}{H:Hp}{b:Addr}{o:HO}(h:aD L H b= .l):H b= .l/\ .c (dm o||(oM o&& .g0 b L)):=by
 unfold aD at h;split at h
 ·split at h
  ·rw[94,⟨.q7,.q7⟩]
  ·cases h
 ·cases h
theorem aV{L: .g}{H:Hp}:ae .ba H:=λ_ _ h=>(jL h).1
theorem c0{L: .g}{H:Hp}{b:Addr}{o:HO}(h:H b= .l)(k: .sQ o):aD L H b= .l:=lj h (by rw[k];rfl)
theorem Fb{L: .g}{H:Hp}{b:Addr}{xs: .N}(h:H b= .cu)(k:b∈L):aD L H b= .cu:=lj h (by rw[bC k];rfl)
abbrev Kp(L: .g)(H H':Hp):Prop:=ae .ba (aD L H')
theorem ae.kp{L: .g}{H H':Hp}(s: .R):Kp L H H':=λb o h=>lj (s _ _ (jL h).1) (jL h).2
theorem SameBut.kp{L: .g}{r:Addr}{H H':Hp}{o:HO}(s: .ia)(M:H r= .l)(k:(dm o||(oM o&& .g0 r L))= .a):Kp L H H':=λb o' h=>by obtain⟨h1,h2⟩:=jL h;refine lj (s b o' h1 .t1) h2;subst e;rw[M]at h1;cases h1;rw[k]at h2;cases h2
theorem OG{C G:Addr}{a b c:L2.V}: .lE C G (jE a b c):=by kernel_rfl
theorem FF{C G:Addr}{a:L2.V}: .lE C G (iM a):=by kernel_rfl
theorem FA{C G:Addr}{a b c:L2.V}: .lE C G (dF a b c):=by kernel_rfl
theorem FE{C G:Addr}{a b:L2.V}: .lE C G (iI a b):=by kernel_rfl
theorem Ar{C G:Addr}{a b:L2.V}: .lE C G (jy a b):=by kernel_rfl
theorem FD{C G:Addr}{a b c:L2.V}: .lE C G (iA a b c):=by kernel_rfl
theorem OD{C G:Addr}{a b c:L2.V}: .lE C G (j0 a b c):=by kernel_rfl
theorem qI{C G:Addr}{a b c d e f:L2.V}: .lE C G (du a b c d e f):=by kernel_rfl
theorem wK{C G:Addr}{a b c d e f g:L2.V}: .lE C G (ez a b c d e f g):=by kernel_rfl
theorem km{L: .g}{C G r:Addr}{a b c d e f g h:L2.V}:(.nm C G (cw a b c d e f g h)||(oM (.ins C G (cw a b c d e f g h))&& .g0 r L))= .a:=by
 have h1: .nm C G (cw a b c d e f g h)= .a:=by kernel_rfl
 rw[19,h1]
theorem VX.aD{C:VC}{H:Hp}{n:Nat}(L: .g):∀(x:aP),(∀v,.jT C H n x v-> .jT C .ba n x v)/\(∀us,.q6 C H n x-> .q6 C .ba n x)
 | .num q wt=>⟨λv ⟨a,t,d,e,⟨G,h⟩,k⟩=>⟨a,t,d,e,⟨G,c0 h OG⟩,k⟩,.t5⟩
 | .truth b=>⟨.Ac ⟨a,G,e,c0 h FF⟩ h⟩
 | .nil=>⟨.Ac ⟨a,G,e,c0 h FA⟩ h⟩
 | .cons x l=>⟨λv ⟨R,a,G,f,o,e,h,h1,h2⟩=>⟨R,a,G,f,o,e,c0 h FA,.t4 L x _ h1,.t4 L l _ h2⟩,λus ⟨u,i,e,h1,h2⟩=>⟨u,i,e,.t4 L x _ h1,(VX.aD L l).2 _ h2⟩⟩
 | .pair x y=>⟨λv ⟨a,G,f,g,e,h,h1,h2⟩=>⟨a,G,f,g,e,c0 h FE,.t4 L x _ h1,.t4 L y _ h2⟩,.t5⟩
 | .func b kept=>⟨λv ⟨S,a,G,t,us,e,h,h1,h2,h3⟩=>⟨S,a,G,t,us,e,c0 h Ar,c0 h1 Y,h2,(VX.aD L kept).2 _ h3⟩,.t5⟩
theorem bw.aD{C:VC}{H:Hp}{n:Nat}{x:aP}{v:L2.V}{L: .g}(h:bw C H n x v):bw C (.t3 H) n x v:=.t4 L x v h
theorem bw.out{C:VC}{H:Hp}{n:Nat}{x:aP}{v:L2.V}{L: .g}(h:bw C (.t3 H) n x v):bw C H n x v:=h.same aV
theorem bY.out{C:VC}{H:Hp}{n:Nat}{xs: .Q}{vs: .N}{L: .g}(h:bY C (.t3 H) n xs vs):bY C H n xs vs:=h.same aV
theorem de.out{T: .b}{H:Hp}{x:Instr}{v:L2.V}{L: .g}(h: .pe (.t3 H) v): .ii v:=h.same aV
theorem dQ.out{T: .b}{H:Hp}{c:aX}{v:L2.V}{L: .g}(h: .fJ (.t3 H) v): .fJ H v:=h.same aV
def Fq:Hand->Int
 | .result _=>0
 | .element _=>1
 | .both _ _=>2
 | .nothing=>3
def rS(C:VC)(F:Hp)(n:Nat): .bk Hand .N
 | .result v,us=>.nM [v]
 | .element v,us=>.nM [v]
 | .both g v,us=>.nM [g,v]
 | .nothing,us=>us=[]
def dv(T: .b)(F:Hp)(n:Nat): .bk .aW L2.V
 |[],v=>v= .au
 | .block b i ls ws d::rest,v=>b<n/\∃a G ro pl u rs ps,v= .B/\F a= .bW .sV (du .fV .aL .lx .ih .jJ u)/\F ro= .aE rs/\bY T.vc F n .nv rs/\F pl= .aE ps/\bY T.vc F n ls ps/\dv T F n rest u
 | .fold f left l d hand::rest,v=>∃a G co g u fv us,v= .B/\F a= .bW T.fr.ff.c (ez fv co (.int l) .jJ (.int (Fq hand)) .q5 u)/\ .hD F f fv/\ .hD F (Vaunih.ofList left) co/\F g= .jS/\rS T.vc F n hand us/\dv T F n rest u
theorem rS.same{C:VC}{F m:Hp}{n:Nat}{h:Hand}{us: .N}(k:rS C F n h us)(s: .dh m):rS C m n h us:=by
 cases h with
 |nothing=>exact k
 |result v=>exact .ER [v] s
 |element v=>exact .ER [v] s
 |both g v=>exact .ER [g,v] s
theorem dv.same{T: .b}{F m:Hp}{n:Nat}(s: .dh m):∀{fs: .aW} {v:L2.V},dv T F n fs v->dv T m n fs v
 |[],_,h=>h
 | .block b i ls ws d::rest,_,⟨hb,a,dx,ro,pl,u,rs,ps,e,h1,h2,h3,h4,h5,h6⟩=>⟨hb,a,dx,ro,pl,u,rs,ps,e,s _ _ h1,s _ _ h2,.df h3,s _ _ h4,.df h5,dv.same s h6⟩
 | .fold f left l d hand::rest,_,⟨a,dx,co,he,u,fv,us,e,h1,h2,h3,h4,h5,h6⟩=>⟨a,dx,co,he,u,fv,us,e,s _ _ h1,.df h2,.df h3,s _ _ h4,.df h5,dv.same s h6⟩
def nF(top:Bool): .ap cx
 | .block _ i ls ws d=>i<=1400/\ .ah+(.wL top)<=i/\ .K ls (62+2*i)/\d<=160
 | .fold _ _ l d _=>l<=999/\d<=160
def pR: .ap .aW
 |[]=>True
 |f::r=>nF true f/\∀g∈r,nF .a g
def oE:cx->Nat
 | .block _ _ _ _ d=>d
 | .fold _ _ _ d _=>d
def lU(C:VC)(F:Hp)(n:Nat): .A9->L2.V-> .bk L2.V L2.V
 |none,oc,p,rs=>oc= .aX/\p= .aX/\rs= .au
 |some (.ended v),oc,p,rs=>oc= .int 1/\p= .aX/\ .fX v rs
 |some (.refused k),oc,p,rs=>oc= .int 2/\p= .int k/\rs= .au
theorem lU.same{C:VC}{F m:Hp}{n:Nat}{o: .A9}{a b c:L2.V}(k:lU C F n o a b c)(s: .dh m):lU C m n o a b c:=by
 cases o with
 |none=>exact k
 |some o=>cases o with
  |refused j=>exact k
  |ended v=>exact⟨k.1,k.2.1,.df (.bA k)⟩
structure gH(T: .b)(L: .g)(H:Hp)(r:Addr)(c:aX)(m:Machine)(bl dn mk:L2.V):Prop where
 obj:∃dr tp oc rf rs,H r= .pU dr (cw bl tp .ww dn oc rf rs mk)/\ .nz T .lB tp/\lU T.vc .ba .az .fW oc rf rs
 code: .nB
def Res(T: .b)(L: .g)(H:Hp)(r:Addr)(c:aX)(bl dn mk:L2.V)(x: .Et)(Q:VK)(E:XK):Prop:=match x with
 | .ok m=>∀H',.ia-> .jG T L H' r c m-> .bN
 | .error k=>eM T.R .bq H E
end
section
open Vaunih (Instr Op Hand Over Machine)
def kindS:aP->Str
 | .num _ _=>"number"
 | .truth _=>"truth"
 | .nil=>"list"
 | .cons _ _=>"list"
 | .pair _ _=>"pair"
 | .func _ _=>"function"
theorem bw.kind{T: .b}{F:Hp}{n:Nat}{x:aP}{v:L2.V}(h: .jN F x): .zW (v= .B) (F a= .hY fs/\eL K C/\hG K C "kind"/\ .so fs ("kind":Str) (.pa (kindS x))):=by
 cases x with
 |num q wt=>obtain⟨a,t,d,e,⟨G,h⟩,_⟩:=h;exact⟨a,_,G,_,e,h,.wD,T.gi.ex.U.T.num.n "kind",QY⟩
 |truth b=>rw[199,⟨a,_,G,_,e,h,.EK,T.gi.truth.n "kind",LZ⟩]
 |nil=>rw[199,⟨a,_,G,_,e,h,.zX T T "kind",Cu⟩]
 |cons y l=>obtain⟨_,a,G,f,o,e,h,_⟩:=h;exact⟨a,_,G,_,e,h,.zX T T "kind",Cu⟩
 |pair y z=>obtain⟨a,G,f,o,e,h,_⟩:=h;exact⟨a,_,G,_,e,h,.EJ,T.gi.pair.n "kind",Lw⟩
 |func b kept=>obtain⟨_,a,G,t,us,e,h,_⟩:=h;exact⟨a,_,G,_,e,h,.EG,T.gi.func.n "kind",KR⟩
theorem dv.depth{T: .b}{F:Hp}{n:Nat}{fr:cx}{rest: .aW}{v:L2.V}(h:dv T F n .nF v): .zW (v= .B) (F a= .hY fs/\eL K C/\hG K C "depth"/\ .EI fs (.a5 (oE fr))):=by
 cases fr with
 |block b i ls ws d=>obtain⟨_,a,G,ro,pl,u,rs,ps,e,h,_⟩:=h;exact⟨a,_,G,_,e,h,.f3,.Es T,vg⟩
 |fold f left l d hand=>obtain⟨a,G,co,g,u,fv,us,e,h,_⟩:=h;exact⟨a,_,G,_,e,h,.sG,T.fr.ff.n "depth",yO⟩
theorem ie{α β:Type}{R: .nG}:∀{xs a: .av} {ys b: .lA},.pZ-> .vQ a b-> .vQ (xs++a) (ys++b)
 |_,_,_,_,.nil,h=>h
 |_,_,_,_,.cons h t,k=>.cons h (ie t k)
theorem bH{H m:Hp}{t:Addr}{o:HO}(e: .es t=m)(h:H t=none): .aB m/\m t= .l:=by subst e;exact⟨.gs h,aB⟩
theorem Kr{H m:Hp}{t:Addr}{o:HO}(e: .es t=m): .d8 t m/\m t= .l:=by subst e;exact⟨λb o h n=>.bp n h,aB⟩
theorem cJ{H:Hp}{t:Addr}{o:HO}{G: .f1}(h:H t=none)(k:∀m,.aB m->m t= .l->G m):G (.es t):=k _ (.gs h) aB
theorem bc{H:Hp}{t:Addr}{o:HO}{G: .f1}(k:∀m,.d8 t m->m t= .l->G m):G (.es t):=k _ (Kr Y).1 aB
theorem mK{H m:Hp}{x G:Addr}{o v C:HO}(e:upd (upd (upd H G v) x C) x o=m)(nx:H x=none)(nd:H G=none): .aB m/\m x= .l:=by subst e;refine⟨λq o h=> ?_,aB⟩;have F:q≠x:=.aN nx;rw[aC F,aC F,.jm h nd];exact h
theorem SameBut.refl{r:Addr}{H:Hp}: .d8 r H:=λ_ _ h _=>h
theorem SameBut.trans{r:Addr}{H H' F:Hp}(s: .ia)(e:SameBut r H' F): .d8 r F:=λb o h n=>e _ _ (s b o h n) n
theorem ky{H:Hp}{a r C y:Addr}{o:HO}{bl s lf dn oc p rs mk:L2.V}(h:H a= .l)(k: .sQ o)(F:H r= .pw y (.jA s p)):a≠r:=bx h F λz=>by rw[z,(pM.mp (km (L:=[]) (r:=r))).1]at k;cases k
theorem SameBut.gC{r:Addr}{H H' F:Hp}(s: .ia)(e:ae H' F): .d8 r F:=λb o h n=>e _ _ (s b o h n)
def VZ(T: .b)(L: .g):Sp:=λvs H Q E=>∃(r:Addr) (fv d b bl dn mk:L2.V) (j:Nat) (c:aX) (m:Machine) (f a:aP) (fr:cx) (rest: .aW),vs=[.i4,fv,d,.pY,b]/\ .jG T L H r c m/\ .fW=none/\ .nz T .nF b/\ .sS f fv/\ .sS a d/\Res T L H r c bl dn mk (.zD m .nF (oE fr) j f a) Q E
theorem AY(T: .b)(L: .g): .gI T.n_.f T.n_.fd ["run","f","value","level","frame"] (VZ T L):=by
 refine T.n_.F.az ["run","f","value","level","frame","depth","itself"] .f;obtain⟨r,fv,vv,frv,bl,dn,mk,j,c,m,f,a,fr,rest,rfl,⟨⟨dr,s,oc,rf,rs,F,htp,hov⟩,I⟩,B,n,hf,N,g⟩:=h;have hdep:=n.depth;obtain⟨kf,kC,kd,kfs,rfl,hk1,hk2,hk3,hk4⟩:=hf.kind;obtain⟨da,dC,dd,dfs,rfl,hd1,hd2,hd3,hd4⟩:=n.depth;rw[155,B];rw[0,⟨_,.eo (.cP (aU jj .T bq) (iq W Y T.hB.fe (Hj T.hB) M Y T.hB.g T.hB.F.b fL)) 5 nd (aL c9 (.jl 4) .a3) (.i1 (.wC ic (pv 5) "MOST_DEPTH" 160 (iq W Y T.rA.fe (Rt T.rA) M Y T.rA.g T.rA.F.b fL)) (.cP (.pj .i) (iq W Y T.qT.fe (Rp T.qT) M Y T.qT.g T.qT.F.b fL)) (.aC 6 nd (.wB (J (.nk .T)) (.wh .e) (dE dO)) (Z (.pX aq OK) (.hT (cS T.fr.bf (AV T.fr.bf) M.m W (uM .T aq (dE dO) (.e1 oX oX .T (pv 6) (dE (.bz 2))) (pv 5) .aF)))))),?_⟩,⟨_,Y,kf,_,kd,.h,.X hk1,hk2,hk3,hk4,.aJ⟩]
 cases f with
 |func b kept=>
  rw[18,?_];obtain⟨S,fa,fdx,t,us,e,hfa,V,hus,hkept⟩:=hf;cases e;obtain⟨hk,ekept⟩:=AA hkept;obtain⟨l,bs,rfl,R,d,hc1,hc2⟩:=I;obtain⟨bv,hbv,ba,dba,bli,bxs,rfl,hba,_,_,_,hself,_⟩:=.lu d S;have h1a:=.X hfa;have h1t:=.X V;have h1l:=.X R;have h1b:=.X hba;have rcl:=.np
  have ecw: .zD m .nF (oE fr) j (.lz b) a= .EH (.zV<oE fr+j) 5 (if .eg=0 then .error 4 else
   .ok {m with calls:=.eg-1,frames:=.pp 0 (kept.list++((.nE ((.wc c b x.self)= .pW) [.lz b])++[a])) [] (oE fr+j):: .nF}):=rfl
  have fcl:=.EG;rw[0,⟨_,Y,da,_,dd,.h,.X hd1,hd2,hd3,hd4,.b2,?_⟩,⟨.i9,.EF ?_ ?_⟩]
  ·have c1': .zV<oE fr+j:=by have:=bQ c1;show 160<_;omega
   rw[ecw,af c1']at g;exact T.rA.raises g
  have c1':¬ .zV<oE fr+j:=by have:=cq (.eR▸c1);show¬160<_;omega
  refine⟨.eZ,.nw,F,rcl,T.run.n "left",v8,.aR,cE (λc2=> ?_) (λc2=> ?_)⟩
  ·have c2': .eg=0:=by
    rw[30,(.eg:Int)=0,by simpa using c2]
   rw[ecw,aa c1',af c2']at g;exact T.qT.raises g
  have c2': .eg≠0:=λz=>c2 .EC;rw[ecw,aa c1',aa c2']at g;refine⟨.eZ,.nw,F,rcl,T.run.n "blocks",v7,_,Y,kf,_,fdx,.h,h1a,.EA T "block",CI,l,.eK h1l hbv,ba,_,dba,.h,h1b,.sP,.EE T,yy,.aR,cE (λc3=>⟨.pV ?i⟩) (λc3=>⟨.ab,λt1 A=> ?D⟩)⟩
  case' i=>
   have hself1:(c[b]:cM).self=1:=by
    rw[30,((c[b]:cM).self:Int)=1,by simpa using c3]
   have hits: .pO .az (.nE ((.wc c b x.self)= .pW) [.lz b]) [.ED]:=by rw[bS S,af (by simp only[Option.map_some,hself1])];exact .dE ⟨S,kf,fdx,t,us,Y,hfa,V,hus,hkept⟩
   have hsmall: .gm .a8 [.ED]<= .W:=.zH br (.aG us) _
   have hsmall2: .EB (us++[.ED]) [vv]<= .W:=by rw[br,bL];show .aG us+1<=_;omega
  case' D=>
   have hself1:(c[b]:cM).self≠1:=λz=>c3 .EC;have hits: .pO .az (.nE ((.wc c b x.self)= .pW) [.lz b]) (.mW []):=by rw[bS S,aa (by simp only[Option.map_some];intro z;exact hself1 (by injection z))];exact .nil
   have hsmall: .gm .a8 (.mW [])<= .W:=.zH br (.a8+0) _
   have hsmall2: .EB (us++(.mW [])) [vv]<= .W:=by rw[br,bL];show .a8+0+1<=_;omega
  all_goals
   refine cJ A λH1 U g1=> ?_
   have i:=U _ _ F
   rw[82,⟨.eZ,.nw,i,rcl,T.run.n "left",v8,.o,dr,_,i,.ei⟩,Iy,λX w2 D=> ?_]
   have b2: .d8 r X:=.Ep U w2
   refine⟨_,Y,kf,_,fdx,.h,b2 _ _ h1a (ky h1a Ar F),.EA T "block",CI,.ab,λt2 ht2=> ?_⟩
   generalize eH3:upd X t2 _=H3
   obtain⟨C,g3⟩:=bH eH3 ht2
   have b3:=b2.gC C
   refine⟨_,Y,kf,_,fdx,.h,b3 _ _ h1a (ky h1a Ar F),.EA T "kept",KQ,_,Y,t,t1,.o,b3 _ _ h1t (ky h1t Y F),C _ _ (w2 _ _ g1 (ky g1 Y i)),hsmall,λH4 p4 v hp4=> ?_⟩
   have b4:=b3.gC v
   refine⟨_,Y,aY,λt3 ht3=> ?_⟩
   generalize eH5:upd H4 t3 _=H5
   obtain⟨p,g5⟩:=bH eH5 ht3
   have b5:=b4.gC p
   refine⟨p4,t3,.o,p _ _ hp4,g5,hsmall2,λH6 p5 u hp5=> ?_⟩
   have b6:=b5.gC u
   refine⟨.j,λx G nx nd ne=>⟨x,G,_,.cK,.nA⟩⟩
   generalize eH7:upd (upd (upd H6 G _) x _) x _=H7
   obtain⟨e7,hx7⟩:=mK eH7 nx nd
   have b7:=b6.gC e7
   have r7:=e7 _ _ (u _ _ (p _ _ (v _ _ (C _ _ D))))
   rw[82,⟨.eZ,dr,_,Y,r7,rcl,.fQ⟩,kG,λH8 w8 r8=> ?_]
   have b8:=b7.trans w8
   rw[197,L,H8,b8.kp F km,H7 b= .l-> .sQ o->aD L H8 b= .l,w8 _ _ h (ky h k r7),k]
   refine g _ b8 ⟨⟨dr,.a4,.cT,?n3,⟨S,x,G,t2,p5,.cS,up hx7 qI,up (e7 _ _ (u _ _ (p _ _ (v _ _ g3)))) Y,.nil,up (e7 _ _ hp5) Y,?n5,.aZ n⟩,.zS ⟨.f6⟩⟩,dQ.same ⟨l,bs,Y,R,d,hc1,hc2⟩ kp⟩
   case n3=>
    rw[130,.zU .eg,.m (.eg-1)]
    rw[e]at r8
    exact r8
   case n5=>
    rw[32,d8,.nD (ie (.aZ hk) (hits.same kp)) (.aZ N)]
 |num q wt=>exact .wA T g
 |truth q=>exact .wA T g
 |nil=>exact .wA T g
 |cons q y=>exact .wA T g
 |pair q y=>exact .wA T g
end
section
open Vaunih (Instr Op Hand Over Machine)
def Wh(T: .b)(L: .g):Sp:=λvs H Q E=>∃(r:Addr) (d b bl dn mk:L2.V) (c:aX) (m:Machine) (v:aP) (below: .aW),vs=[.i4,b,d]/\ .jG T L H r c m/\ .fW=none/\ .nz T .P b/\(.Ez .a g)/\ .sS v d/\Res T L H r c bl dn mk (.ok (.Ei v .P)) Q E
theorem B7{C:VC}{F:Hp}{n:Nat}{ws: .Q}{rs: .N}{v:aP}{u:L2.V}(h: .l6 .nv rs)(k: .fX v u): .l6 (v::ws).reverse (rs++[u]):=by rw[kW];exact .nD h k
theorem Ht(T: .b)(L: .g): .gI T.qA.f T.qA.fd ["run","frame","value"] (Wh T L):=by
 refine T.qA.F.az ["run","frame","value"] .f;obtain⟨r,vv,frv,bl,dn,mk,c,m,v,below,rfl,⟨⟨y,tp,oc,rf,rs,F,htp,z⟩,I⟩,B,n,aw,hv,g⟩:=h;rw[264,B];rw[51];have p:=.f3;have t:=.sG;refine⟨_,O (aQ (.n1 .e) (.f7 f7 (T.bE "ENDED" 1) .p) (O (.zJ (.nC .T) (aJ T.fr.moved (kz T.fr) M W (kD .e .T (.l7 oX (dE (.bz 2))) .T)) (O (.zJ (.wi .T "ONE_VALUE" 1) (aJ T.fr.hand (xn T.fr) M W (kD .e .T (T.bE "FUNCTION_AND_VALUE" 2) (dE (.lh 2 (.fN .T))))) (.hT (aJ T.fr.hand (xn T.fr) M W (kD .e .T (T.bE "RESULT" 0) (dE (.bz 2)))))))))),?_⟩
 cases below with
 |nil=>cases(show frv= .au from n);rw[0,⟨.j,aR ?_⟩,⟨.cU,F,N,.fQ⟩];rw[266,kG,bc λH1 w1 r1=> ?_,⟨.cU,r1,.wz T,.ei⟩,Bs,bc λX w2 r2=> ?_,⟨.j,r,_,y,_,Y,r2,.zT T,.ei⟩];rw[9,IA,bc λV w3 r3=> ?_];have b3:=.b0 w1 w2 w3;rw[43,L,V,b3.kp F km];exact g V b3 ⟨⟨y,.l2,r3,.f6,.aZ hv⟩,.jC⟩
 |cons fr rest=>
  cases fr with
  |block b i ls ws d=>
   obtain⟨S,a,G,ro,pl,u,rws,ps,rfl,h1,h2,h3,h4,h5,h6⟩:=n;obtain⟨o1,o2,o3,o4⟩:=aw _ .aS;rw[90];have g2:=.X h2;rw[196];rw[6,⟨.j,.jM⟩,⟨.bO,p,.Ey T,yw,_,Y,aR ?_⟩,⟨.dF,p,.jD,.bO,p,.sI T,pK,.pV ?_⟩];generalize eH1:upd H t1 _=H1;obtain⟨U,k1⟩:=bH eH1 A;have hlen:=b_ h3;rw[dy]at hlen;refine⟨ro,t1,.o,U _ _ g2,k1,?_,λX p2 D hp2=> ?_⟩
   ·rw[br,<-hlen];have: .eT<=i:=o2;rw[36,.eT]
   have s2:=U.trans D;rw[0,⟨.cR,s2 _ _ g1,p,.gD,?_⟩,⟨.i2,.cK,s2 _ _ g1,.wx⟩];rw[185,s2,s];rw[82,⟨.cU,C _ _ F,N,.fQ⟩,kG,λq w4 r4=> ?_];have b4:=.wy r C w4;rw[197,L,q,b4.kp F km,V b= .l-> .sQ o->aD L q b= .l,w4 _ _ h (ky h k (C _ _ F)),k];exact g q b4 ⟨⟨y,.a4,.cT,r4,⟨S,x,e,p2,pl,u,.h,up R qI,up (s _ _ hp2) Y,B7 (.aZ h3) (.aZ hv),up (C _ _ g4) Y,.lp h5 h6⟩,by show lU _ _ _ .fW _ _ _;rw[B];exact⟨.f6⟩⟩,.jC⟩
  |fold f left l d hand=>
   obtain⟨a,G,co,he,u,fv,us,rfl,h1,h2,h3,h4,h5,h6⟩:=n;rw[90];rw[196];rw[6,⟨.j,.jM⟩,⟨.bO,.nc T "folds",yP,_,Y,.jM⟩,⟨.bO,.nc T "hand",yQ,.aJ⟩]
   have fin:∀(fZ:Hand) (V:Hp) (x e t3:Addr) (us3: .N),.Ei v (.cM .zL)={m with frames:=.cM (.p9 fZ)}-> .aB V->V x= .bX T.fr.ff.c e (ez fv co (.int l) .jJ (.int (Fq fZ)) (.ref t3) u)->V t3= .aE us3->rS T.vc .ba .az fZ us3->
     .ea (.eL V r .sp y (cw bl .a4 .ww dn .aX .aX .au mk)):=λfZ V x e t3 us3 eg C R ht3 hh=>by
    rw[108,eg,bc λq w4 r4=> ?_]
    have b4:=.wy r C w4
    rw[197,L,q,b4.kp F km,V b= .l-> .sQ o->aD L q b= .l,w4 _ _ h (ky h k (C _ _ F)),k]
    exact g q b4 ⟨⟨y,.a4,.cT,r4,⟨x,e,co,t3,u,fv,us3,Y,up R wK,.lp h2 h3,up ht3 Y,.lp hh h6⟩,by show lU _ _ _ .fW _ _ _;rw[B];exact⟨.f6⟩⟩,.jC⟩
   cases hand with
   |element x0=>obtain⟨u0,rfl,hu0⟩:=kE h5;rw[198,aR ?_,⟨.dF,t,.lq T,.dF,.wg T,rN,he,_,.o,aM.of g4,bG (j:=0) Y,aY,λt1 A=> ?_⟩,cJ A .sU,⟨.i2,_,.cK,U _ _ g1,.wx⟩,U,s];rw[15,⟨.cU,C _ _ F,N,.fQ⟩,kG,fin (.both v x0) V x e t1 _ Y C R (s _ _ k1) (.pS hv hu0)]
   |result x0=>rw[198,.jM,⟨.dF,t,.lq T,.pV ?_⟩,cJ A .sU,⟨.i2,_,.cK,U _ _ g1,.wx⟩,U,s];rw[15,⟨.cU,C _ _ F,N,.fQ⟩,kG,fin (.result v) V x e t1 _ Y C R (s _ _ k1) (.dE hv)]
   |both x0 y0=>rw[198,.jM,⟨.dF,t,.lq T,.pV ?_⟩,cJ A .sU,⟨.i2,_,.cK,U _ _ g1,.wx⟩,U,s];rw[15,⟨.cU,C _ _ F,N,.fQ⟩,kG,fin (.result v) V x e t1 _ Y C R (s _ _ k1) (.dE hv)]
   |nothing=>rw[198,.jM,⟨.dF,t,.lq T,.pV ?_⟩,cJ A .sU,⟨.i2,_,.cK,U _ _ g1,.wx⟩,U,s];rw[15,⟨.cU,C _ _ F,N,.fQ⟩,kG,fin (.result v) V x e t1 _ Y C R (s _ _ k1) (.dE hv)]
end
end FC
namespace HT
open PySem PySem.Spec PyProof.Rows L2
section
variable{prog:Program}{w:World}{A:Around}{E: .E}{s:Shared}
theorem N7{t i:Addr}{items: .bf}{j N:Value}{lo hi: .aI}{Q: .E}(V: .Bn t)(L: .Bm s i j N)(pl: .Bl j)(y: .Bk N)
  (U: .g8=0/\ .iM= .bm)(h: .bV t s): .cz (.Gf .bc):=by
 rw[298,L]
 have z:s.TypeIs .fH "slice":=⟨os,d,G⟩
 unfold getItem
 try with_reducible refine ju ?_
 first|refine ak (aZ ?_)|skip
 rw[67,wpAny_sequenceKey .m2 (by decide) ?_,.tQ "__getitem__" .m2 sx (vb sx .m2 entry_tuple_getitem ?_ (args_tuple_getitem _ _))]
 show .fo (Builtin.Tuple.tupleItemsOf .bc>>=_) s
 rw[67,tupleItemsOf_ V ?_,Cf z ?_]
 rw[218,.Ge,Jl L pl y ?_]
 have a: .c ((.h9 .bm 0 lo)==0&& .tP&&(.iM- .g8)== .bm):=by
  rw[U.1,U.2]
  simp
 rw[61,.fo (.kZ ((.h9 .bm 0 lo)==0&& .tP&&(.iM- .g8)== .bm) _) s,af a]
 have ex:∀{Q: .cq Bool},Q true s-> .bx prog w A.in1 (Builtin.Tuple.tupleIsExact .bc) Q E s:=λ{Q} q=>by
  unfold Builtin.Tuple.tupleIsExact
  exact ak (Cf .m2 (aZ q))
 rw[138,ex ?_,.M]
 first
  |exact ak (yj (aZ ⟨_,rfl,aZ h⟩))
  |exact ak (yj (ak (aZ (aZ ⟨_,rfl,aZ h⟩))))
end
end HT
namespace L2
open PySem PySem.Spec PyProof.Rows
section
variable{X:Cx}
def U_(K:ag):V-> .aI-> .qR:=.Gd (x= .B/\H a= .gY/\∀H' p,(.t2 b (.dg= .l))->H' p= .aE (fU xs lo hi)-> .eW p)
theorem BE:sH X (U_ X.K):=by
 intro pins s σ H x v j N lo hi i Q I M L pl y h;obtain⟨a,xs,rfl,W,q⟩:=h;by_cases U: .oh=0/\ .na .r .r= .r
 ·rw[297,.Fy W];rw[168,.eY= .r,by rw[cj];exact r.length.symm,⟨"tuple",_,sx.lookup,.m2,?_⟩,HT.N7 V L pl y (by rw[d];exact U) ⟨.B,H,I,Y,q H a .Gc ?_⟩];rw[W];unfold fU;rw[U.1,U.2,r_,qf,iD]
 ·rw[15,VI pins s σ H _ v j N lo hi i Q I M L pl y ⟨a,xs,Y,aM.of W,U,λp hp=>q _ p .Gb aB⟩,.jm S hp,S]
end
end L2
namespace FC
open PySem PySem.Spec PyProof.Rows L2
variable{P:Program}{w:World}{K:ag}{mg: .d}{base:Heap}
section
open Vaunih (Instr Op Hand Over Machine)
def lX(ls: .Q): .bk .cd .Q
 | .get j,[]=>j< .cf
 | .bind,[_]=>True
 | .free k,[]=>k<= .cf
 | .skip _,[]=>True
 | .unless _,[.truth _]=>True
 | .part _,[l]=>.jK
 | .call _,[.func _ _,_]=>True
 | .fold _,[_,_,l]=>.jK
 | .ret,[_]=>True
 |_,_=>.bU
structure Cw where
 r:Addr
 ro:Addr
 t:Addr
 fv:L2.V
 iv:L2.V
 bl:L2.V
 dn:L2.V
 ms:L2.V
 c:aX
 m:Machine
 b:Nat
 i:Nat
 d:Nat
 ls: .Q
 below: .aW
 x: .cd
 tk: .Q
 ws: .Q
 rs: .N
 us: .N
structure KO(T: .b)(L: .g)(D:Cw)(H:Hp)(Q:VK)(E:XK):Prop where
 run:gH T L H D.r D.c D.m D.bl D.dn D.ms
 over:D.m.over=none
 fr:dv T .ba .zN (.block D.b D.i D.ls (.Ex++D.ws) D.d::D.below) D.fv
 ok:pR (.block D.b D.i D.ls (.Ex++D.ws) D.d::D.below)
 i3:D.i<300
 ins:de T .ba D.x D.iv
 row:H D.ro= .aE D.rs
 rows: .pO .zN D.ws.reverse D.rs
 tk:H D.t= .aE D.us
 Y7: .pO .zN D.tk D.us
 args:lX D.ls D.x D.tk
 res:Res T L H D.r D.c D.bl D.dn D.ms (.sL D.c D.m D.below D.b D.i D.ls (.Ex++D.ws) D.d D.x) Q E
def kK(T: .b)(L: .g)(ok: .ap .cd):Sp:=λvs H Q E=>∃D:Cw,vs=[.ref D.r,D.fv,.ref D.ro,D.iv,.ref D.t]/\ok D.x/\KO T L D H Q E
theorem mM{T: .b}{L: .g}{H:Hp}{r y:Addr}{c:aX}{m:Machine}{bl dn mk s u:L2.V}{b i d:Nat}{ls ws: .Q}{below: .aW}{row places: .N}{Q:VK}{E:XK}
  (F:H r= .pU y (cw bl s .ww dn .aX .aX .au mk))(I: .nB)(B: .fW=none)(S:b< .az)(h: .nz T .P u)
  (f: .pO .az .nv row)(l: .pO .az ls .ct)(g:Res T L H r c bl dn mk (.sb (.pL i:: .P)) Q E):
  lP T.ru H r bl .ww dn .aX .aX .au mk .fV .jL .jJ u row .ct Q:=by
 intro H' x G t ro pl e a W o hp
 rw[43,L,H',e.kp F km]
 exact g H' e ⟨⟨t,.a4,.cT,a,⟨S,x,G,ro,pl,u,row,.ct,Y,c0 W qI,c0 o Y,.aZ f,c0 hp Y,.lp l h⟩,.zS ⟨.f6⟩⟩,.jC⟩
theorem Ah{ls: .Q}{x:Instr}{tk: .Q}(h:lX ls x tk)(W:(∃j,x= .pG)∨(∃j,x= .wj)∨∃j,x= .skip j):tk=[]:=by
 cases tk with
 |nil=>rfl
 |cons a tk=>rcases W with⟨j,rfl⟩|⟨j,rfl⟩|⟨j,rfl⟩<;>rw[40]
theorem ER{ls: .Q}{x:Instr}{tk: .Q}(h:lX ls x tk)(W:x= .bind∨x= .ret):∃v,tk=[v]:=by
 rcases tk with _|⟨a,_|⟨b,tk⟩⟩
 ·rcases W with rfl|rfl<;>rw[40]
 ·exact⟨a,Y⟩
 ·rcases W with rfl|rfl<;>rw[40]
theorem Nf{ls: .Q}{k:Nat}{tk: .Q}(h:lX ls (.unless k) tk):∃q,tk=[.truth q]:=by
 rcases tk with _|⟨a,_|⟨b,tk⟩⟩
 ·rw[40]
 ·cases a<;>first|exact⟨_,Y⟩|exact False.elim h
 ·cases a<;>rw[40]
theorem Nd{ls: .Q}{k:Nat}{tk: .Q}(h:lX ls (.part k) tk):∃l,tk=[l]/\ .jK:=by
 rcases tk with _|⟨a,_|⟨b,tk⟩⟩
 ·rw[40]
 ·exact⟨a,Y,h⟩
 ·rw[40]
theorem Nb{ls: .Q}{k:Nat}{tk: .Q}(h:lX ls (.call k) tk):∃b kept a,tk=[.lz b,a]:=by
 rcases tk with _|⟨a,_|⟨b,_|⟨c,tk⟩⟩⟩
 ·rw[40]
 ·cases a<;>rw[40]
 ·cases a<;>first|exact⟨_,_,_,Y⟩|exact False.elim h
 ·cases a<;>rw[40]
theorem Nc{ls: .Q}{k:Nat}{tk: .Q}(h:lX ls (.fold k) tk):∃f z l,tk=[f,z,l]/\ .jK:=by
 rcases tk with _|⟨a,_|⟨b,_|⟨c,_|⟨d,tk⟩⟩⟩⟩
 ·rw[40]
 ·rw[40]
 ·rw[40]
 ·exact⟨.cS,h⟩
 ·rw[40]
theorem Tf(T: .b)(L: .g):ah P w K mg base .x 4 T.oq.f T.oq.fd ["run","frame","row","instruction","taken"] (kK T L (.sT (x= .skip k))):=by
 rw[72,A3 T.ru];obtain⟨⟨r,ro,t,fv,iv,bl,dn,mk,c,m,b,i,d,ls,below,x,tk,X,rs,us⟩,rfl,⟨k,D⟩,⟨⟨⟨y,s,oc,p,l,F,f,z⟩,I⟩,B,n,aw,hi,⟨R,iv,A,val,U,q,_⟩,o,e,V,C,N,g⟩⟩:=h;rw[265,B];cases Ah N (.inr (.inr ⟨_,Y⟩))
 ·rw[2,⟨r,a,ro,iv,t,bl,s,_,dn,.cT,mk,.fV,i,.ref W,pl,.jJ,u,_,val,k,ps,rs,us,Y,⟨⟨y,F⟩,⟨G,.X h1⟩,.eQ,o,⟨A,.X q⟩,V⟩,?_⟩,mM F I B S j e h5 g]
theorem S9(T: .b)(L: .g):ah P w K mg base .x 4 T.oa.f T.oa.fd ["run","frame","row","instruction","taken"] (kK T L λx=>x= .bind):=by
 rw[72,RB T.ru];obtain⟨⟨r,ro,t,fv,iv,bl,dn,mk,c,m,b,i,d,ls,below,x,tk,X,rs,us⟩,rfl,D,⟨⟨⟨y,s,oc,p,rs0,F,f,z⟩,I⟩,B,n,aw,hi,⟨R,iv,A,val,U,q,_⟩,o,e,V,C,N,g⟩⟩:=h;dsimp only at D F f z I B n aw hi U q o e V C N g;rw[265,B];obtain⟨⟨o1,o2,k,o4⟩,o5⟩:=aw;have l:=b_ h5;obtain⟨v,rfl⟩:=ER N .ao
 ·have hul:=b_ C;exact⟨r,a,ro,iv,t,bl,s,_,dn,.cT,mk,.fV,i,.ref W,pl,.jJ,u,.pm,ps,rs,us,Y,⟨⟨y,F⟩,⟨G,.X h1⟩,.eQ,o,⟨A,.X q⟩,V⟩,by rw[br,<-l,<-hul];show .aG ls<=_;omega,mM F I B S j e (ie h5 C) g⟩
theorem Tc(T: .b)(L: .g):ah P w K mg base .x 4 T.oj.f T.oj.fd ["run","frame","row","instruction","taken"] (kK T L λx=>∃j,x= .pG):=by
 rw[72,RR T.ru];obtain⟨⟨r,ro,t,fv,iv,bl,dn,mk,c,m,b,i,d,ls,below,x,tk,X,rs,us⟩,rfl,⟨j,hx0⟩,⟨⟨⟨dr,s,oc,p,l,F,f,z⟩,I⟩,B,n,aw,hi,⟨iok,iv,A,val,eiv,q,_⟩,o,e,V,C,N,g⟩⟩:=h;dsimp only at hx0 F f z I B n aw hi eiv q o e V C N g;subst eiv;subst hx0;rw[264,B];obtain⟨S,a,G,ro0,pl,u,M,ps,rfl,h1,h2,h3,h4,h5,h6⟩:=n;obtain⟨⟨o1,o2,k,o4⟩,o5⟩:=aw;rw[129,b_ e,dy];cases Ah N (.inl ⟨_,Y⟩)
 ·have D:=N;obtain⟨y,hy,hyv⟩:=.lu h5 D;have U: .K X i:=o2;refine⟨r,a,ro,iv,t,bl,s,_,dn,.cT,mk,.fV,i,.ref ro0,pl,.jJ,u,_,val,j,ps,rs,us,y,Y,⟨⟨dr,F⟩,⟨G,.X h1⟩,.eQ,o,⟨A,.X q⟩,V⟩,hy,by rw[br,<-R];omega,λH' x dx' dr' ro' b8 r8 W hro'=> ?_⟩;have eg: .sL c m .P b i ls X d .pG= .sb (.mO .z (ls[j]::X):: .P):=.i8 (.Ew _) _ (bS D)
  rw[De,jC,eg]at g;exact mM F I B S h6 (B7 e hyv) h5 g H' x dx' dr' ro' pl b8 r8 W hro' (b8 _ _ .eQ (ky .eQ Y F))
theorem Tg(T: .b)(L: .g): .pR P w K T.ou.f T.ou.fd (kK T L (.sT (x= .unless k))):=by
 rw[72,S0 T.xK];obtain⟨⟨r,ro,t,fv,iv,bl,dn,mk,c,m,b,i,d,ls,below,x,tk,X,rs,us⟩,rfl,⟨k,D⟩,⟨⟨⟨y,s,oc,p,rs0,F,f,z⟩,I⟩,B,n,aw,hi,⟨R,iv,A,val,U,hiv,_⟩,o,hrs,V,C,N,g⟩⟩:=h;rw[265,B];obtain⟨q,rfl⟩:=Nf N
 ·obtain⟨u1,rfl,l,tdx,rfl,v⟩:=kE C;refine⟨r,a,ro,iv,t,bl,s,_,dn,.cT,mk,.fV,i,.ref W,pl,.jJ,u,_,val,k,ps,rs,l,tdx,q,Y,⟨⟨y,F⟩,⟨G,.X h1⟩,.eQ,o,⟨A,.X hiv⟩,V⟩,.X v,?_⟩;rw[128,.aq q (.er+1) (.er+1+ .bq),.m (.aq q .z (.z+k)),by split<;>omega,e,mM F I B S j hrs h5 g]
theorem Td(T: .b)(L: .g): .pR P w K T.om.f T.om.fd (kK T L (.sT (x= .part k))):=by
 rw[72,Sr T.xK];obtain⟨⟨r,ro,t,fv,iv,bl,dn,mk,c,m,b,i,d,ls,below,x,tk,X,rs,us⟩,rfl,⟨k,D⟩,⟨⟨⟨dr,s,oc,p,rs0,F,htp,hov⟩,I⟩,B,n,aw,hi,⟨iok,iv,A,val,U,q,_⟩,hro,e,V,C,N,g⟩⟩:=h;subst U;subst D;rw[155,B];obtain⟨S,a,G,W,pl,u,M,ps,rfl,h1,h2,h3,h4,h5,j⟩:=n;obtain⟨⟨v,o2,o3,o4⟩,o5⟩:=aw;have hpl:=b_ h5;have hsz: .aV+2<= .W:=by rw[br,<-hpl];omega
 obtain⟨l0,rfl,hl0⟩:=Nd N
 cases l0 with
 |num _ _=>cases hl0
 |truth _=>cases hl0
 |pair _ _=>cases hl0
 |func _ _=>cases hl0
 |nil=>obtain⟨u1,rfl,ca,cdx,rfl,hca⟩:=kE C;rw[2,⟨r,a,ro,iv,t,bl,s,_,dn,_,_,_,mk,.fV,i,.ref W,pl,.jJ,u,_,val,k,ps,rs,ca,cdx,0,_,_,Y,⟨⟨dr,F⟩,⟨G,.X h1⟩,.eQ,hro,⟨A,.X q⟩,V⟩,.X hca,hsz,λ_=> ?_,.pT rfl z⟩,mM F I B S j e h5 g]
 |cons y l=>obtain⟨u1,rfl,R,ca,cdx,f,o,rfl,hca,hf,ho⟩:=kE C;rw[2,⟨r,a,ro,iv,t,bl,s,_,dn,.cT,mk,.fV,i,.ref W,pl,.jJ,u,_,val,k,ps,rs,ca,cdx,.cS,⟨⟨dr,F⟩,⟨G,.X h1⟩,.eQ,hro,⟨A,.X q⟩,V⟩,.X hca,hsz,λz=>by omega,λ_=> ?_⟩,mM F I B S j e (ie h5 (.pS hf ho)) g]
theorem Kd{C:VC}{F:Hp}{n:Nat}{xs: .Q}{ys: .N}(h: .l6 xs ys)(k:Nat): .l6 (xs.take k) (ys.take k):=by
 induction h generalizing k with
 |nil=>rw[13,List.take_nil,List.take_nil,.nil]
 |cons h t j=>cases k with
  |zero=>rw[71]
  |succ k=>rw[62,h,j k]
theorem Tb(T: .b)(L: .g):ah P w K mg base .x 4 T.md.f T.md.fd ["run","frame","row","instruction","taken"] (kK T L (.sT (x= .free k))):=by
 refine T.md.F.az ["run","frame","row","instruction","taken"] .f;obtain⟨⟨r,ro,t,fv,iv,bl,dn,mk,c,m,b,i,d,ls,below,x,tk,X,rs,us⟩,rfl,⟨k,D⟩,⟨⟨⟨y,tp,oc,rf,rs0,h0,f,z⟩,I⟩,B,n,aw,hi,⟨iok,iv,A,val,eiv,q,_⟩,o,hrs,V,hus,N,g⟩⟩:=h;dsimp only at D h0 f z I B n aw hi eiv q o hrs V hus N g;subst eiv;subst D;rw[264,B];obtain⟨S,a,G,ro0,pl,u,rws,ps,rfl,h1,h2,h3,h4,h5,j⟩:=n;have l:=b_ h5;cases Ah N (.inr (.inl ⟨_,Y⟩))
 ·have hk:k<= .cf:=N;rw[194,.eQ];have gi:=.X q;have p:=.f3;rw[6,⟨_,.hT (aJ T.fr.moved (kz T.fr) M W (cu .e (cu .ny (cu .p (ao (o_ BE .T rb (mY (aL fN (jT z8 Y .Ev DO (ao .T)) .ep)))))))),?_⟩,⟨.dF,p,.jD,.o,.dF,p,.gD,.bO,p,.gD,pl,.pJ U,iv,.eV,gi,.dG,.pQ,.fK,pl,_,Y,U,λH1 p1 F hp1=> ?_⟩,⟨.i2,.cK,F _ _ g1,λH3 x dx3 s R=> ?_⟩];have C:=ae.trans F s;refine⟨.cU,C _ _ h0,.np,.fQ⟩;have eg: .sL c m .P b i ls X d (.free k)= .sb (.pp .z (ls.take (.cf-k)) X d:: .P):=.i8 (.jI (.cf<k) _) _ .gJ
  rw[De,jC,eg]at g
  have v:fU ps none (some ((.aV:Int)-f6 (.free k)))=ps.take (.cf-k):=by
   rw[195,(.aV:Int)-f6 (.free k)=(.gE .cf k),.Eu ((.aV:Int)- .bq) _,e];rw[HT.uU,HT.ph,r_,qf,.sH]
  rw[v]at hp1;exact(mM h0 I B S j hrs (Kd h5 (.cf-k)) g).end_ C h0 R (C _ _ o) (s _ _ hp1)
end
section
open Vaunih (Instr Op Hand Over Machine)
theorem gH.same{T: .b}{L: .g}{H H':Hp}{r:Addr}{c:aX}{m:Machine}{bl dn mk:L2.V}(h: .jG T L H r c m)(s: .R): .jG T L H' r c m:=by obtain⟨⟨y,a,oc,p,rs,F,h1,h2⟩,h3⟩:=h;exact⟨⟨y,a,oc,p,rs,s _ _ F,.wv h1,.wv h2⟩,.wv h3⟩
theorem Res.same{T: .b}{L: .g}{H H':Hp}{r:Addr}{c:aX}{bl dn mk:L2.V}{x: .Et}{Q:VK}{E:XK}(h:Res T L H r c bl dn mk x Q E)(s: .R):Res T L H' r c bl dn mk x Q E:=by
 cases x with
 |ok m=>exactλX b k=>h X (λa o e n=>b a o (s _ _ e) n) k
 |error k=>exactλcls G X B k=>h cls G X (.gG s) k
theorem S_(T: .b)(L: .g): .pR P w K T.og.f T.og.fd (kK T L (.sT (x= .call k))):=by refine T.og.F.az ["run","frame","row","instruction","taken","waiting"] .f;obtain⟨⟨r,ro,t,fv,iv,bl,dn,mk,c,m,b,i,d,ls,below,x,tk,X,rs,us⟩,rfl,⟨k,hx0⟩,⟨⟨⟨y,tp,oc,rf,l,F,f,z⟩,I⟩,B,n,aw,hi,⟨iok,iv,A,val,eiv,q,_⟩,o,e,V,C,N,g⟩⟩:=h;subst eiv;subst hx0;have run: .jG T L H r c m:=⟨⟨y,tp,oc,rf,l,F,f,z⟩,I⟩;obtain⟨S,a,G,ro0,pl,u,rws,ps,rfl,h1,h2,h3,h4,h5,j⟩:=n;rw[194,.eQ];have gi:=.X q;have p:=.f3;have v:=.dG;obtain⟨fb,kept,av,rfl⟩:=Nb N;obtain⟨fv,vv,rfl,hf,D⟩:=mT C;rw[6,⟨_,.aC 5 nd (aJ T.fr.moved (kz T.fr) M.m W (kD .e .ny .p .T)) (.bB (aJ T.n_ (AY T L) M W (oZ .F .jH .jH .ep (pv 5)))),?_⟩,⟨.dF,p,.jD,.o,.dF,p,.gD,.i2,.cK,g1,λH3 wt dx3 s R=> ?_⟩,⟨.j,t,_,.mU (s _ _ V),bG Y,.sR (s _ _ V),bG Y,_,Y,iv,.eV,s _ _ gi,v,.pQ,.ac⟩];rw[109,L,H3,s.kp,⟨r,fv,vv,.ref wt,bl,dn,mk,k,c,m,.lz fb,av,.mO .z X,.P,Y,.zC s,⟨S,wt,dx3,ro,pl,u,rs,ps,Y,c0 R qI,c0 (s _ _ o) Y,.aZ e,c0 (s _ _ U) Y,.lp h5 j⟩,.lp hf D,.df g⟩]
theorem Te(T: .b)(L: .g): .pR P w K T.oo.f T.oo.fd (kK T L λx=>x= .ret):=by refine T.oo.F.az ["run","frame","row","instruction","taken"] .f;obtain⟨⟨r,ro,t,fv,iv,bl,dn,mk,c,m,b,i,d,ls,below,x,tk,X,rs,us⟩,rfl,hx0,⟨⟨⟨y,s,oc,rf,l,F,f,z⟩,I⟩,B,n,aw,hi,⟨R,iv,A,val,U,q,_⟩,o,e,V,C,N,g⟩⟩:=h;subst hx0;have run: .jG T L H r c m:=⟨⟨y,s,oc,rf,l,F,f,z⟩,I⟩;obtain⟨S,a,G,ro0,pl,u,rws,ps,rfl,h1,h2,h3,h4,h5,j⟩:=n;obtain⟨⟨o1,o2,k,o4⟩,o5⟩:=aw;rw[90];have p:=.f3;obtain⟨v,rfl⟩:=ER N (.inr Y);obtain⟨vv,rfl,D⟩:=kE C;rw[2,⟨_,.bB (.nt T.qA (Ht T L) M W .T .jH),?_⟩,⟨.dF,p,T.fr.bf.n "below",yt,.sR V,bG Y,r,vv,u,bl,dn,mk,c,m,v,.P,Y,run,B,j,o5,D,g⟩]
theorem Ta(T: .b)(L: .g): .pR P w K T.oh.f T.oh.fd (kK T L (.sT (x= .fold k))):=by
 refine T.oh.F.az ["run","frame","row","instruction","taken","waiting","held"] .f;obtain⟨⟨r,ro,t,fv,iv,bl,dn,mk,c,m,b,i,d,ls,below,x,tk,X,rs,us⟩,rfl,⟨k,D⟩,⟨⟨⟨y,tp,oc,rf,rs0,F,htp,hov⟩,I⟩,B,n,aw,hi,⟨iok,iv,A,val,eiv,hiv,_⟩,hro,e,V,C,N,g⟩⟩:=h;subst eiv;subst D;rw[155,B];obtain⟨S,a,G,ro0,pl,u,rws,ps,rfl,h1,h2,h3,h4,h5,j⟩:=n;rw[90];rw[196];have gi:=.X hiv;have bcl:=.f3;have icl:=.dG;obtain⟨f,z,l,rfl,R⟩:=Nc N
 obtain⟨fv,zv,lv,rfl,hf,hz,hlv⟩:∃u1 u2 u3,us=[u1,u2,u3]/\ .sS f u1/\ .sS z u2/\ .sS l u3:=by
  cases C with
  |cons q1 C=>cases C with
   |cons q2 C=>cases C with
    |cons q3 C=>cases C;exact⟨.cS,q1,q2,q3⟩
 rw[20,⟨_,.aC 5 nd (aJ T.fr.moved (kz T.fr) M.m W (kD .e .ny .p .T)) (.aC 6 nd (.wh .jH) (.hT (cS T.fr.ff (Hc T.fr.ff) M.m W (HM .jH .jH .ep .T (T.bE "RESULT" 0) (pv 6) (pv 5))))),?_⟩,⟨.dF,bcl,.jD,.o,.dF,bcl,.gD,.i2,.cK,g1,λH3 wt dx3 s hx3=> ?_⟩,⟨.sR (s _ _ V),bG Y,aY,λt4 ht4=> ?_⟩,cJ ht4 λq s4 k4=> ?_];have v:=.wk s4;refine⟨.sR (v _ _ V),bG Y,.sR (v _ _ V),bG Y,_,Y,iv,.eV,v _ _ gi,icl,.pQ,.cR,v _ _ g1,bcl,.Es T,vg,.j,λx dx5 nx nd ne=>⟨x,dx5,_,_,.cK,.nA⟩⟩;generalize U:upd (upd (upd q dx5 _) x _) x _=H5;obtain⟨e5,hx5⟩:=mK U nx nd;rw[193,v,e5];rw[63,⟨.cU,p _ _ F,.np,.fQ⟩,.Er];have b6:=.Ep p w6;rw[197,L,H6,b6.kp F km,H5 b= .l-> .sQ o->aD L H6 b= .l,w6 _ _ h (ky h k (p _ _ F)),k];have eg: .sL c m .P b i ls (.wu [f,z,l] X) d (.fold k)= .sb (.fold f l.list k d .zK:: .mO .z X:: .P):=.wt (.Eo l _) _ (af R)
 rw[108,eg,g H6 b6 ⟨⟨y,.a4,.cT,r6,⟨x,dx5,lv,t4,.ref wt,fv,_,Y,up hx5 wK,.aZ hf,?_,up (e5 _ _ k4) Y,.dE (.aZ hz),S,wt,dx3,ro,pl,u,rs,ps,Y,up (e5 _ _ (s4 _ _ hx3)) qI,up (p _ _ hro) Y,.aZ e,up (p _ _ g4) Y,.lp h5 j⟩,.zS ⟨.f6⟩⟩,.jC⟩];rw[32,hlv.ofList R,hlv.same kp]
end
section
open Vaunih (Instr Op Hand Over Machine)
theorem OU{x:Instr}(h: .de="get"):∃j,x= .pG:=by
 cases x with
 |get j=>exact⟨j,Y⟩
 |truth b=>cases b<;>rw[50,h]
 |op o=>cases o<;>rw[50,h]
 |_=>rw[263,h]
theorem OT{x:Instr}(h: .de="free"):∃j,x= .wj:=by
 cases x with
 |free j=>exact⟨j,Y⟩
 |truth b=>cases b<;>rw[50,h]
 |op o=>cases o<;>rw[50,h]
 |_=>rw[263,h]
theorem OS{x:Instr}(h: .de="fn"):∃j,x= .fn j:=by
 cases x with
 |fn j=>exact⟨j,Y⟩
 |truth b=>cases b<;>rw[50,h]
 |op o=>cases o<;>rw[50,h]
 |_=>rw[263,h]
theorem Cb{x:Instr}{k:Str}(h: .de≠k):¬(.c (.fR .de k)):=λz=>h (by have:=bQ z;injection this)
def fM(c:aX)(ls: .Q): .c1 .cd
 | .get j=>.ws ls j
 | .free k=>.f5 .cf k
 | .fn k=>.ws c k
 |_=>.a
def vQ(T: .b)(L: .g)(H:Hp)(c:aX)(b i:Nat)(ls: .Q)(Q:VK)(E:XK):Prop:=match (c[b]?).bind λx=>x.code[i]? with
 |none=>eM T.R 7 H E
 |some x=>.aq (fM c ls x) (eM T.R 7 H E) (∀iv,.pe .ba iv->Q iv H)
def WA(T: .b)(L: .g):Sp:=λvs H Q E=>∃(r:Addr) (fv bl dn mk:L2.V) (c:aX) (m:Machine) (b i d:Nat) (ls ws: .Q) (below: .aW),vs=[.i4,fv]/\ .jG T L H r c m/\ .nz T (.pL i:: .P) fv/\vQ T L H c b i ls Q E
theorem Sm(T: .b)(L: .g): .gI T.tT.f T.tT.fd ["run","frame"] (WA T L):=by
 refine T.tT.F.az ["run","frame","instructions","instruction","word"] .f;obtain⟨r,fv,bl,dn,mk,c,m,b,i,d,ls,ws,below,rfl,⟨⟨y,tp,oc,rf,rs,F,htp,z⟩,I⟩,n,g⟩:=h;obtain⟨S,a,G,ro,pl,u,rws,ps,rfl,h1,h2,h3,h4,h5,h6⟩:=n;obtain⟨l,bs,rfl,R,hbs,hc1,hc2⟩:=I;obtain⟨bv,hbv,ba,dba,bli,bxs,rfl,V,hbli,o,_,hself,hcl⟩:=.lu hbs S;rw[194,.eQ];have gl:=.X R;have gba:=.X V;have gbi:=.X hbli;rw[51];have p:=.f3;have v:=.dG;have hpl:=b_ h5;have hbl:=b_ hbs;have hxl:=b_ o;have glen:∀{X:Cx},gU X (.builtin "len") _:=λ{X}=>z8 (X:=X);rw[6,⟨.dZ (J (.nk .T)) (.eo (.cP (aU oY .T (T.cA .p)) (iq W Y T.dI.fe .wo M Y T.dI.g .wn fL)) 3 nd (bz c7 .p .T) (.aC 4 nd .ep (Z (.cP (.zR .aF oY .ep (T.cA .T)) (iq W Y T.dI.fe .wo M Y T.dI.g .wn fL)) (.hU (.cP (.zR .aF ic .ep (T.cA .T)) (iq W Y T.dI.fe .wo M Y T.dI.g .wn fL)) (.cP (.zR .aF oY .ep .i7) (iq W Y T.dI.fe .wo M Y T.dI.g .wn fL)) .a3))))⟩,⟨.fU,F,.zI T,v7,.bO,p,T.fr.bf.n "block",yu,l,.eK gl hbv,ba,_,dba,.h,gba,.sP,.zQ T,vh,?_⟩,⟨.bO,p,.jD,_,Y,bli,.dB gbi,.fK,.pN ?_⟩]
 ·have c1':(c[b]:cM).code.length<=i:=.wr t
  rw[10,.sO (c[b]?) (.a1 .ly),none,by rw[bS S];exact pW c1']
  unfold vQ at g;rw[27,e,.wm g]
 have c1':i<(c[b]:cM).code.length:=.wq (.eR▸t)
 rw[10,.sO (c[b]?) (.a1 .ly),.i5 (c[b]:cM).code,by rw[bS S];exact bS c1']
 unfold vQ at g;rw[e]at g;obtain⟨iv,q,hia⟩:=.lu o c1';generalize (c[b]:cM).code[i]=x at g hia;replace g: .aq (fM c ls x) (eM T.R 7 H E) (∀iv,.pe .ba iv->Q iv H):=g;obtain⟨iok,ia,A,val,rfl,hx1,hval⟩:=id hia;have gx:=.X hx1;rw[6,⟨.dF,p,.jD,bli,.eK gbi q,?_⟩,⟨_,Y,ia,.eV,gx,v,.fP,a_,?_⟩,⟨.cs⟩];by_cases f: .de="get"
 ·rw[262,OU f,aR ⟨_,Y,ia,.eV,gx,v,.pQ,.bO,p,.gD,pl,.lv U,.pP ?_ ?_⟩]
  ·rw[127,.K ls j,(.m .aV)<= .fT,bQ C,.wl c .pG,bC B,.M,.wm g]
  ·rw[127,¬ .K ls j,¬(.m .aV)<= .fT,cq .sN,fM c ls .pG= .a,aW B,.n,⟨.U (aj ⟨.U (aj ⟨_,Y,g _ hia⟩)⟩)⟩]
 rw[105,aa (Cb f),aj ⟨.cs⟩];by_cases k: .de="free"
 ·rw[262,OT k,aR ⟨_,Y,ia,.eV,gx,v,.pQ,.bO,p,.gD,pl,.lv U,.pP ?_ ?_⟩]
  ·rw[127,.cf<j,(.m .aV)< .fT,bQ C,.wl c .wj,bC B,.M,.wm g]
  ·rw[127,¬ .cf<j,¬(.m .aV)< .fT,cq .sN,fM c ls .wj= .a,aW B,.n,⟨.U (aj ⟨_,Y,g _ hia⟩)⟩]
 rw[105,aa (Cb k),aj ⟨.cs⟩];by_cases D: .de="fn"
 ·rw[262,OS D,aR ⟨_,Y,ia,.eV,gx,v,.pQ,.fU,F,.zI T,v7,l,.dB gl,.pP ?_ ?_⟩]
  ·rw[127,.nx<=j,(.zP bs)<= .fT,bQ C,.wl c (.fn j),bC B,.M,.wm g]
  ·rw[127,¬ .nx<=j,¬(.zP bs)<= .fT,cq .sN,fM c ls (.fn j)= .a,aW B,.n,⟨_,Y,g _ hia⟩]
 rw[105,aa (Cb D),aj ⟨.ac⟩]
 have s:fM c ls x= .a:=by
  cases x with
  |get j=>rw[16,f]
  |free j=>rw[16,k]
  |fn j=>rw[16,D]
  |_=>rfl
 rw[s,.n]at g;exact g _ hia
end
section
open Vaunih (Instr Op Hand Over Machine)
def m9(v:aP)(k:Str):Bool:=decide (k="value")|| .a9 (kindS v) k
def kJ: .Q-> .c1 .H
 |v::vs,k::ks=>m9 v k&&kJ vs ks
 |_,_=>true
theorem BH:∀{vs: .Q} {ks: .H},.wp vs ks↔∀(i:Nat) (v:aP) (k:Str),.a1 vs= .aQ-> .a1 ks= .e0-> .c (m9 v k)
 |[],ks=>⟨λ_ i v k e=>by simp at e,.ec⟩
 |v::vs,[]=>⟨λ_ i v k _ e=>by simp at e,.ec⟩
 |v::vs,k::ks=>by
  rw[29,.c (m9 v k&&kJ vs ks)↔_,bU,BH (vs:=vs) (ks:=ks)]
  constructor
  ·intro ⟨h1,h2⟩ i p U F D
   cases i with
   |zero=>
    have a:v=p:=by simpa using F
    have b:k=U:=by simpa using D
    rw[<-a,<-b]
    exact h1
   |succ i=>exact h2 i p U (by simpa using F) (by simpa using D)
  ·intro h
   exact⟨h 0 v k Y rfl,λi p U F D=>h .z p U (by simpa using F) (by simpa using D)⟩
def Xb(T: .b)(L: .g)(n:Nat):Sp:=λvs H Q E=>∃(ro st:Addr) (rs: .N) (ws: .Q) (ks: .H),vs=[.lx,.ref st]/\H ro= .aE rs/\ .pO n ws rs/\aM K H st (.jF ks)/\rs.length<=3000/\ .fS<=100/\(.ah< .fS->eM T.R 7 H E)/\(.K ks .ah->kJ (.sJ (.ah- .fS)) ks= .a->eM T.R 6 H E)/\(.K ks .ah-> .wp (.sJ (.ah- .fS)) ks->∀H' p,.R->H' p= .aE (rs.drop (.ah- .fS))-> .eW p)
theorem aM.jo{H H':Hp}{a:Addr}{xs: .N}(h: .eq)(s: .R):aM K H' a xs:=by
 rcases h with(h|⟨o,h⟩)|h
 ·rw[14,.inl (s _ _ h)]
 ·rw[14,.inr ⟨o,s _ _ h⟩]
 ·rw[8,h]
theorem Kb{C:VC}{F:Hp}{n:Nat}{xs: .Q}{ys: .N}(h: .l6 xs ys)(k:Nat): .l6 (.eS k) (ys.drop k):=by
 induction h generalizing k with
 |nil=>rw[13,C3,C3,.nil]
 |cons h t j=>cases k with
  |zero=>rw[62,h,t]
  |succ k=>exact j k
theorem SW(T: .b)(L: .g)(n:Nat): .gI T.ua.f T.ua.fd ["row","sorts"] (Xb T L n):=by
 refine T.ua.F.az ["row","sorts","taken","value","kind"] .f;obtain⟨ro,st,rs,ws,ks,rfl,o,hws,R,hl1,hl2,r,q6,q⟩:=h;have d:=b_ hws;rw[0,⟨_,.eo (.cP (aU gO .zO (T.cA .e)) (iq W Y T.dI.fe .wo M Y T.dI.g .wn fL)) 2 nd (o_ BE .F (mY (aL fN .zO (T.cA .e))) rb) (.bC (ik ef Y (Um Y (T.gb "zip") (.lh 2 .e)) (Ia Y (xD (eo 3 nd) (xD (eo 4 nd) Ib))) (O (.cP (.vY (aU jj .aF bq) jj .ep .aF) (iq W Y T.hB.fe (Hj T.hB) M Y T.hB.g T.hB.F.b fL)))) .p),?_⟩,⟨_,Y,ro,.pJ o,st,.nr R,.fK,.pN ?_⟩]
 ·have A: .ah< .fS:=.En (bQ t)
  exact .wm (r A)
 have A: .K ks .ah:=.En (cq (.eR▸t))
 refine⟨.j,ro,.pJ o,st,.nr R,.fK,ro,_,Y,o,λm l F f=> ?_⟩
 have ecut:fU rs (some ((.cr rs)-(.cr (.jF ks)))) none=rs.drop (.ah- .fS):=by
  rw[195,(.cr rs)-(.cr (.jF ks))=(.gE .ah .fS),.Em,e];rw[80,HT.uU,HT.ph,.sH,Ll (.El kU)]
 replace f:m l= .aE (rs.drop (.ah- .fS)):=by rw[<-ecut];exact f
 replace F: .aB m:=F;have hst1:=aM.jo R F;have S:=Kb hws (.ah- .fS);generalize htkd:ws.drop (ws.length-ks.length)=tk at q6 q S;generalize htkr:rs.drop (ws.length-ks.length)=ts at q f S;have htl: .aA tk .fS:=by rw[<-htkd,kU];omega
 have hts: .aA ts .fS:=by rw[<-htl];exact(b_ S).symm
 rw[0,⟨.j,l,st,.h,aM.of f,hst1,?_⟩,Ak (n:=.fS) (.i6 (.f2 m) ((∃u v: .dH,σ=[.I ro,.I st,.gH,u,v])/\∀j,j<i->∀v k,tk[j]? = .aQ->ks[j]? = .e0-> .c (m9 v k))) ⟨ae.refl m,⟨none,none,Y⟩,λj hj=>by omega⟩ ?_ ?_ ?_ ?_]
 ·rintro i σ H' hi ⟨s',_,_⟩;exact⟨aM.of (.dU f),aM.jo hst1 s',by omega,by rw[bh];exact hi⟩
 ·rintro σ H' ⟨s',_,_⟩;exact⟨aM.of (.dU f),by omega⟩
 ·rintro i x σ H' X hi ⟨s',⟨u,v,rfl⟩,c⟩ ⟨Tp,y,k,rfl,I,rfl,g,hk⟩;have B:ae m (.pn H' Tp [y,k]):=s'.upd I;have hik: .a1 ks= .i5 ks:=bS hi;have hkk:k= .str (ks[i]):=by rw[gE,hik]at hk;exact .sM hk
  subst hkk;have hiv: .a1 tk=some (tk[i]' (by omega)):=.jE;obtain⟨y',hy',hyv⟩:=dP S hiv;rw[g]at hy';cases hy';have hyv2:=hyv.out.same (.gG F);obtain⟨ka,kC,kd,kfs,rfl,hk1,hk2,hk3,hk4⟩:=hyv2.kind;rw[0,⟨Tp,_,Y,aM.of aB,Y,.h,.pM⟩,⟨.cs⟩];by_cases kv:ks[i]="value"
  ·rw[261,! .fR (ks[i]) "value",.a,kv]
   rw[126,e,aj ⟨B,⟨.h⟩,λj hj p U F D=> ?_⟩];by_cases b:j=i
   ·subst b;rw[256,hik];unfold m9;rw[19,bC kv]
   ·exact c j (by omega) p U F D
  have e: .c (! .fR (ks[i]) "value"):=by
   rw[aW]
   ·rfl
   ·rw[110];exact kv z
  rw[70,e,⟨_,Y,ka,_,kd,.h,hk1,hk2,hk3,hk4,.cs⟩];by_cases a: .Ek tk i=ks[i]
  ·have D:(! .fR (.Ek tk i) (ks[i]))= .a:=by rw[a,bC rfl];rfl
   rw[126,D,⟨B,⟨.h⟩,λj hj p U F s=> ?_⟩];by_cases b:j=i
   ·subst b;rw[hik]at s;rw[hiv]at F;cases F;cases s;unfold m9;rw[bC a,rG]
   ·exact c j (by omega) p U F s
  ·have D: .c (! .fR (.Ek tk i) (ks[i])):=by
    rw[aW]
    ·rfl
    ·rw[110];exact a z
   rw[70,D,T.hB.raises ?_];have N:kJ tk ks= .a:=by rw[<-eU];intro z;have:=BH.mp z i _ _ hiv hik;unfold m9 at this;rw[aW kv,aW a]at this;cases this
   exactλcls G V C k3=>q6 A N cls G V (.b0 F B C) k3
 ·rintro σ H' ⟨s',⟨u,v,rfl⟩,c⟩;rw[7,⟨_,Y,q A ?_ H' l (F.trans s') (.dU f)⟩,BH];intro i p U F D;exact c i (.dD D) p U F D
end
section
open Vaunih (Instr Op Hand Over Machine instruct takes)
section
variable{c:aX}{m:Machine}{below: .aW}{b i d:Nat}{ls: .Q}
structure KP(c:aX)(m:Machine)(below: .aW)(b i d:Nat)(ls: .Q)(x:Instr):Prop where
 fM: .wl c x->∀ws,instruct c m .P b i ls ws d x= .error 7
 bZ:FC.fM c ls x= .a->∀ws,.ah< .ci->instruct c m .P b i ls ws d x= .error 7
 sort:FC.fM c ls x= .a->∀tk ws',.aA tk .ci->kJ tk (jW c x)= .a->instruct c m .P b i ls (.wu tk ws') d x= .error 6
 give:FC.fM c ls x= .a-> .c (qL x)->∀tk ws',.aA tk .ci-> .wp tk (jW c x)->∃r,.ks x= .bL/\
  instruct c m .P b i ls (.wu tk ws') d x=(match r with| .ok v=>.sb (.mO i (v::ws'):: .P)| .error k=>.Ab)
 fV:FC.fM c ls x= .a->qL x= .a->∀tk,.aA tk .ci-> .wp tk (jW c x)->lX ls x tk
theorem len0{α:Type}{l: .av}(h: .cw=0):l=[]:=vF.mp h
theorem gL{α:Type}{l: .av}(h: .cw=1):∃a,l=[a]:=by
 rcases l with _|⟨a,_|⟨b,l⟩⟩
 ·cases h
 ·exact⟨a,Y⟩
 ·cases h
theorem mE{α:Type}{l: .av}(h: .cw=2):∃a b,l=[a,b]:=by
 rcases l with _|⟨a,_|⟨b,_|⟨c,l⟩⟩⟩
 ·cases h
 ·cases h
 ·exact⟨a,b,Y⟩
 ·cases h
theorem Gw{α:Type}{l: .av}(h: .cw=3):∃a b c,l=[a,b,c]:=by
 rcases l with _|⟨a,_|⟨b,_|⟨c,_|⟨d,l⟩⟩⟩⟩
 ·cases h
 ·cases h
 ·cases h
 ·exact⟨a,b,c,Y⟩
 ·cases h
theorem ly{α:Type}{l: .av}(h: .cw<1):l=[]:=len0 (by omega)
theorem Nj(x:Instr):KP c m .P b i d ls x:=by
 cases x with
 |num q v=>exact⟨.gt,.uo,.GT ⟨.ex⟩,.la⟩
 |truth q=>exact⟨.gt,.uo,.GT ⟨.ex⟩,.la⟩
 |nil=>exact⟨.gt,.uo,.GT ⟨.ex⟩,.la⟩
 |get j=>
  refine⟨.GS,.uo,.la,λh _ tk k _=> ?_⟩
  ·rw[308,.K ls j,bQ h,.Ew _,pW h']
  ·cases len0 k;have h':¬ .K ls j:=cq h;rw[12,j< .cf]
 |bind=>
  refine⟨.gt,λ_ ws h=> ?_,λ_ tk X h k=> ?_,.GQ ?_⟩
  ·rw[103]
  ·rw[42];cases k
  ·rw[257,k];exact .bo
 |free k=>
  refine⟨.GS,.uo,.la,λh _ tk U _=> ?_⟩
  ·rw[308,.cf<k,bQ h,.jI (.cf<k) _,af h']
  ·cases len0 U;have h':¬ .cf<k:=cq h;rw[12,k<= .cf]
 |fn k=>
  refine⟨.GS,λR ws h=> ?_,λR tk X h U=> ?_,λR _ tk X h U=> ?_,.la⟩
  ·rw[308,.nx<=k,bQ h,.BR _,pW h']
  ·have h':¬ .nx<=k:=cq R;rw[10,c[k]?,.sc c k,.jE];have V:takes c (.fn k)=(.sK c k):=.wt (.nu c k x) _ e
   rw[V]at h;rw[25,.BR _,e];rw[25,.jI (.ah<(.sK c k)) _,af h]
  ·exfalso
   have all:∀(tk: .Q) (n:Nat),.wp tk (.GR n):=by
    intro tk
    induction tk with
    |nil=>intro n;rfl
    |cons a tk f=>intro n;cases n with
     |zero=>rfl
     |succ n=>rw[46,.c (m9 a (Str.ofString "value")&&_),f]
   have:=all tk (.nu c k x);rw[.zl (jW c (.fn k)) (.GR (.nu c k x)),this]at U;cases U
  ·have h':¬ .nx<=k:=cq R;rw[10,c[k]?,.sc c k,.jE];have V:takes c (.fn k)=(.sK c k):=.wt (.nu c k x) _ e
   rw[V]at h;refine⟨.ac⟩;rw[25,.BR _,e];show(.jI ((.wu tk X).length<(.sK c k)) _)=_;rw[aa (by rw[bL,dy];omega),<-h,List.take_left' dy,List.drop_left' dy,Df]
 |call k=>
  refine⟨.gt,λ_ ws h=> ?_,λ_ tk X h U=> ?_,.Cd ?_⟩
  ·rcases ws with _|⟨a,_|⟨b,ws⟩⟩
   ·rfl
   ·rfl
   ·rw[178,h,¬_<2]
  ·rw[229,h];cases a<;>first|rfl|cases U
  ·rw[229,h];cases a<;>first|exact True.intro|cases U
 |fold k=>
  refine⟨.gt,λ_ ws h=> ?_,λ_ tk X h U=> ?_,.Cd ?_⟩
  ·rcases ws with _|⟨a,_|⟨b,_|⟨e,ws⟩⟩⟩
   ·rfl
   ·rfl
   ·rfl
   ·rw[178,h,¬_<3]
  ·obtain⟨a,e,l,rfl⟩:=Gw h;cases l<;>first|rfl|cases U
  ·obtain⟨a,e,l,rfl⟩:=Gw h;cases l<;>first|rfl|cases U
 |ret=>
  refine⟨.gt,λ_ ws h=> ?_,λ_ tk X h k=> ?_,.GQ ?_⟩
  ·rw[103]
  ·rw[42];cases k
  ·rw[257,k];exact .bo
 |skip k=>exact⟨.gt,.uo,.GQ (by cases len0 k;exact .bo)⟩
 |«unless» k=>
  refine⟨.gt,λ_ ws h=> ?_,λ_ tk X h U=> ?_,.Cd ?_⟩
  ·rw[103]
  ·rw[42];cases a<;>first|rfl|cases U
  ·rw[42];cases a<;>first|exact True.intro|cases U
 |part k=>
  refine⟨.gt,λ_ ws h=> ?_,λ_ tk X h U=> ?_,.Cd ?_⟩
  ·rw[103]
  ·rw[42];cases a<;>first|rfl|cases U
  ·rw[42];cases a<;>first|rfl|cases U
 |pair=>
  refine⟨.rj⟩
  ·rcases ws with _|⟨a,_|⟨b,ws⟩⟩
   ·rfl
   ·rfl
   ·rw[178,h,¬_<2]
  ·rw[229,h];cases U
  ·rw[229,h];exact⟨.ex⟩
 |fst=>
  refine⟨.rj⟩
  ·rw[103]
  ·rw[42];cases a<;>first|rfl|cases U
  ·rw[42];cases a<;>first|exact⟨_,Y,Y⟩|cases U
 |snd=>
  refine⟨.rj⟩
  ·rw[103]
  ·rw[42];cases a<;>first|rfl|cases U
  ·rw[42];cases a<;>first|exact⟨_,Y,Y⟩|cases U
 |cons=>
  refine⟨.rj⟩
  ·rcases ws with _|⟨a,_|⟨b,ws⟩⟩
   ·rfl
   ·rfl
   ·rw[178,h,¬_<2]
  ·rw[228,h];cases l<;>first|rfl|cases U
  ·rw[228,h];cases l<;>first|exact⟨_,Y,Y⟩|cases U
 |op o=>
  refine⟨.rj⟩
  ·rcases ws with _|⟨a,_|⟨b,ws⟩⟩
   ·rfl
   ·rfl
   ·rw[178,h,¬_<2]
  ·rw[228,h];cases a<;>cases l<;>first|rfl|cases U
  ·rw[228,h];cases a<;>cases l<;>first|cases U|skip
   rw[48,⟨.ac⟩,(match Vaunih.operate o _ _ _ _ with| .ok r=>_| .error k=>_)=_];cases Vaunih.operate o _ _ _ _<;>rfl
 |pow k=>
  refine⟨.rj⟩
  ·rw[103]
  ·rw[42];cases a<;>first|rfl|cases U
  ·rw[42];cases a<;>first|cases U|skip
   rw[48,⟨.ac⟩,(match Vaunih.power _ _ k with| .ok r=>_| .error k=>_)=_];cases Vaunih.power _ _ k<;>rfl
 |root=>
  refine⟨.rj⟩
  ·rw[103]
  ·rw[42];cases a<;>first|rfl|cases U
  ·rw[42];cases a<;>first|cases U|skip
   rename_i p v;rw[48,⟨.ac⟩,(match Vaunih.rootOf p with|some q=>_|none=>_)=(match (match Vaunih.rootOf p with|some q=>(Except.ok (Vaunih.Value.num q v):Except Nat aP)|none=>.error 2)with| .ok v=>_| .error k=>_)];cases Vaunih.rootOf p<;>rfl
end
end
section
open Vaunih (Instr Op Hand Over Machine)
structure zK where
 r:Addr
 fv:L2.V
 bl:L2.V
 dn:L2.V
 ms:L2.V
 c:aX
 m:Machine
structure DU(T: .b)(L: .g)(D:zK)(H:Hp)(Q:VK)(E:XK):Prop where
 run:gH T L H D.r D.c D.m D.bl D.dn D.ms
 over:D.m.over=none
 fr:dv T .ba .zN .zM D.fv
 ok:pR .zM
 res:Res T L H D.r D.c D.bl D.dn D.ms (Vaunih.work D.c D.m) Q E
def W5(T: .b)(L: .g):Sp:=λvs H Q E=>∃D:zK,vs=(.f4 D.r D.fv)/\(∃b i ls ws d below,.zM= .pL i:: .P)/\DU T L D H Q E
def W6(T: .b)(L: .g):Sp:=λvs H Q E=>∃D:zK,vs=(.f4 D.r D.fv)/\(∃f left l d hand below,.zM= .zL:: .P/\((∃z,hand= .zK)∨∃g x,hand= .both g x))/\DU T L D H Q E
theorem Bw{α:Type}{ws: .av}{n:Nat}(h:n<= .ah):ws.reverse.drop (.ah-n)=(ws.take n).reverse:=by rw[List.drop_reverse];congr 2;omega
theorem Vm{α:Type}{ws: .av}{n:Nat}(h:n<= .ah):ws.reverse.take (.ah-n)=(.sJ n).reverse:=by rw[List.take_reverse];congr 2;omega
theorem SK(T: .b)(L: .g)(hN:base.NoSeer)(hP: .aj=none): .J P w K .x 44 T.t9.f T.t9.fd ["run","frame"] (W5 T L):=by
 refine T.t9.F.az ["run","frame","instruction","taken","row"] .f;obtain⟨⟨r,fv,bl,dn,mk,c,m⟩,rfl,⟨b,i,ls,ws,d,below,hm⟩,⟨run,B,n,aw,g⟩⟩:=h;dsimp only at hm run B n aw g;rw[hm]at n aw;have hfr0:=n;obtain⟨⟨dr,tp,oc,rf,rs0,h0,htp,hov⟩,I⟩:=id run;obtain⟨S,a,G,ro,pl,u,rws,ps,rfl,h1,h2,h3,h4,h5,h6⟩:=n;obtain⟨⟨o1,o2,o3,o4⟩,o5⟩:=id aw;have o2': .ah<=i:=o2;rw[90];have g2:=.X h2;rw[196];have bcl:=.f3;have hrl:=b_ h3;rw[dy]at hrl;rw[0,⟨.dZ (.lw T.tT (Sm T L) .F .e) (.en (.lw T.ua (SW T L .az) .T (.pK T.oC (A6 T) M.m W 2 .i)) (.aC 4 nd (o_ BE .T rb (mY (aL fN (T.cA .T) (T.cA .a3)))) (O (.zJ (eJ (.ce T.tU (Sn T) M.m W 2)) (aJ T.fr.moved (kz T.fr) M.m W (kD .e .ny (aL oX .aF (.wh (.pK T.tK (R7 T .az hN hP) M W 2 .a3))) .T)) (.bB (xx .bn (xA (jl Y T.fB.g) .gF) (oZ .F .e .aF .p .a3)))))))⟩,⟨.j,r,.B,bl,dn,mk,c,m,b,i,d,ls,ws,.P,Y,run,hfr0,?_⟩];unfold vQ;have ew: .zE m=(match (c[b]?).bind λx=>x.code[i]? with|none=>.error 7|some x=>.sL c m .P b i ls ws d x):=by unfold Vaunih.work;rw[hm];rfl
 rw[ew]at g
 cases e:((c[b]?).bind λx=>x.code[i]?)with
 |none=>rw[27,e,g]
 |some x=>
 rw[e]at g;have D:=Nj (c:=c) (m:=m) (below:=.P) (b:=b) (i:=.z) (d:=d) (ls:=ls) x;replace g:Res T L H r c bl dn mk (.sL c m .P b i ls ws d x) Q E:=g;show .kZ (fM c ls x) _;by_cases R: .wl c x
 ·rw[af R];rw[27,D.fM R ws,g]
 rw[aa R];have hl':fM c ls x= .a:=.eR▸R;intro iv hia;have hfn:∀k,x= .fn k->k< .az:=by rintro k rfl;have:¬ .nx<=k:=cq hl';omega
 have hi3:i<300:=by obtain⟨l,bs,rfl,R,hbs,hc1,hc2⟩:=I;obtain⟨bv,hbv,ba,dba,bli,bxs,rfl,hba,hbli,o,_,hself,hcl⟩:=.lu hbs S;rw[bS S]at e;rw[23,.dD (show .a1 (c[b]:cM).code= .aa from e)]
 rw[51];have ns:=BG c x
 have hsl:(jW c x).length<=100:=by
  rw[ns]
  cases x with
  |fn k=>obtain⟨l,bs,rfl,R,hbs,hc1,hc2⟩:=I;have hk:=hfn k Y;obtain⟨bv,hbv,ba,dba,bli,bxs,rfl,hba,hbli,o,hkp,hself,hcl⟩:=.lu hbs hk;rw[61,(.nu c k x)<=100,bS hk];rw[12,(.sK c k)<=100]
  |_=>exact aY
 refine⟨.bO,bcl,.sI T,pK,.j,r,_,.nw,h0,.zI T,v7,iv,bl,x,c,Y,hia.out,I.out,hfn,λH1 p1 F hp1=> ?_⟩;have sd:∀{k:Nat} {H':Hp},.R->eM T.R .bq H E->eM T.R .bq H' E:=λs f cls G X s2 k2=>f cls G X (.wk s2) k2;refine⟨ro,p1,rws,.nv,jW c x,Y,F _ _ g2,h3.same F.kp,hp1,by omega,hsl,.a2,λz z'=> ?_,λz z' X p2 e2 hp2=> ?_⟩
 ·rw[dy,ns]at z;rw[27,D.bZ hl' ws z,sd F g]
 ·rw[dy,ns]at z z';rw[Bw z]at z';rw[106,D.sort hl' _ (.sJ .dY) (by rw[dy,eX];omega) z',Df,Dh];rw[27,this,sd F g]
 rw[dy,ns]at z z' hp2;rw[Bw z]at z';have htk:=Kb h3 (.ah- .dY);have hrw:=Kd h3 (.ah- .dY);rw[Bw z]at htk;rw[Vm z]at hrw;have hws:(ws.take .dY).reverse.reverse++ .sJ .dY=ws:=by rw[Df,Dh]
 have htl:(ws.take .dY).reverse.length= .dY:=by rw[dy,eX];omega
 have hwl: .aA (.sJ .dY) (.ah- .dY):=kU;generalize (ws.take (Vaunih.takes c x)).reverse=tk at*;generalize ws.drop (Vaunih.takes c x)=ws' at*;have s2:=F.trans e2;refine⟨.cR,s2 _ _ g1,bcl,.sI T,pK,.cR,s2 _ _ g1,bcl,.sI T,pK,ro,.pJ (s2 _ _ g2),p2,.lv hp2,.fK,ro,_,Y,s2 _ _ g2,λV p3 e3 hp3=> ?_⟩;have C: .aB V:=s2.trans e3
 have ecut:fU rws none (some ((rws.length:Int)-(.cr (rws.drop (.ah- .dY)))))=rws.take (.ah- .dY):=by
  rw[195,(rws.length:Int)-(.cr (rws.drop (.ah- .dY)))=(.gE .ah .dY),by rw[kU];omega,e];rw[HT.uU,HT.ph,r_,qf,.sH]
 replace hp3:V p3= .aE (rws.take (.ah- .dY)):=by rw[<-ecut];exact hp3
 have hp23:V p2= .aE (rws.drop (.ah- .dY)):=e3 _ _ hp2;generalize rws.drop (ws.length-Vaunih.takes c x)=us at*;generalize rws.take (ws.length-Vaunih.takes c x)=rs at*;have hrl':=b_ hrw;rw[dy]at hrl';refine⟨_,Y,iv,x,Y,hia.out.same C,.ac⟩;rw[<-hws]at g;by_cases hg: .c (qL x)
 ·rw[hg];obtain⟨rr,hr1,hr2⟩:=D.give hl' hg tk ws' htl z';rw[108,hr2,aR ⟨.j,a,_,G,.h,C _ _ g1,bcl,.jD,.o,.jn,iv,p2,x,tk,us,rr,Y,hg,hia.out.same C,hp23,htk.out.same C,hr1,λk hk=>⟨hfn k hk,?_⟩,?_⟩]
  ·subst hk;rw[htl];obtain⟨l,bs,rfl,R,hbs,hc1,hc2⟩:=I;have hk:=hfn k Y;obtain⟨bv,hbv,ba,dba,bli,bxs,rfl,hba,hbli,o,hkp,hself,hcl⟩:=.lu hbs hk;rw[38,(.nu c k x)<=60,bS hk,hkp]
  cases rr with
  |error k=>exact sd C g
  |ok v=>intro q y e4 hy;have s4:=C.trans e4;refine⟨aY,λt5 ht5=> ?_⟩;generalize U:upd q t5 _=H5;obtain⟨e5,k5⟩:=bH U ht5;rw[193,s4,e5];refine⟨p3,t5,.o,e5 _ _ (e4 _ _ hp3),k5,.zH br (.aG rs) _,λH6 p6 e6 hp6=> ?_⟩;have s6:=p.trans e6;refine⟨.cR,s6 _ _ g1,bcl,.gD,.i2,.cK,s6 _ _ g1,λH7 x7 dx7 e7 hx7=> ?_⟩;have s7:=s6.trans e7;refine⟨.eZ,dr,_,Y,s7 _ _ h0,N,.fQ⟩;rw[155,B];rw[109,L,H6,s6.kp,(mM (H:=H6) (s6 _ _ h0) .jC B S (.aZ h6) (B7 (hrw.same kp) (.pI hy e5 e6).aD) (.aZ h5) (g.same s6)).end_ e7 (s6 _ _ h0) hx7 (e7 _ _ hp6) (s7 _ _ g4)]
 ·have hg':qL x= .a:=.eR▸hg;rw[hg'];have hda:=D.fV hl' hg' tk htl z';rw[43,L,V,C.kp];have fin:∀{ok: .ap .cd},ok x->kK T L ok [.i4,.B,.ref p3,iv,.ref p2] V .we E:=λ{ok} h=>⟨⟨r,p3,p2,.B,iv,bl,dn,mk,c,m,b,i,d,ls,.P,x,tk,ws',rs,us⟩,Y,h,⟨.zC C,by rw[hws];exact hfr0.same kp,by rw[hws];exact aw,hi3,hia.same kp,hp3,hrw.same kp,hp23,htk.same kp,hda,.pH g⟩⟩;obtain⟨iok,t,A,val,rfl,hi0,hval⟩:=id hia;have hi1:=C _ _ (.X hi0);have cl:=.dG;have nw:=.fP;rw[18,?_]
  cases x with
  |get j=>exact⟨.lt T,_,.ls "get" T,Tc T L,.b3,T.oj.F.kp,T.oj.F.b,.pF (x= .pG) ⟨_,Y⟩⟩
  |bind=>exact⟨.lt T,_,.ls "bind" T,S9 T L,.b3,T.oa.F.kp,T.oa.F.b,.j,.jn,.Ea (x= .bind) Y⟩
  |free j=>exact⟨.lt T,_,.ls "free" T,Tb T L,.b3,T.md.F.kp,T.md.F.b,.pF (x= .wj) ⟨_,Y⟩⟩
  |skip j=>exact⟨.lt T,_,.ls "skip" T,Tf T L,.b3,T.oq.F.kp,T.oq.F.b,.pF (x= .skip j) ⟨_,Y⟩⟩
  |«unless» j=>exact⟨.lt T,_,.ls "unless" T,Tg T L,.b3,T.ou.F.kp,T.ou.F.b,.pF (x= .unless j) ⟨_,Y⟩⟩
  |part j=>exact⟨.lt T,_,.ls "part" T,Td T L,.b3,T.om.F.kp,T.om.F.b,.pF (x= .part j) ⟨_,Y⟩⟩
  |call j=>exact⟨.lt T,_,.ls "call" T,S_ T L,.b3,T.og.F.kp,T.og.F.b,.pF (x= .call j) ⟨_,Y⟩⟩
  |fold j=>exact⟨.lt T,_,.ls "fold" T,Ta T L,.b3,T.oh.F.kp,T.oh.F.b,.pF (x= .fold j) ⟨_,Y⟩⟩
  |ret=>exact⟨.lt T,_,.ls "ret" T,Te T L,.b3,T.oo.F.kp,T.oo.F.b,.j,.jn,.Ea (x= .ret) Y⟩
  |_=>cases hg'
end
section
open Vaunih (Instr Op Hand Over Machine)
theorem SM(T: .b)(L: .g): .J P w K .x 5 T.t_.f T.t_.fd ["run","frame"] (W6 T L):=by
 refine T.t_.F.az ["run","frame","waiting"] .f;obtain⟨⟨r,fv,bl,dn,mk,c,m⟩,rfl,⟨f,left,l,d,hand,below,hm,hhand⟩,⟨run,B,n,aw,g⟩⟩:=h;dsimp only at hm run B n aw g;rw[hm]at n aw;obtain⟨⟨dr,s,oc,rf,rs0,F,htp,hov⟩,I⟩:=id run;obtain⟨a,G,co,he,u,fv',us,rfl,h1,h2,h3,h4,h5,h6⟩:=n;obtain⟨⟨v,C⟩,o5⟩:=id aw;rw[194,.eQ];have t:=.sG;have X:=.Ej;rw[0,⟨_,O (aQ (.wi .T "FUNCTION_AND_VALUE" 2) (.aC 2 nd (aJ T.fr.hand (xn T.fr) M.m W (kD .e .T (T.bE "NOTHING" 3) (dE dO))) (.bB (aJ T.n_ (AY T L) M W (oZ .F (.fN .T) (.fN .T) .T .p)))) (.i3 (.pj (J .T)) (.nt T.qA (Ht T L) M W .T (.fN .T)) (.aC 2 nd (aJ T.fr.hand (xn T.fr) M.m W (kD .e (J .T) (T.bE "ONE_VALUE" 1) (.wh (J .T)))) (.bB (aJ T.n_ (AY T L) M W (oZ .F .T (.fN .T) .T .p)))))),?_⟩,⟨.bO,.nc T "hand",yQ,.aJ⟩];rcases hhand with⟨z,rfl⟩|⟨gv,x,rfl⟩
 ·obtain⟨zv,rfl,hz⟩:=kE h5;rw[18,⟨.bO,t,.lq T,?_⟩]
  cases left with
  |nil=>
   obtain⟨ca,e,rfl,D⟩:=h3;rw[260,.zE m= .ok (.Ei z .P),hm]
   rw[27,V,⟨ca,_,e,.h,.X D,.zF T "size",nB,.n7 ⟨.dF,.nc T "below",yN,.bO,.wg T,rN,he,_,.o,aM.of U,bG (j:=0) Y,r,zv,u,bl,dn,mk,c,m,z,.P,Y,run,B,h6,o5,hz,g⟩⟩]
  |cons x left=>
   obtain⟨R,ca,e,fi,o,rfl,D,N,ho⟩:=h3;have oG:=.X D;rw[260,.zE m= .zD m (.p9 (.element x):: .P) d l f z,hm]
   rw[108,V,⟨ca,_,e,.h,oG,.zF T "size",nB,.aR,.zG (aa ?_)⟩]
   ·intro z;rw[30,(.lr (Vaunih.ofList left).list.length)=0,by simpa using z]
   rw[6,⟨.dF,t,.lq T,ca,_,e,.h,oG,.zF T "others",yF,.bO,t,.lq T,ca,_,e,.h,oG,.zF T "first",yE,aY,λt4 i=> ?_⟩,cJ i λq A k4=> ?_,⟨.i2,_,.cK,A _ _ g1,λk wt b S hx5=> ?_⟩];rw[193,A,S];rw[43,L,k,p.kp];rw[2,⟨.j,a,_,G,.h,p _ _ g1,.nc T "f",CH,.cR,p _ _ g1,.wg T,rN,he,_,.o,aM.of (p _ _ U),bG (j:=0) Y,.cR,p _ _ g1,.nc T "level",vo,.ac⟩,⟨r,fv',zv,.ref wt,bl,dn,mk,l,c,m,f,z,.p9 (.element x),.P,Y,.zC p,⟨wt,b,.ns,t4,u,fv',_,Y,c0 hx5 wK,.aZ h2,bw.same ho kp,c0 (S _ _ k4) Y,.dE (bw.same N kp),.aZ h6⟩,.lp h2 hz,g.same p⟩]
 ·obtain⟨gg,xv,rfl,y,hxv⟩:=mT h5;rw[260,.zE m= .zD m (.p9 .nothing:: .P) d l gv x,hm]
  rw[V]at g;rw[6,aR ⟨.dF,t,.lq T,.ab,λt4 i=> ?_⟩,cJ i λq A k4=> ?_,⟨.i2,_,.cK,A _ _ g1,λk wt b S hx5=> ?_⟩];rw[193,A,S];rw[43,L,k,p.kp];rw[2,⟨.j,a,_,G,.h,p _ _ g1,.wg T,rN,he,_,.o,aM.of (p _ _ U),bG (j:=0) Y,.cR,p _ _ g1,.wg T,rN,he,_,.o,aM.of (p _ _ U),bG (j:=1) Y,.cR,p _ _ g1,.nc T "level",vo,.ac⟩,⟨r,gg,xv,.ref wt,bl,dn,mk,l,c,m,gv,x,.p9 .nothing,.P,Y,.zC p,⟨wt,b,co,t4,u,fv',_,Y,c0 hx5 wK,.lp h2 h3,c0 (S _ _ k4) Y,Y,.aZ h6⟩,.aZ y,hxv.same kp,g.same p⟩]
end
def sgn(n:Nat):Nat:=if n=32∨(40<=n/\n<123)then n else 63
def uW:Str:="()*+,-./0123456789:;<=>?@ABCDEFGHIJKLMNOPQRSTUVWXYZ[\\]^_`abcdefghijklmnopqrstuvwxyz"
theorem signs_at:∀k,k<83->uW.cps.toList[k]? =some (40+k):=by decide+kernel
theorem xQ:uW.length=83:=by kernel_rfl
def WZ:Sp:=λvs H Q _=>∃n:Nat,vs=[.br]/\ .gw (.gy (sgn n)) H
theorem blank_eq:(" ":Str)=⟨#[32]⟩:=by kernel_rfl
theorem UN:("?":Str)=⟨#[63]⟩:=by kernel_rfl
theorem SI(T: .b): .cb T.oB.f T.oB.fd ["byte"] WZ:=by
 refine T.oB.F.az ["byte"] .f;obtain⟨n,rfl,q⟩:=h;rw[0,⟨_,.xg .F (T.bE "BLANK" 32) bq (.dd (uS iU gO (T.bE "FIRST_SIGN" 40) .F (aL c9 (T.bE "FIRST_SIGN" 40) (T.lC (HV (n:=uW) Y T.Am)))) (bz Pj (HV (n:=uW) Y T.Am) (aL fN .F (T.bE "FIRST_SIGN" 40)))) bq,?_⟩,⟨.f0,.pN ?_⟩]
 ·have A:n=32:=by
   rw[268,.Z=32]
  subst A;exact q
 have A:n≠32:=λz=>t (by subst z;rfl);rw[164,¬(40<=n/\n<123)-> .gw ("?":Str) H,λh=>by have e:sgn n=63:=aa λz=>z.elim A h;rw[e]at q;rw[UN];exact q,⟨.i9,.E9 ?_ ?_⟩]
 ·have B:40<=n:=.wr C
  refine⟨_,Y,.Fv xQ,.o,.fK,cE (λL=> ?_) (λL=> ?_)⟩
  ·have d:n<123:=by have:=bQ L;rw[xQ]at this;omega
   rw[10,sgn n,n,af (.inr ⟨B,d⟩)];rw[e]at q;refine⟨.b2,uW,_,n,Y,Y,.Fv xQ,?_,q⟩;rw[192,signs_at (n-40) (by omega),.xm (40+(n-40)) n];rw[292,.Z-40=(.m (n-40)),by omega,D,bG h1]
  ·exact fin λz=>by have:=cq (.eR▸L);rw[xQ]at this;omega
 ·exact⟨_,Y,aj (fin λz=>.wq .sN)⟩
theorem GX{X:Cx}(h:X.xe= .gP):Passes .o1 X (λ_=>XF):=λpins σ H s e s' I c=>(fL _ _ _ _ _ c).elim
def iQ(s: .cY):List .cY-> .cY
 |[]=>[]
 |[x]=>x
 |x::y::r=>x++(s++iQ s (y::r))
theorem join_list(sep:Str):∀ys: .H,.iw (.Fc sep) (iQ sep.cps.toList (.ix ys y.cps.toList)):=by
 intro ys;rw[61,.iw (Builtin.Str.glued sep ys) _,DW]
 induction ys with
 |nil=>rfl
 |cons x r j=>
  cases r with
  |nil=>rfl
  |cons y r=>show .iw (x++sep++Str.join sep (y::r)) (.Fb++(sep.cps.toList++iQ sep.cps.toList (.ix (y::r) y.cps.toList)));rw[<-j,DV,DV,ve,ve,d8]
theorem kM{a b:Str}(h: .iw a b.cps.toList):a=b:=Str.ext' (Array.toList_inj.mp h)
theorem FV:∀ls:List .cY,iQ [] ls=ls.flatten
 |[]=>rfl
 |[x]=>by rw[C6,List.flatten_nil,cC];rfl
 |x::y::r=>by rw[C6];show x++([]++iQ [] (y::r))=_;rw[jC,FV (y::r)]
theorem Nm: .iw ("":Str) []:=by kernel_rfl
theorem Pl:∀ns: .cY,.Fa ("":Str) ns (λn=>(.gy n:Str))=(.qi ns):=by
 intro ns;apply kM;rw[285,Nm,FV,fo];show(.nZ λn=>[n]).flatten=ns
 induction ns with
 |nil=>rfl
 |cons n r j=>rw[d9,C6,j];rfl
theorem Qh{B:It}{n:Nat}{g:TG}{U:TT}{l:TE}{vs: .cY}{σ:L2.St}{f:Hp}{D:Addr}{G: .f1}(Pv: .lK)(F:Pv 0 (.gn f))(c:∀i H,i<n->Pv i H->B.go i H)(a:∀H,Pv n H->B.stop n H)
  (L:∀i x H H',i<n->Pv i H-> .tl i H x-> .AH x .dm H' (.qk= .dm/\U σ2 X λb V=>
   .jk (l σ2 V (.x7 (q D= .gK/\ .iu< .W/\Pv .z (.qj q D [y])))) (Pv .z V)))(hd:∀H,Pv n H->G H):
  .vS .lK ((∃m,W 0 m (.gn f))/\∀i m H,W i m H->
   (.iv B/\G H)∨(B.go i H/\∃z: .f1,(∀H',z H'->∃M,M<m/\W .z M H')/\∀x H',.tl i H x-> .AH x .dm H' (.qk= .dm/\U σ2 X λb V=>
    .jk (l σ2 V (.x7 (q D= .gK/\ .iu< .W/\z (.qj q D [y])))) (z V)))):=by
 rw[284,⟨λi m H=>m=n-i/\i<=n/\Pv i H,⟨n,.o0,F⟩,?_⟩]
 by_cases j:i<n
 ·rw[8,⟨c i H j p,.dl,.F9 ⟨n- .z,.it,j,d⟩ (L i x H H' j p y)⟩]
 ·rw[99,i=n,⟨a H p,hd H p⟩]
def Xd:Sp:=λvs H Q _=>∃(a:Addr) (ns: .cY),vs= .cW/\H a= .jv ns (λn=>.a5 n)/\ .pq ns/\∀H',.R-> .gw (.qi (.nZ sgn)) H'
theorem SX(T: .b): .et T.ub.f T.ub.fd ["row"] Xd:=by
 refine T.ub.F.az ["row","byte"] .f;obtain⟨a,ns,rfl,N,R,q⟩:=h;rw[6,⟨.ax (Bh bq (o8 (own:=[("byte",1)]) Y nd (mW .F) .qa (λs H C cl fp=>eo 1 nd) (λs H C cl fp=>uT) (λs H C cl fp=>Be (SI T) M.m (by rfl) T.oB.g T.oB.F.kp T.oB.F.b .nil (GX Y) (ao .e))))⟩,⟨⟨_,Y⟩,?_⟩,⟨_,Y,a,Y,⟨.jz N⟩,.Ah⟩];rw[112,.aB (.gn H),.gs m,wU (λi H'=>.R/\∃acc,H' D= .gK/\acc=((.d9 ns).map λn=>V.str (.gy (sgn n)))) ⟨j,_,aB,Y⟩ (.Af (h.1 _ _ N)) (λi x H' W h=> ?_) (λH' h=> ?_)]
 ·obtain⟨s',acc,k,L⟩:=h;rw[gE]at W;obtain⟨n,G,rfl⟩:=j9.mp W;rw[162,G];refine⟨.aR,n,Y,acc,k,.ad,_,aB,?_⟩
  ·subst L;rw[113,bh,eX,br]
  ·exact .wM e m e
  ·rw[iE,G,L,fT];rfl
 ·obtain⟨s',acc,k,L⟩:=h;rw[283,acc,.vR ((.nZ sgn).map λn=>(.gy n:Str)),by rw[L,bh,iD,fo,fo];rfl,e];refine⟨_,D,.ex,.pE k,.ad⟩
  ·rw[fo,bh,bh];have F:((.nZ sgn).map (Str.length∘λn=>(.gy n:Str)))=List.replicate ns.length 1:=by rw[List.eq_replicate_iff];refine⟨by rw[bh,bh],.fe⟩;obtain⟨x,_,rfl⟩:=iC.mp S;rfl
   rw[282,F,List.sum_replicate_nat,ns.length*1+ns.length*0<=16777216]
  ·rw[1,Pl,q H' s']
def WX:Sp:=λvs H Q _=>∃z:Str,vs=(.cX z)/\ .c0<=16000000/\ .ij (.c2= .a7 (z.cps.toList.map λn=>.a5 n)-> .dI)
theorem A2(T: .b): .Ap T.oz.f T.oz.fd WX:=by
 refine T.oz.F.az ["text","sign"] .f;obtain⟨z,rfl,R,q⟩:=h;have r:z.cps.size= .c0:=rfl;rw[0,⟨.ax (o8 (own:=[("sign",1)]) Y nd (Uk .F) .qa (λs H C cl fp=>eo 1 nd) (λs H C cl fp=>uT) (λs H C cl fp=>.wW MI "ord" (.im "ord" (.ps "ord")) (ao .e)))⟩,⟨_,Y,z,Y,.Ah⟩];rw[112,.aB (.gn H),.gs m,Qh (n:=z.cps.size) (λi H'=>.R/\∃acc,H' D= .gK/\acc=((z.cps.toList.take i).map λn=>V.int (n:Nat))) ⟨j,_,aB,Y⟩ (λi H' hi h=>hi) (λH' h=>.y) (λi x H' X hi h g=> ?_) (λH' h=> ?_)]
 ·obtain⟨s',acc,k,L⟩:=h;obtain⟨rfl,n,G,rfl⟩:=g;refine⟨Y,.j,Y,acc,k,.ad,_,aB,?_⟩
  ·subst L;rw[bh,eX,rE,br];omega
  ·exact .wM e m e
  ·rw[281,.a1 z.cps.toList= .jZ,Cj,G]
   rw[iE,a,L,fT];rfl
 ·obtain⟨s',acc,k,L⟩:=h;rw[<-rE,iD]at L;rw[L]at k;exact q H' D s' k
def V1(T: .b)(n:Nat):Sp:=λvs H Q _=>∃(a:Addr) (xs: .Q) (us: .N),vs= .cW/\H a= .fY/\ .nX H n xs/\∀H' c,.R-> .hD H' .qh .bQ-> .eW c
theorem Q_{C:VC}{F:Hp}{n:Nat}{xs: .Q}{c:Addr}(h: .fX .qh .bQ):∃G f o,F c= .x6 C (.a5 .r) f o:=by
 cases xs with
 |nil=>obtain⟨a,G,e,h⟩:=h;rw[53,⟨G,_,_,h⟩]
 |cons x l=>obtain⟨R,a,G,f,o,e,h,_⟩:=h;cases e;rw[41,wV,⟨G,_,_,h⟩]
theorem RD(T: .b)(n:Nat): .gI T.gi.so.of.f T.gi.so.of.fd ["values"] (V1 T n):=by
 refine T.gi.so.of.F.az ["values","chain","value"] .f;obtain⟨a,xs,us,rfl,N,t,q⟩:=h;have d:=b_ t;rw[20,⟨.eX (Bf (Ho T.gi.so) M Y T.gi.so.empty.g T.gi.so.empty.F.kp T.gi.so.empty.F.b .nil .bn) (.bC (ik ef Y (Uj Y T.gi.so.Oj (.bz 0)) (eo 2 nd) (O (aG 1 nd (.pK T.gi.so.longer (Hx T.gi.so) M W 2 .e)))) .e)⟩,⟨Y,λm z v U j=> ?_⟩,⟨_,Y,a,us,Y,ay.of (U _ _ N),?_⟩,Ak (n:=.a8) (.i6 .R (∃(c:Addr) (u: .dH),σ=[.I a,.I c,u]/\ .hD H' (Vaunih.ofList (.eS (.r-i))) .bQ)) ⟨U,z,none,Y,?_⟩ ?_ ?_ ?_ ?_]
 ·rw[13,qf,y8,⟨z,v,Y,j⟩]
 ·rintro i σ H' hi ⟨s',_⟩;exact⟨hi,us,us[.a8-1-i],ay.of (.dU N),.jE⟩
 ·rintro σ H' _;exact .y
 ·rintro i x σ H' X hi ⟨s',c,u,rfl,B⟩ ⟨rfl,W⟩;have r:=W us (ay.of (.dU N));have s: .a8-1-i< .r:=by omega
  obtain⟨y,g,b⟩:=.lu t s;rw[161,r];obtain⟨G,f,o,k⟩:=Q_ B;refine⟨.j,x,c,G,_,f,o,Y,k,λV L p C l=>⟨.q3 s',L,.ac⟩⟩
  rw[65,.eS (.r- .z)=xs[.a8-1-i]:: .eS (.r-i),by
   rw[202,.r- .z= .a8-1-i,.r-i= .a8-1-i+1]
   rw[13,F,D,y6 s]];rw[15,⟨O7 _,L,p,x,c,Y,?_,bw.same b (.q3 s'),bw.same B C⟩,wV,l]
 ·rintro σ H' ⟨s',c,u,rfl,B⟩;rw[<-d,lT,r_]at B;exact⟨_,Y,q H' c s' B⟩
end FC
namespace FC
def gN: .ed (.ed (.fd Nat Nat))
 |0,_,_=>none
 |k+1,a,b=>.ub b a k b (a%b)
theorem Fl:∀(k a b:Nat),hX k (a:Int) (b:Int)=(gN k a b).map λg=>.qg
 |0,_,_=>rfl
 |k+1,a,b=>by
  show(.bd ((b:Int)=0) (a:Int) (hX k b ((a:Int).fmod b)))=((.ub b a k b (a%b)).map λg=>.qg)
  by_cases h:b=0
  ·rw[24,af h,.rb]
  ·rw[.dP,.gJ,.GA _,<-Fl k b (a%b)]
   rfl
theorem Fe:∀{k a b g:Nat},gN k a b=some g->g= .BN b
 |0,_,_,_,h=>by cases h
 |k+1,a,b,g,h=>by
  rw[134,(.ub b a k b (a%b))=some g]
  by_cases S:b=0
  ·rw[af S]at h'
   cases h'
   rw[S,Nat.gcd_zero_right]
  ·rw[aa S]at h'
   rw[Fe h',Dk a b,Nat.gcd_rec b a,Dk]
theorem Fg{m:Nat}(j:0<m):∀(k a b:Nat),gN k (m*a) (m*b)=(gN k a b).map λg=>m*g
 |0,_,_=>rfl
 |k+1,a,b=>by
  show(.ub (m*b) (m*a) k (m*b) (m*a%(m*b)))=((.ub b a k b (a%b)).map λg=>m*g)
  by_cases h:b=0
  ·rw[24,af h,af (by rw[h,Nat.mul_zero])]
  ·rw[.dP,aa (by intro z;rcases Nat.mul_eq_zero.mp z with z|z<;>omega),Nat.mul_mod_mul_left,Fg j]
def qF: .ed .vP
 |0=>(0,1)
 |n+1=>let p:=qF n;(p.2,p.1+p.2)
theorem Ff:∀{k a b:Nat},b<a->gN k a b=none->(qF k).2<=a/\(qF k).1<=b
 |0,a,b,h,_=>⟨by show 1<=a;omega,.ab⟩
 |k+1,a,b,h,e=>by
  rw[114,(.ub b a k b (a%b))=none]
  by_cases S:b=0
  ·rw[209,af S]
  ·rw[aa S]at M
   rw[93,Ff (Nat.mod_lt a (by omega)) M,⟨?_,h1⟩]
   show(qF k).1+(qF k).2<=a
   have h3:=Nat.div_add_mod a b
   have h4:1<=a/b:=Nat.div_pos (nI h) (by omega)
   have h5:b*1<=b*(a/b):=Lr b h4
   omega
theorem NK:10^1000<=(qF 4999).2:=by decide+kernel
theorem Fn{t:Int}{d:Nat}(hd:0<d):(∃g,hX 5000 t d=some g/\g=(.il t:Int))∨(hX 5000 t d=none/\10^1000<=d/ .il t):=by
 rw[303,hX 5000 t d=hX 4999 d (t.fmod d),Fm,.gJ]
 have M:t.fmod d=(.xR t d:Int):=by rw[.GA _];have:=Int.emod_nonneg t (b:=.ay) (by omega);exact(CV this).symm
 rw[M,Fl]at F;have j:(.xR t d)<d:=by have:=Int.emod_lt_of_pos t (b:=.ay) (by omega);have h2:t.emod d<d:=this;omega
 have a:(.xR t d:Int)=t% .ay:=CV (Int.emod_nonneg t (b:=.ay) (by omega));have l:t% .ay+ .ay*(t/ .ay)=t:=Int.emod_add_mul_ediv t d
 have y:Nat.gcd d (.xR t d)= .il t:=by
  generalize (t.emod d).toNat=r at a;rw[<-a]at l;apply Nat.dvd_antisymm
  ·refine Nat.dvd_gcd ?_ (zo ..);have h1:(.m (Nat.gcd d r))∣t:=by rw[<-l];exact Int.dvd_add (yX.mpr (vL ..)) (Int.dvd_trans (yX.mpr (zo ..)) (KY ..))
   exact K7.mp h1
  ·refine Nat.dvd_gcd (vL ..) ?_
   have h1:(.ta t d)∣(r:Int):=by
    have h2:(r:Int)=t- .ay*(t/ .ay):=by omega
    rw[1,h2,Int.dvd_sub (K7.mpr (zo ..)) (Int.dvd_trans (yX.mpr (vL ..)) (KY ..))]
   exact yX.mp h1
 rcases e:gN 4999 d (t.emod d).toNat with _|g
 ·right;rw[e]at F;refine⟨F,?_⟩;have c:0< .il t:=Dl _ hd;obtain⟨d',k⟩:=vL .xS d;obtain⟨U,i⟩: .il t∣(.xR t d):=by rw[<-y];exact vL ..
  have D:gN 4999 d' U=none:=by
   have:=Fg c 4999 d' U;rw[<-k,<-i,e]at this
   cases h:gN 4999 d' U with
   |none=>rfl
   |some x=>rw[h]at this;cases this
  have f:U<d':=by
   have h3: .il t*U< .il t*d':=by rw[<-i,<-k];exact j
   exact Nat.lt_of_mul_lt_mul_left h3
  have:=(Ff f D).1
  have s:d/ .il t=d':=by
   conv=>lhs;lhs;rw[k]
   exact Lq d' c
  rw[1,s,cn NK this]
 ·left;rw[e]at F;exact⟨.qg,F,by rw[Fe e,y]⟩
end FC
namespace Fr
theorem Is.GF{q:Q}{n:Int}{d:Nat}(h: .iT): .aP=n/(.il n:Int)/\ .an=d/ .il n:=by have hd:d≠0:=eO .hf;have e:=h.eq;rw[<-of_eq n d hd]at e;rw[e];unfold Vaunia.Q.of;rw[aa hd];exact⟨Y,Y⟩
end Fr
namespace FC
open Vaunih (Reach Instr handsOn handsFar checkFrom faultAt)
structure gh(l: .ft)(o: .bM)(b:Bool):Prop where
 nil:o=none↔l=[]
 mem:∀r,o= .bL->r∈l
 lE: .fj↔∃x∈l,∃y∈l,x≠y
theorem gh.empty:gh [] none .a:=⟨⟨.ec,.ec⟩,λr h=>(by cases h),⟨.gt,λ⟨x,W,_⟩=>(by cases W)⟩⟩
def sP(o: .bM)(r:Reach): .bM:=match o with
 |none=>.bL
 |some s=>some s
def sO(o: .bM)(b:Bool)(r:Reach):Bool:=match o with
 |none=>b
 |some s=>b|| .Cc s r
theorem gh.add{l l': .ft}{o: .bM}{b:Bool}{r:Reach}(h:gh l o b)(R:∀x,x∈l'↔x=r∨x∈l):gh l' (sP o r) (sO o b r):=by
 have f: .aY l':=.ET (.n5 r .ao) z
 cases o with
 |none=>
  have e:=h.nil.mp Y;subst e;refine⟨⟨.du,.pT z f⟩,λs z=>(by cases z;exact .n5 _ .ao),?_⟩;rw[61,.fj↔_,h.lE];constructor
  ·rintro⟨x,W,_⟩;cases W
  ·rintro⟨x,W,y,g,c⟩;rcases(R x).mp W with rfl|W
   ·rcases(R y).mp g with rfl|g
    ·rw[16,c]
    ·cases g
   ·cases W
 |some s=>
  have L:=h.mem s Y;rw[48,⟨⟨.du,.pT z f⟩,λt z=>(by cases z;exact .Cb _ L),?_⟩,.c (b|| .Cc s r)↔_];rw[173,lG,cR,h.lE]
  ·rintro(⟨x,W,y,g,c⟩|A)
   ·exact⟨x,.Cb x W,y,.Cb y g,c⟩
   ·exact⟨s,.Cb s L,r,.n5 r .ao,A⟩
  ·rintro⟨x,W,y,g,c⟩;by_cases A:s=r
   ·left;subst A
    have mem:∀z,z∈l'->z∈l:=λz hz=>by
     rcases(R z).mp hz with rfl|hz
     ·exact L
     ·exact hz
    exact⟨x,mem x W,y,mem y g,c⟩
   ·rw[8,A]
theorem gh.same{l l': .ft}{o: .bM}{b:Bool}(h:gh l o b)(R:∀x,x∈l'↔x∈l):gh l' o b:=by
 refine⟨⟨.a2,.a2⟩,λr z=>.n5 r (h.mem r z),?_⟩
 ·have e:=h.nil.mp z;subst e
  cases l' with
  |nil=>rfl
  |cons x r=>rw[5,(R x).mp .aS,(by intro z;cases z)]
 ·subst z;refine h.nil.mpr ?_
  cases l with
  |nil=>rfl
  |cons x r=>rw[5,.n5 x .aS,(by intro z;cases z)]
 ·rw[177,h.lE]
  ·rintro⟨x,W,y,g,k⟩;exact⟨x,.n5 x W,y,.n5 y g,k⟩
  ·rintro⟨x,W,y,g,k⟩;exact⟨x,(R x).mp W,y,(R y).mp g,k⟩
theorem gh.look{l: .ft}{o: .bM}{b:Bool}(h:gh l o b):(l=[]/\o=none)∨(∃r a,l=r::a/\ .ri o/\((a.any (λy=>y !=r))=b)/\(b= .a->o= .bL)):=by
 cases l with
 |nil=>rw[14,⟨Y,h.nil.mpr Y⟩]
 |cons r a=>
  right;have d:o≠none:=λz=>by cases h.nil.mp z
  have key:(a.any (λy=>y !=r))=b:=by
   rw[173,j3,List.any_eq_true,h.lE]
   ·rintro⟨y,g,f⟩;exact⟨y,.aH g,r,.aS,by simpa using f⟩
   ·rintro⟨x,W,y,g,c⟩;rw[17,x,r]
    ·subst e;rcases bu.mp g with rfl|g
     ·rw[16,c]
     ·exact⟨y,g,by simpa usingλz=>c .c5⟩
    ·rcases bu.mp W with rfl|W
     ·rw[16,e]
     ·exact⟨x,W,by simpa using e⟩
  refine⟨r,a,Y,?_,key,λS=> ?_⟩
  ·cases o with
   |none=>rw[16,d]
   |some s=>rfl
  ·cases o with
   |none=>rw[16,d]
   |some s=>
    have L:=h.mem s Y;by_cases A:s=r
    ·rw[A]
    ·rw[226,.fj,h.lE.mpr ⟨s,L,r,.aS,A⟩,S]
end FC
namespace FC
open Vaunih (Reach Instr handsOn handsFar checkFrom faultAt leaves takes gives localsAfter)
def arr(i:Nat)(next: .bM)(bD: .kr)(j:Nat): .ft:=(.nE (j=i) next.toList)++ .ix (bD.filter λy=>y.1==j) y.2
theorem Mn{i:Nat}{next: .bM}{bD: .kr}:arr i next bD i=next.toList++ .ix (bD.filter λy=>y.1==i) y.2:=by unfold arr;rw[.M]
theorem nT{i:Nat}{next: .bM}{bD: .kr}{j:Nat}{y:Reach}:y∈arr i next bD j↔(j=i/\next= .d3)∨(j,y)∈bD:=by
 unfold arr;rw[177,gV]
 ·rintro(h|h)
  ·left;split at h
   ·refine⟨.q7,?_⟩
    cases next with
    |none=>cases h
    |some z=>rw[Option.toList_some]at h;cases cX.mp h;rfl
   ·cases h
  ·right;obtain⟨z,hz,rfl⟩:=iC.mp h;obtain⟨h1,h2⟩:=pY.mp hz;have:z.1=j:=by simpa using h2
   rw[32,this,h1]
 ·rintro(⟨rfl,rfl⟩|h)
  ·left;rw[1,.M,pZ _]
  ·right;exact iC.mpr ⟨(j,y),pY.mpr ⟨h,by simp⟩,Y⟩
def near(c:dH)(r:Reach)(x:Instr): .bM:=match x with
 | .ret=>none
 | .skip _=>none
 |x=>some {height:=.b8- .ci+ .xZ,locals:=.GP x}
theorem Om{c:dH}{i:Nat}{next: .bM}{bD: .kr}{r:Reach}{x:Instr}{j:Nat}(D: .z<=j)(y:Reach):
  y∈arr .z (handsOn c r x) (bD++ .Ca i r x) j↔(j= .z/\near c r x= .d3)∨((j,y)∈ .Ca i r x)∨y∈arr i next bD j:=by
 rw[nT,nT,gV]
 have f:¬j=i:=by omega
 constructor
 ·rintro(⟨h1,h2⟩|h|h)
  ·cases x with
   |ret=>cases h2
   |skip n=>
    have b:(.bJ (n=0) r)= .d3:=h2
    split at b
    ·rename_i F
     cases b
     subst F
     rw[227,.inr (.inl ?_),(j,r)∈[(.z+0,({height:=.b8-0,locals:=.cp}:Reach))],h1,pZ _]
    ·cases b
   |_=>rw[14,⟨.cc⟩]
  ·rw[8,.tx h]
  ·rw[8,.oB]
 ·rintro(⟨h1,h2⟩|h|⟨h,_⟩|h)
  ·left
   refine⟨h1,?_⟩
   cases x with
   |ret=>cases h2
   |skip n=>cases h2
   |_=>exact h2
  ·rw[141,h]
  ·rw[5,h,f]
  ·rw[8,.oB]
end FC
namespace FC
open Vaunih (partsUpTo fitParts shortNumbers tellable shownAs shownValue shownValues ofList txt)
abbrev VV:=aP
def pN:VV->Nat
 | .cons a l=>pN a+pN l
 | .pair a b=>1+pN a+pN b
 |_=>1
theorem uO:∀(v:VV) (most:Nat),(.wb v<=most↔pN v<=most)/\(pN v<=most-> .wb v=pN v)
 | .num _ _,most=>⟨vt,.ec⟩
 | .truth _,most=>⟨vt,.ec⟩
 | .nil,most=>⟨vt,.ec⟩
 | .func _ _,most=>⟨vt,.ec⟩
 | .cons a l,most=>by
  rw[306,uO a most,uO l (most- .dv)]
  show((if most< .dv then .dv else .dv+ .C6 most .dv l)<=most↔pN a+pN l<=most)/\(pN a+pN l<=most->(if most< .dv then .dv else .dv+ .C6 most .dv l)=pN a+pN l)
  generalize partsUpTo most a=x at h1 h2 h3
  generalize partsUpTo (most-x) l=y at h3
  split<;>omega
 | .pair a b,most=>by
  rw[306,uO a most,uO b (most-(1+ .dv))]
  show((if most<1+ .dv then 1+ .dv else 1+ .dv+ .C6 most (1+ .dv) b)<=most↔1+pN a+pN b<=most)/\(1+pN a+pN b<=most->(if most<1+ .dv then 1+ .dv else 1+ .dv+ .C6 most (1+ .dv) b)=1+pN a+pN b)
  generalize partsUpTo most a=x at h1 h2 h3
  generalize partsUpTo (most-(1+x)) b=y at h3
  split<;>omega
def dD: .af->Nat
 |[]=>0
 |v::r=>pN v+dD r
theorem HL(l r: .af):dD (l++r)=dD l+dD r:=by
 induction l with
 |nil=>exact(iG _).symm
 |cons v l j=>rw[12,pN v+dD (l++r)=pN v+dD l+dD r]
theorem T4(l: .af):dD l.reverse=dD l:=by
 induction l with
 |nil=>rfl
 |cons v l j=>rw[282,kW,HL,dD l.reverse+(pN v+0)=pN v+dD l]
theorem E5:∀(l: .af) (most:Nat),fitParts most l= .eM (dD l) most
 |[],most=>(bC .ab).symm
 |v::r,most=>by
  obtain⟨h1,h2⟩:=uO v most
  rw[37,.eM (.wb v) most&&fitParts (most- .wb v) r,.eM (pN v+dD r) most,E5 r]
  by_cases h:pN v<=most
  ·rw[80,h2 h,bC h,jv,.AR iN]
  ·rw[.wP (h1.mp z),Co,.g2]
theorem uL:∀v:VV,1<=pN v
 | .num _ _=>.y
 | .truth _=>.y
 | .nil=>.y
 | .func _ _=>.y
 | .cons a l=>by have:=uL a;show 1<=pN a+pN l;omega
 | .pair a b=>by show 1<=1+pN a+pN b;omega
theorem HK:∀es: .af,pN .lk=1+dD es
 |[]=>rfl
 |e::es=>by show pN e+pN .lk=1+(pN e+dD es);rw[HK es];omega
theorem I_:∀es: .af,.GJ= .rf es
 |[]=>rfl
 |e::es=>.wt (.oy e .GJ) _ (I_ es)
theorem Jf:∀es: .af,.GK .lk=(es.flatMap λv=>.jp++ .C5)++[93]
 |[]=>rfl
 |e::es=>by
  rw[29,.jp++(.C3 e++ .GK .lk)=_,Jf es,fS]
  show .jp++(.mi e _)=_
  simp only[d8]
theorem Jg:∀es: .af,shownValues es=match es with|[]=>[]|e::r=>.mi e (r.flatMap λv=>.jp++ .C5)
 |[]=>rfl
 |e::r=>by
  rw[25,.mi e ((r.map shownValue).flatMap (λt=>.jp++t)),List.flatMap_map]
theorem shown_list(es: .af):shownValue .lk=[91]++shownValues es++[93]:=by
 cases es with
 |nil=>rfl
 |cons e r=>rw[29,[91]++(.C3 e++ .GK (ofList r))=_,Jf,Jg];show[91]++(.mi e _)=_;simp only[d8]
inductive Itm where
 |t (s:Vaunih.Text)
 |v (x:VV)
def wt:VV->Nat
 | .nil=>3
 | .cons a l=>wt a+1+wt l
 | .pair a b=>wt a+wt b+4
 |_=>1
def Itm.wt:Itm->Nat
 | .t _=>1
 | .v x=>FC.wt x
def Itm.text:Itm->Vaunih.Text
 | .t s=>s
 | .v x=>.d5
def Itm.parts:Itm->Nat
 | .t _=>0
 | .v x=>pN x-1
def Itm.short: .c1 Itm
 | .t _=>true
 | .v x=>.kp
def gd(l: .d4):Nat:=.rc l Itm.wt
def texts(l: .d4):Vaunih.Text:=l.flatMap Itm.text
def eh(l: .d4):Nat:=.rc l Itm.parts
def gQ(l: .d4):Bool:=l.all Itm.short
theorem yl(l r: .d4):gd (l++r)=gd l+gd r:=by unfold gd;rw[fT,Dg]
theorem u5(l r: .d4):texts (l++r)=texts l++ .ko:=by unfold texts;rw[pV]
theorem qZ(l r: .d4):eh (l++r)=eh l+eh r:=by unfold eh;rw[fT,Dg]
theorem xP(l r: .d4):gQ (l++r)=(gQ l&&gQ r):=by unfold gQ;rw[List.all_append]
def gq: .af-> .d4
 |[]=>[]
 |e::r=>.v e:: .hi [.iW,.v x]
theorem Ae(l: .af):texts (gq l)=shownValues l:=by
 rw[Jg]
 cases l with
 |nil=>rfl
 |cons e r=>
  show .mi e (texts (.hi [.iW,.v x]))= .mi e _;congr 1
  induction r with
  |nil=>rfl
  |cons y r j=>rw[fS,u5,j,fS];rw[25,(.jp++(.mi y []))++_,cC]
theorem Ad(l: .af):eh (gq l)+ .cw=dD l:=by
 rw[225,.af,eh (.hi [.iW,.v x])+ .cQ=dD r,by
  induction r with
  |nil=>rfl
  |cons y r j=>rw[fS,qZ,bp];show(0+((pN y-1)+0))+_+(_+1)=pN y+dD r;rw[23,uL y]]
 cases l with
 |nil=>rfl
 |cons e r=>show(pN e-1)+eh (.hi [.iW,.v x])+ .cv=pN e+dD r;have:=key r;rw[23,uL e]
theorem EM(l: .af):gQ (gq l)= .rf l:=by
 rw[225,.af,gQ (.hi [.iW,.v x])= .rf r,by
  induction r with
  |nil=>rfl
  |cons y r j=>rw[fS,xP,j];rw[29,((true&&(.oy y true))&& .rf r)=(.oy y (.rf r)),jv,Bool.and_true]]
 cases l with
 |nil=>rfl
 |cons e r=>rw[37,.oy e (gQ _),.oy e _,key]
theorem MX(l: .af):gd (gq l)+2< .C4 l:=by
 rw[225,.af,gd (.hi [.iW,.v x])+3= .C4 r,by
  induction r with
  |nil=>rfl
  |cons y r j=>rw[282,fS,yl,(1+(wt y+0))+_+3=wt y+1+ .C4 r]]
 cases l with
 |nil=>decide
 |cons e r=>show wt e+gd (.hi [.iW,.v x])+2<wt e+1+ .C4 r;rw[23,key r]
def gP:VV-> .d4
 | .pair a b=>[.t [40],.v a,.iW,.v b,.t [41]]
 |l=>[.um]++gq l.list++[.ul]
def m8:VV->Nat
 | .pair _ _=>2
 |l=>.FL
theorem TY{es: .af}:texts ([.um]++gq es++[.ul])=shownValue .lk/\es.length+eh ([.um]++gq es++[.ul])=pN .lk-1/\gQ ([.um]++gq es++[.ul])= .GJ/\gd ([.um]++gq es++[.ul])<wt .lk:=by
 refine⟨.tU⟩
 ·rw[u5,u5,Ae,shown_list];rfl
 ·rw[qZ,qZ,HK];rw[100,Ad es,es.length+(0+eh (gq es)+0)=1+dD es-1]
 ·rw[xP,xP,EM,I_];rw[29,((true&& .rf es)&&true)= .rf es,jv,Bool.and_true]
 ·rw[yl,yl];rw[100,MX es,1+gd (gq es)+1<_]
theorem TZ{a b:VV}:texts (gP .cG)=shownValue .cG/\2+eh (gP .cG)=pN .cG-1/\gQ (gP .cG)=shortNumbers .cG/\gd (gP .cG)<wt .cG:=by
 refine⟨.tU⟩
 ·show[40]++(.mi a (.jp++(.mi b ([41]++[]))))=40::(.C3 a++(.jp++(.C3 b++[41])));rfl
 ·have:=uL a;rw[100,uL b,2+(0+((pN a-1)+(0+((pN b-1)+(0+0)))))=1+pN a+pN b-1]
 ·show(true&&(.oy a (true&&(.oy b (true&&true)))))=(.oy a (shortNumbers b));simp
 ·rw[12,1+(wt a+(1+(wt b+(1+0))))<wt a+wt b+4]
def fits(len pt:Nat)(l: .d4):Prop:=.xV len (texts l)/\pt+eh l<=2000/\ .c (gQ l)
instance (len pt:Nat) (l: .d4):Decidable (.uk pt l):=by unfold fits;infer_instance
theorem JU(l: .af): .iV l↔dD l<=2000/\ .gO l .Ec:=by unfold tellable;rw[E5,bU,cR];rfl
end FC
namespace FC
open Vaunih (Instr Op Hand Over Machine instruct takes work give callWith advance steps longest)
def wb: .ap .aW
 | .block _ _ _ _ _::_=>True
 | .fold _ _ _ _ (.result _)::_=>True
 | .fold _ _ _ _ (.both _ _)::_=>True
 |_=>.bU
def pj(v:aP):Prop:=∀b kept,v= .lz b->kept.list.length<=60
inductive Kinds(c:aX)(m:Machine)(below: .aW)(b i d:Nat)(ls ws: .Q): .ap .Et
 |err (k:Nat): .l1 .Ab
 |move (i':Nat) (ls' ws': .Q) (h1:i<=i') (h2:i'<=i+999) (h3:ls'.length<= .cf+2) (h4:ws'.length<= .eT): .BS (.pp i' ls' ws' d:: .P)
 |call (l:Nat) (f a:aP) (ws': .Q) (hf:f∈ws) (hw:ws'.length+2<= .ah): .l1 (callWith c m (.mO i ws':: .P) d l f a)
 |fold (l:Nat) (f z:aP) (left ws': .Q) (hl:l<=999) (hw:ws'.length+2<= .ah): .BS (.p9 .zK:: .mO i ws':: .P)
 |ret (v:aP): .l1 (.ok (.uc v m))
section
variable{c:aX}{m:Machine}{below: .aW}{b i d:Nat}{ls ws: .Q}
theorem kinds(x:Instr)(ok:pS x): .l1 (instruct c m .P b i ls ws d x):=by
 have C:∀{w X: .Q},.K w (.cf+2)-> .K X .eT-> .BS (.pp i w X d:: .P):=λh3 h4=>.move i _ _ .y (by omega) h3 h4;have mk:∀{k:Nat} {w X: .Q},k<=999-> .K w (.cf+2)-> .K X .eT-> .BS (.pp (i+k) w X d:: .P):=λh h3 h4=>.move _ _ _ (by omega) (by omega) h3 h4;have s: .K ls (.cf+2):=by omega
 have w1:∀v:aP,.K (v::ws) .eT:=λv=>.y;have hi:=ok.hi
 cases x with
 |num q v=>exact C s (w1 _)
 |truth q=>exact C s (w1 _)
 |nil=>exact C s (w1 _)
 |get j=>
  show .l1 (.Ew _)
  cases ls[j]? with
  |none=>rw[11]
  |some v=>exact C s (w1 _)
 |bind=>
  rcases ws with _|⟨a,ws⟩
  ·rw[11]
  ·rw[74,.wJ (_+1<=_),.ah<= .hh]
 |free k=>
  show .l1 (.jI (.cf<k) _);split
  ·rw[11]
  ·exact C .A5 (by omega)
 |fn k=>
  show .l1 (.BR _)
  cases c[k]? with
  |none=>rw[11]
  |some d_=>
   show .l1 (.jI (.ah<d_.kept) _);split
   ·rw[11]
   ·exact C s (by rw[bp,kU];omega)
 |call l=>
  rcases ws with _|⟨a,_|⟨f,ws⟩⟩
  ·rw[11]
  ·rw[11]
  ·exact .call l f a ws (by simp) (by simp)
 |fold l=>
  rcases ws with _|⟨a,_|⟨f,_|⟨g,ws⟩⟩⟩
  ·rw[11]
  ·rw[11]
  ·rw[11]
  ·show Kinds c m .P b i d ls _ (.Eo a _);split
   ·exact .fold l g f _ ws (.BQ (l:Int) hi) (by simp)
   ·rw[11]
 |ret=>
  rcases ws with _|⟨a,ws⟩
  ·rw[11]
  ·exact .ret a
 |skip k=>exact mk (.BQ .bq hi) s (by omega)
 |«unless» k=>
  rcases ws with _|⟨a,ws⟩
  ·rw[11]
  ·have G:k<=999:=.BQ .bq hi
   cases a with
   |truth t=>cases t with
    |true=>rw[74,s,.ah<= .hh]
    |false=>exact mk G s (.BO .ah .hh)
   |_=>rw[11]
 |part k=>
  rcases ws with _|⟨a,ws⟩
  ·rw[11]
  ·have G:k<=999:=.BQ .bq hi
   cases a with
   |nil=>exact mk G s (.BO .ah .hh)
   |cons y l=>rw[74,.wJ (_+2<=_),.ah<= .hh]
   |_=>rw[11]
 |pair=>
  rcases ws with _|⟨a,_|⟨f,ws⟩⟩
  ·rw[11]
  ·rw[11]
  ·rw[74,s,.eT<= .hh+1]
 |fst=>
  rcases ws with _|⟨a,ws⟩
  ·rw[11]
  ·cases a with
   |pair y z=>rw[74,s,.eT<= .hh]
   |_=>rw[11]
 |snd=>
  rcases ws with _|⟨a,ws⟩
  ·rw[11]
  ·cases a with
   |pair y z=>rw[74,s,.eT<= .hh]
   |_=>rw[11]
 |cons=>
  rcases ws with _|⟨a,_|⟨f,ws⟩⟩
  ·rw[11]
  ·rw[11]
  ·show Kinds c m .P b i d ls _ (.Eo a _);split
   ·rw[74,s,.eT<= .hh+1]
   ·rw[11]
 |op o=>
  rcases ws with _|⟨y,_|⟨z,ws⟩⟩
  ·rw[11]
  ·rw[11]
  ·cases z with
   |num p v=>cases y with
    |num q u=>
     show Kinds c m .P b i d ls _ (match Vaunih.operate o p v q u with| .ok r=>_| .error k=>_)
     cases Vaunih.operate o p v q u with
     |ok r=>rw[74,s,.eT<= .hh+1]
     |error k=>rw[11]
    |_=>rw[11]
   |_=>rw[11]
 |pow k=>
  rcases ws with _|⟨a,ws⟩
  ·rw[11]
  ·cases a with
   |num p v=>
    show Kinds c m .P b i d ls _ (match Vaunih.power p v k with| .ok r=>_| .error k=>_)
    cases Vaunih.power p v k with
    |ok r=>rw[74,s,.eT<= .hh]
    |error k=>rw[11]
   |_=>rw[11]
 |root=>
  rcases ws with _|⟨a,ws⟩
  ·rw[11]
  ·cases a with
   |num p v=>
    show Kinds c m .P b i d ls _ (match Vaunih.rootOf p with|some q=>_|none=>_)
    cases Vaunih.rootOf p with
    |some q=>rw[74,s,.eT<= .hh]
    |none=>rw[11]
   |_=>rw[11]
end
theorem wH{v:aP}{m:Machine}{below: .aW}(h: .Ez .a g):pR (.uc v m).frames/\((.uc v m).over=none->wb (.uc v m).frames):=by
 rcases below with _|⟨f,r⟩
 ·exact⟨.bo,.rd⟩
 ·have N:=h f .aS;have M:∀g∈r,nF .a g:=λg y=>.k1 g y
  cases f with
  |block b i ls ws d=>exact⟨⟨⟨N.1,N.2.1,.bA N⟩,M⟩,.q0⟩
  |fold f left l d hand=>cases hand<;>exact⟨⟨N,M⟩,.q0⟩
theorem Ew{c:aX}{m M:Machine}{below: .aW}{depth j:Nat}{f a:aP}(N:pj f)(S: .Ez .a g)(h:callWith c m .P depth j f a= .ok M):
  pR M.frames/\wb M.frames/\M.over= .fW/\∃b ls d,M.calls+1= .eg/\M.frames= .mO 0 []:: .P:=by
 cases f with
 |func b kept=>
  have G:=N b kept Y
  rw[134,(if .zV<depth+j then Except.error 5 else .sD .eg (.error 4) (.ok {m with calls:=.eg-1,frames:=.pp 0 (kept.list++((.nE ((.wc c b x.self)= .pW) [.lz b])++[a])) [] (depth+j):: .P}))= .BP]
  split at h'
  ·cases h'
  ·split at h'
   ·cases h'
   ·rename_i h1 h2
    cases h'
    refine⟨⟨⟨by omega,.y,?_,vN h1⟩,S⟩,.bo,rfl,b,_,_,.Eu (.eg-1+1) .eg,Y⟩
    rw[bL,bL]
    show _+(_+1)<=62+2*0
    split
    ·rw[36,_+(1+1)]
    ·rw[36,_+(0+1)]
 |_=>cases h
def Al(n:Nat):cx->Nat
 | .block _ i _ _ _=>2*(n-i)+1
 | .fold _ _ _ _ _=>1
def hR(n:Nat)(fs: .aW):Nat:=.rc fs (Al n)
def eT(n:Nat)(m:Machine):Nat:=.eg*(2*n+2)+hR n .lB
theorem oF{n:Nat}{f:cx}{r: .aW}:hR n (f::r)=Al n f+hR n r:=rfl
theorem Fp{n:Nat}{v:aP}{m:Machine}{below: .aW}:eT n (.uc v m)= .eg*(2*n+2)+ .mf n:=by
 rcases below with _|⟨f,r⟩
 ·rfl
 ·cases f with
  |block b i ls ws d=>rfl
  |fold f left l d hand=>cases hand<;>rfl
theorem Qn{c:aX}{b:Nat}{x:cM}(h:c[b]? = .aa): .GD<= .ef:=by
 have mono:∀(l:aX) (n:Nat),n<= .u9 l (.GE (n< .ak) .ak n):=by
  intro l
  induction l with
  |nil=>intro n;exact .y
  |cons y l j=>intro n;rw[9,zc,cn ?_ (j _)];split<;>omega
 have:∀(l:aX) (n:Nat),x∈l-> .GD<= .u9 l (.GE (n< .ak) .ak n):=by
  intro l
  induction l with
  |nil=>intro n h;cases h
  |cons y l j=>
   intro n h;rw[zc];rcases bu.mp h with rfl|h
   ·refine cn ?_ (mono _ _);split<;>omega
   ·exact j _ h
 exact this c 0 (lO h)
structure j8(m:Machine):Prop where
 fs:pR .lB
 top: .fW=none->wb .lB
def sI(c:aX):Prop:=∀(b:Nat) (x:cM),c[b]? = .aa-> .GD<=300/\∀(i:Nat) (y:Instr),.a1 .ly= .d3->pS y
def v9: .ap .aW
 | .block _ _ _ ws _::_=>∀v∈ws,pj v
 | .fold f _ _ _ h::_=>pj f/\∀g x,h= .both g x->pj g
 |[]=>True
theorem Cc{c:aX}{m M:Machine}(B:sI c)(ok:j8 m)(D: .fW=none)(L:v9 .lB)(h:work c m= .ok M):j8 M/\ .f8 M< .f8 m:=by
 obtain⟨frames,calls,over⟩:=m;dsimp only at D L;subst D;have top:wb frames:=ok.top Y;have fs:pR frames:=ok.fs;rcases frames with _|⟨f,below⟩
 ·rw[132]
 obtain⟨N,S⟩:=fs
 cases f with
 |block b i ls ws d=>
  have U:(match (c[b]?).bind λx=>x.code[i]? with|none=>Except.error 7|some x=>instruct c ⟨.pL i:: .P,.ud⟩ .P b .z ls ws d x)= .BP:=h
  cases e:((c[b]?).bind λx=>x.code[i]?)with
  |none=>rw[e]at U;cases U
  |some x=>
   rw[e]at U;replace U:instruct c ⟨.pL i:: .P,.ud⟩ .P b .z ls ws d x= .BP:=U;obtain⟨d_,W,ex⟩:=zC.mp e;obtain⟨R,o⟩:=B b d_ W;rw[162,ex];have H:=Qn W;have K:=kinds (c:=c) (m:=⟨.pL i:: .P,.ud⟩) (below:=.P) (b:=b) (i:=.z) (d:=d) (ls:=ls) (ws:=ws) x (o i x ex);rw[U]at K;obtain⟨o1,C,o3,q⟩:=N;have A: .ah<=i:=C;generalize p:Except.ok M=r at K
   cases K with
   |err k=>cases p
   |move G w X h1 h2 h3 h4=>
    cases p;refine⟨⟨⟨⟨.GC,q⟩,S⟩,.q0⟩,?_⟩
    ·rw[12,X.length+0<=G]
    ·rw[12,.em*_+(2*(.ef-G)+1+ .mf _)< .em*_+(2*(.ef-i)+1+ .mf _)]
   |call l f a X N t=>
    have:=Ew (L f N) (λg y=> ?_) p.symm
    ·obtain⟨P,Q,k3,j,w,d',T,V⟩:=this;refine⟨⟨P,λ_=>Q⟩,?_⟩;unfold eT;rw[V,oF,oF,oF];rw[303,.em* .hg=M.calls* .hg+ .hg,show .em=M.calls+1 from T.symm,Nat.succ_mul]
     rw[12,_+(2*(.ef-0)+1+(2*(.ef- .z)+1+_))< .em* .hg+(2*(.ef-i)+1+_)]
    ·rcases bu.mp y with rfl|y
     ·refine⟨.GC,q⟩;rw[12,.aG X<= .z]
     ·exact S g y
   |fold l f z left X s t=>
    cases p;refine⟨⟨⟨⟨s,q⟩,λg y=> ?_⟩,.q0⟩,?_⟩
    ·rcases bu.mp y with rfl|y
     ·refine⟨.GC,q⟩;rw[12,.aG X<= .z]
     ·exact S g y
    ·rw[12,.em*_+(1+(2*(.ef- .z)+1+ .mf _))< .em*_+(2*(.ef-i)+1+ .mf _)]
   |ret v=>cases p;rw[304,⟨⟨(wH S).1,(wH S).2⟩,?_⟩,Fp,.em*_+ .mf _< .em*_+(2*(.ef-i)+1+ .mf _)]
 |fold f left l d hand=>
  have n:∀(l': .Q) (hd:Hand),∀g∈(Vaunih.Frame.fold f l' l d hd:: .P: .aW),nF .a g:=by
   intro l' hd g y;rcases bu.mp y with rfl|y
   ·exact N
   ·exact S g y
  have cl:∀{l': .Q} {hd:Hand} {u a:aP},pj u->callWith c ⟨.zL:: .P,.ud⟩ (.fold f l' l d hd:: .P) d l u a= .ok M->j8 M/\ .f8 M< .f8 ⟨.zL:: .P,.ud⟩:=by
   intro l' hd u a I E;obtain⟨P,Q,k3,j,w,d',T,V⟩:=Ew I (n l' hd) E;refine⟨⟨P,λ_=>Q⟩,?_⟩;unfold eT;rw[V,oF,oF,oF];rw[303,.em* .hg=M.calls* .hg+ .hg,show .em=M.calls+1 from T.symm,Nat.succ_mul]
   rw[12,_+(2*(.ef-0)+1+(1+_))< .em* .hg+(1+_)]
  cases hand with
  |element x=>rw[132]
  |nothing=>rw[132]
  |both g x=>exact cl (l':=left) (hd:=.nothing) (L.2 g x Y) h
  |result z=>
   cases left with
   |nil=>rw[134,Except.ok (.uc z ⟨.fold f [] l d .zK:: .P,.ud⟩)= .BP];cases h';rw[304,⟨⟨(wH S).1,(wH S).2⟩,?_⟩,Fp,.em*_+ .mf _< .em*_+(1+ .mf _)]
   |cons x r=>exact cl L.1 h
end FC
namespace FC
open Vaunih (pastBlanks atomSign atomValue valueAt valuesAt inputsOf ofList)
abbrev T8:=Vaunih.Text
def d5(c:UInt8):Bool:=c==91||c==93||c==40||c==41||c==44
def ee(w:T8): .uf:=.ra w [] [w]
def bV:T8->T8-> .uf
 |w,[]=>.cF
 |w,c::r=>.kn c (.cF++ .iU) (.aq (d5 c) (.cF++[c]:: .iU) (bV (w++[c]) r))
abbrev Ent:=UInt8× .af
structure IS where
 cH: .mg
 want:Bool
def D9(v:VV): .mg-> .mg
 |[]=>[]
 |(m,vs)::r=>(m,vs++[v])::r
def dJ(m:UInt8)(s:IS): .mh .af IS:=match s.cH with
 |[]=>none
 |(k,vs)::r=>.bJ (k=m/\(.ox= .a∨vs=[])) (vs,⟨r,true⟩)
def kO(v:VV)(s:IS): .xU:=.bJ (.c .ox) ⟨D9 v s.cH,.a⟩
def ki(m:UInt8)(s:IS): .xU:=.bJ (.c .ox/\ .C2 s) ⟨(m,[])::s.cH,.ox⟩
def uN: .fd (.af×IS) IS
 |([a,b],s)=>kO .cG s
 |_=>none
def stepI(t:T8)(s:IS): .xU:=
 if t=[91]then ki 91 s
 else if t=[40]then ki 40 s
 else if t=[93]then .w2 91 s λx=>kO (ofList x.1) x.2
 else if t=[41]then .w2 40 s uN
 else if t=[44]then(.bJ (.ox= .a) ⟨s.cH,true⟩)
 else .GI t λv=>kO v s
def BA: .uf-> .fd IS IS
 |[],s=>some s
 |t::r,s=>(stepI t s).bind (BA r)
def fY(l: .uf)(s:IS):Option .af:=(BA l s).bind λs=>.fF (dJ 0 s) x.1
theorem Oi{s:IS}:fY [] s= .fF (dJ 0 s) x.1:=rfl
theorem jN{t:T8}{l: .uf}{s:IS}:fY (t::l) s=(stepI t s).bind (fY l):=by show(((stepI t s).bind (BA l)).bind _)=_;cases stepI t s<;>rfl
theorem uo:∀t:T8,.gq t= .gq .gb
 |[]=>rfl
 |c::r=>by
  unfold pastBlanks
  rw[vD]
  by_cases h:c=32
  ·subst h
   show .gq (32::r)= .gq (pastBlanks r)
   rw[<-uo r]
   rfl
  ·rw[aa (by simpa using h)]
theorem Bc:∀t:T8,.K .gb .C:=λt=>by exact(La _).length_le
theorem Bb{t r:T8}{c:UInt8}(h: .gb=c::r): .he:=by
 induction t with
 |nil=>cases h
 |cons a l j=>
  unfold pastBlanks at h;rw[vD]at h;by_cases N: .c (a==32)
  ·rw[41,af N,j h]
  ·rw[3,aa N];simpa using N
theorem T6(t:T8):pastBlanks .gb= .gb:=by
 cases h:pastBlanks t with
 |nil=>rfl
 |cons c r=>have:=Bb h;unfold pastBlanks;rw[vD,aa (by simpa using this)]
theorem lx{c:UInt8}{r:T8}(h: .ue c): .gq (c::r)=[c]:: .iU:=by
 have h2: .he:=by rintro rfl;cases h
 rw[95,(.kn c _ (.aq (d5 c) _ _))=_,aa h2,af h]
theorem sY{c:UInt8}: .C1 c↔ .he/\d5 c= .a:=by
 unfold atomSign d5;simp only[Bool.not_eq_true',pM,lg];constructor
 ·rintro⟨⟨⟨⟨⟨a,b⟩,c⟩,d⟩,e⟩,f⟩;exact⟨a,⟨⟨⟨c,d⟩,e⟩,f⟩,b⟩
 ·rintro⟨a,⟨⟨⟨c,d⟩,e⟩,f⟩,b⟩;exact⟨⟨⟨⟨⟨a,b⟩,c⟩,d⟩,e⟩,f⟩
theorem Gz:∀(r w:T8),.aY w->bV w r=(w++ .ui r):: .gq (.BY r)
 |[],w,U=>by
  have: .cF=[w]:=by cases w with|nil=>exact .BL U|cons=>rfl
  rw[25,.cF,this]
  rw[96,[w],[w++[]]]
 |c::r,w,U=>by
  have g: .cF=[w]:=by cases w with|nil=>exact .BL U|cons=>rfl
  rw[vI,vD]
  by_cases N: .C1 c
  ·obtain⟨h1,h2⟩:=sY.mp N
   rw[af N,af N]
   show(.kn c _ (.aq (d5 c) _ (bV (w++[c]) r)))=_
   rw[aa h1,.l4 h2,Gz r (w++[c]) (by simp),d8]
   rfl
  ·rw[aa N,aa N,cC]
   rw[25,.kn c (.cF++ .iU) (.aq (d5 c) (.cF++[c]:: .iU) (bV (w++[c]) r)),g]
   by_cases h1:c=32
   ·subst h1
    rfl
   ·have h2: .ue c:=by
     cases j:d5 c with
     |true=>rfl
     |false=>rw[5,sY.mpr ⟨h1,j⟩,N]
    rw[aa h1,af h2,lx h2]
    rfl
theorem Gy{c:UInt8}{r:T8}(h: .C1 c): .gq (c::r)=(.ui (c::r)):: .gq (.BY (c::r)):=by obtain⟨h1,h2⟩:=sY.mp h;rw[vI,vD,af h,af h];show(.kn c _ (.aq (d5 c) _ (bV ([]++[c]) r)))=_;rw[aa h1,.l4 h2,jC,Gz r [c] (by simp)];rfl
theorem JH{c:UInt8}{l:T8}{s:IS}(h: .C1 c):stepI (c::l) s= .GI (c::l) λv=>kO v s:=by
 have key:∀k:UInt8,atomSign k= .a->(c::l)≠[k]:=λk G e=>by cases e;rw[h]at G;cases G
 unfold stepI;rw[.xT 91 Y,.xT 40 Y,.xT 93 Y,.xT 41 Y,.xT 44 Y]
theorem Ed:atomValue []=none:=by decide+kernel
theorem AR{m:UInt8}{us: .af}{r: .mg}{s:T8}(L:pastBlanks s=s)(i:∀q,s≠44::q)(k:m=91->∀q,s≠93::q)(a:m=40->∀q,s≠41::q)(F:m=0-> .aY s): .fr s ⟨(m,us)::r,.a⟩=none:=by
 cases s with
 |nil=>rw[175,(dJ 0 ⟨(m,us)::r,.a⟩).map _=none,.dj (F z.1 Y)];rfl
 |cons c q=>
  have B:=Bb L
  cases N:atomSign c with
  |true=>rw[Gy N,jN];have e:∃l,.ui (c::q)=c::l:=⟨_,by rw[vI,af N]⟩;obtain⟨l,e⟩:=e;rw[e,JH N];cases atomValue (c::l)<;>rfl
  |false=>
   have j: .ue c:=by
    cases j:d5 c with
    |true=>rfl
    |false=>rw[sY.mpr ⟨B,j⟩]at N;cases N
   rw[lx j,jN];have cs:c=91∨c=93∨c=40∨c=41∨c=44:=by unfold d5 at j;simp only[lG,kg]at j;rcases j with(((h|h)|h)|h)|h<;>simp[h]
   rcases cs with rfl|rfl|rfl|rfl|rfl
   ·rfl
   ·have f:=λz=>k z q Y;rw[175,.BX 91 ⟨(m,us)::r,.a⟩ _ _=none,.dj (f z.1)];rfl
   ·rfl
   ·have f:=λz=>a z q Y;rw[175,.BX 40 ⟨(m,us)::r,.a⟩ _ _=none,.dj (f z.1)];rfl
   ·rw[16,i q]
def G9(m:UInt8)(us: .af)(s:T8):Prop:=.aY us∨((s=[]-> .iB)/\∀q,s=93::q->m≠91)
def zN(n:Nat):Prop:=∀(d:Nat) (t:T8) (m:UInt8) (us: .af) (r: .mg),2* .C+1<=n-> .cv+d=41->G9 m us .gb-> .GG (.re n t= .ar v rest-> .ic<= .C/\ .fr t ⟨.fs⟩= .fr rest ⟨(m,us++[v])::r,.a⟩) (.re n t=none-> .fr t ⟨.fs⟩=none)
def we(n:Nat):Prop:=∀(d:Nat) (t:T8) (m:UInt8) (us: .af) (r: .mg),2* .C+2<=n-> .cv+d=41->G9 m us .gb->(∀vs rest,.ow d t= .ar vs rest-> .ic<= .C/\ .GH=rest/\(∀q,rest≠44::q)/\ .fr t ⟨.fs⟩= .fr rest ⟨(m,us++vs)::r,.a⟩)/\(.ow d t=none-> .fr t ⟨.fs⟩=none)
def pD(n d:Nat)(r:T8): .mh VV T8:=match pastBlanks r with
 |93::s=>.ar .nil s
 |_=>.sO (.ow (d-1) r) (match x.2 with
  |93::s=>.C0 x.1 s
  |_=>none)
def yd(n d:Nat)(r:T8): .mh VV T8:=.sO (.ow (d-1) r) (match x.1,x.2 with
 |[a,b],41::s=>.ar .cG s
 |_,_=>none)
def J7(s:T8): .mh VV T8:=(atomValue (.ui s)).map λv=>(v,.BY s)
theorem YM{n d:Nat}{t:T8}(h: .gb=[]): .re (n+1) t=none:=by rw[valueAt,h];show(atomValue []).map _=none;rw[Ed];rfl
theorem YL{n d:Nat}{t r:T8}(h: .gb=91::r): .re (n+1) t= .zt d (pD n d r):=.EU valueAt
theorem YN{n d:Nat}{t r:T8}(h: .gb=40::r): .re (n+1) t= .zt d (yd n d r):=.EU valueAt
theorem YK{n d:Nat}{t s:T8}(h: .gb=s)(h1:∀r,s≠91::r)(h2:∀r,s≠40::r): .re (n+1) t=J7 s:=by
 rw[valueAt,h];split
 ·rw[16,h1 _]
 ·rw[16,h2 _]
 ·rfl
def uD(n d:Nat)(v:VV)(s:T8): .mh .af T8:=match s with
 |44::r=>.ix (.ow d r) (v::y.1,y.2)
 |s=>.ar [v] s
theorem QL{n d:Nat}{v:VV}{s:T8}(h:∀q,s≠44::q):uD n d v s= .ar [v] s:=by
 unfold uD;split
 ·rw[16,h _]
 ·rfl
theorem YO{n d:Nat}{t:T8}:valuesAt (n+1) d t= .sO (.re n t) (uD n d x.1 (pastBlanks x.2)):=by rw[valuesAt];rfl
theorem QE{c:UInt8}(h: .ue c):c=91∨c=93∨c=40∨c=41∨c=44:=by unfold d5 at h;simp only[lG,kg]at h;rcases h with(((h|h)|h)|h)|h<;>simp[h]
theorem Er{m k:UInt8}{us: .af}{r: .mg}{d:Nat}(hd: .cv+d=41):ki k ⟨.fs⟩= .zt d (some ⟨(k,[])::(m,us)::r,true⟩):=by
 unfold ki;rw[78,bp];by_cases h:d=0
 ·rw[af h,.dj (by omega)]
 ·rw[.dP,af ⟨Y,by omega⟩]
theorem L6{n:Nat}(V:zN n)(W:we n):we (n+1):=by
 intro d t m us r G hd P;obtain⟨v1,f⟩:=V d t m us r (by omega) hd P;rw[YO]
 cases D:valueAt n d t with
 |none=>exact⟨.uh (f D)⟩
 |some x=>
  obtain⟨v,rest⟩:=x;obtain⟨R,o⟩:=v1 v rest D;show(∀vs g,uD n d v .GH= .ar vs g->_)/\(uD n d v .GH=none->_);have l:=Bc rest;rw[o,uo rest];have j:=T6 rest;generalize pastBlanks rest=s at l j;by_cases i:∃q,s=44::q
  ·obtain⟨q,rfl⟩:=i;show(∀vs g,(.ix (.ow d q) (v::y.1,y.2))= .ar vs g->_)/\((.ix (.ow d q) (v::y.1,y.2))=none->_);rw[bp]at l;obtain⟨w1,w2⟩:=W d q m (us++[v]) r (by omega) hd (.inl (by simp));have T: .fr (44::q) ⟨(m,us++[v])::r,.a⟩= .fr q ⟨(m,us++[v])::r,true⟩:=by rw[lx Y,jN];rfl
   rw[T]
   cases U:valuesAt n d q with
   |none=>exact⟨.uh (w2 U)⟩
   |some y=>obtain⟨ys,h⟩:=y;obtain⟨a,b,c,e⟩:=w1 ys h U;rw[176,⟨λvs g z=> ?_,.du⟩];refine⟨by show .K h _;omega,b,c,?_⟩;rw[24,e,d8]
  ·have k:∀q,s≠44::q:=λq z=>i ⟨q,z⟩;rw[9,QL k,⟨λvs g z=> ?_,.du⟩];cases z;exact⟨by omega,j,k,Y⟩
theorem L5{n:Nat}(W:we n):zN (n+1):=by
 intro d t m us r G hd P;have D:=Bc t;have H:∀c q,.gb=c::q-> .he:=λc q=>Bb;rw[uo t]
 cases hp:pastBlanks t with
 |nil=>
  rw[9,YM hp,⟨.uh ?_⟩];rw[175,(dJ 0 ⟨.fs⟩).map _=none,aa]
  ·rfl
  ·rintro⟨z1,z2|z2⟩
   ·cases z2
   ·rcases P with h|h
    ·exact h z2
    ·exact h.1 hp z1
 |cons c q=>
  rw[hp,bp]at D;by_cases u:c=91
  ·subst u;rw[YL hp,lx Y,jN];show _/\(_->(ki 91 ⟨.fs⟩).bind _=none);rw[140,stepI [91] ⟨.fs⟩=ki 91 ⟨.fs⟩];rw[es,Er hd];rw[136,d]
   ·rw[13,af F,af F,⟨.uj⟩]
   ·rw[aa F,aa F];show .GG (pD n d q= .ar v rest-> .ic<= .C/\ .fr q ⟨(91,[])::(m,us)::r,true⟩=_) (pD n d q=none-> .fr q ⟨(91,[])::(m,us)::r,true⟩=none);have C:=Bc q;by_cases k:∃s,pastBlanks q=93::s
    ·obtain⟨s,L⟩:=k;have S:pD n d q= .ar .nil s:=by unfold pD;rw[L];rfl
     rw[S];rw[L,bp]at C;rw[176,⟨λv rest z=> ?_,.du⟩];refine⟨.pr⟩;rw[uo q,L,lx Y,jN];rfl
    ·have f:∀s,pastBlanks q≠93::s:=λs z=>k ⟨s,z⟩
     have S:pD n d q= .sO (.ow (d-1) q) (match x.2 with|93::s=>.C0 x.1 s|_=>none):=by
      unfold pD;split
      ·rw[5,by assumption,f _]
      ·rfl
     rw[S];obtain⟨w1,w2⟩:=W (d-1) q 91 [] ((m,us)::r) (by omega) .o4 (.inr ⟨λ_=>by decide,λs z=>.qw (f s)⟩)
     cases U:valuesAt n (d-1) q with
     |none=>exact⟨.uh (w2 U)⟩
     |some y=>
      rw[305,w1 vs rest U];rw[jC]at e;rw[e];show(∀v g,(match rest with|93::s=>.C0 vs s|_=>none)= .ar v g->_)/\((match rest with|93::s=>.C0 vs s|_=>none)=none->_);by_cases M:∃s,rest=93::s
      ·obtain⟨s,rfl⟩:=M;rw[bp]at a;rw[176,⟨.BZ,.du⟩];refine⟨.pr⟩;rw[24,lx Y,jN]
      ·have i:∀s,rest≠93::s:=λs z=>M ⟨s,z⟩;refine⟨.BZ,λ_=>AR b c (λ_=>i) .rd .rd⟩;split at z
       ·rw[16,i _]
       ·cases z
  by_cases w:c=40
  ·subst w;rw[YN hp,lx Y,jN];rw[140,stepI [40] ⟨.fs⟩=ki 40 ⟨.fs⟩];rw[es,Er hd];rw[136,d]
   ·rw[13,af F,af F,⟨.uj⟩]
   ·rw[aa F,aa F];show .GG (yd n d q= .ar v rest-> .ic<= .C/\ .fr q ⟨(40,[])::(m,us)::r,true⟩=_) (yd n d q=none-> .fr q ⟨(40,[])::(m,us)::r,true⟩=none);unfold yd;obtain⟨w1,w2⟩:=W (d-1) q 40 [] ((m,us)::r) (by omega) .o4 (.inr ⟨λ_=>by decide,λs z=>by decide⟩)
    cases U:valuesAt n (d-1) q with
    |none=>exact⟨.uh (w2 U)⟩
    |some y=>
     rw[305,w1 vs rest U];rw[jC]at e;rw[e];show(∀v g,(match vs,rest with|[a,b],41::s=>.ar (Vaunih.Value.pair a b) s|_,_=>none)= .ar v g->_)/\((match vs,rest with|[a,b],41::s=>.ar (Vaunih.Value.pair a b) s|_,_=>none)=none->_);by_cases M:∃s,rest=41::s
     ·obtain⟨s,rfl⟩:=M;rw[bp]at a;rw[lx Y,jN];rw[140,stepI [41] ⟨(40,vs)::(m,us)::r,.a⟩=uN (vs,⟨.fs⟩)];rw[es]
      match vs with
      |[]=>exact⟨.uj⟩
      |[_]=>exact⟨.uj⟩
      |[B,o]=>rw[176,⟨.BZ,.du⟩];exact⟨.it⟩
      |_::_::_::_=>exact⟨.uj⟩
     ·have i:∀s,rest≠41::s:=λs z=>M ⟨s,z⟩;refine⟨.BZ,λ_=>AR b c .rd (λ_=>i) .rd⟩;split at z
      ·rw[16,i _]
      ·cases z
  rw[YK hp (λr z=>by cases z;exact u Y) (λr z=>by cases z;exact w Y)];unfold J7
  cases N:atomSign c with
  |true=>
   rw[Gy N,jN];have A: .K (.BY (c::q)) (.io c q):=(La _).length_le;rw[bp]at A;obtain⟨l,e⟩:∃l,.ui (c::q)=c::l:=⟨_,by rw[vI,af N]⟩;rw[e,JH N]
   cases atomValue (c::l)with
   |none=>exact⟨.uj⟩
   |some v=>rw[176,⟨λp rest z=> ?_,.du⟩];exact⟨.it⟩
  |false=>
   have E: .ui (c::q)=[]:=by rw[vI,.l4 N]
   rw[E,Ed];refine⟨.uh ?_⟩
   have j: .ue c:=by
    cases j:d5 c with
    |true=>rfl
    |false=>rw[sY.mpr ⟨H c q hp,j⟩]at N;cases N
   rw[lx j,jN];rcases QE j with rfl|rfl|rfl|rfl|rfl
   ·rw[16,u]
   ·rw[175,.BX 91 ⟨.fs⟩ _ _=none,aa]
    ·rfl
    ·rintro⟨z1,z2|z2⟩
     ·cases z2
     ·rcases P with h|h
      ·exact h z2
      ·exact h.2 q hp z1
   ·rw[16,w]
   ·show .BX 40 ⟨.fs⟩ uN _=none;unfold dJ;dsimp only;by_cases hz:m=40/\(true= .a∨us=[])
    ·rw[af hz];rcases hz.2 with h|h
     ·cases h
     ·subst h;rfl
    ·rw[19,aa hz]
   ·rfl
theorem VW:∀n,zN n/\we n
 |0=>⟨λd t m us r h=>.BW (by omega),λd t m us r h=>.BW (by omega)⟩
 |n+1=>⟨L5 (VW n).2,L6 (VW n).1 (VW n).2⟩
theorem OL{t:T8}(h: .C<=4000): .BV= .fr t ⟨[(0,[])],true⟩:=by
 unfold inputsOf;rw[aa (by show¬4000< .C;omega)];by_cases hp: .gb=[]
 ·rw[af (by rw[hp];rfl),uo,hp];rfl
 ·rw[aa (by intro z;exact hp (List.isEmpty_iff.mp z))];obtain⟨w1,w2⟩:=(VW (2* .C+2)).2 40 t 0 [] [] .y Y (.inr ⟨.pT z hp,λ_ _=>by decide⟩);show(valuesAt (2* .C+2) 40 t).bind _=_
  cases U:valuesAt (2*t.length+2) 40 t with
  |none=>rw[19,w2 U]
  |some y=>
   rw[305,w1 vs rest U];rw[e];show(.bJ (.c rest.isEmpty) vs)=_
   cases rest with
   |nil=>rfl
   |cons x l=>exact(AR b c .rd .rd (λ_ z=>by cases z)).symm
end FC
namespace FC
open Vaunih (Reach Instr handsOn handsFar checkFrom faultAt leaves takes gives localsAfter)
abbrev RT:=.ml× .kk
def fZ(a:RT)(j:Nat)(r:Reach):RT:=(a.1.set j (sP .kq r),a.2.set j (sO .kq (.hP a.2 j) r))
def d6(c:dH)(a:RT)(i:Nat)(r:Reach)(x:Instr):RT:=match near c r x with
 |some y=>fZ a .z y
 |none=>a
def gK(c:dH)(a:RT)(i:Nat)(r:Reach)(x:Instr):RT:=match leaves x with
 |some n=>fZ a (.z+n) ⟨.b8- .ci,.cp⟩
 |none=>a
theorem An{α:Type}{l: .av}{k j:Nat}{v d:α}:(l.set k v).getD j d=if k=j/\j< .cw then v else l.getD j d:=by
 rw[i4,List.getElem?_set,i4];rw[52,k,j]
 ·subst h;rw[.M];by_cases h2:k< .cw
  ·rw[24,af h2,af ⟨Y,h2⟩]
  ·rw[aa h2,.dj (h2 z.2),.GO]
 ·rw[.dP,.dj (h z.1)]
theorem Fv{l: .ft}{a:RT}{j k:Nat}{r:Reach}(h: .xY l .kq a.2 j)(h1:j<a.1.length)(h2:j<a.2.length): .xY (.f9 k j r l l) (.ng (fZ a k r) j) (fZ a k r).2 j:=by
 unfold fZ;rw[302,An,An];rw[17,k,j]
 ·subst e;rw[80,af Y,af ⟨Y,h1⟩,af ⟨Y,h2⟩,h.add λx=>bu]
 ·rw[80,aa e,.dj (e z.1),.dj (e z.1),h]
theorem Ft{a:RT}{j k:Nat}{r:Reach}(h:j<k): .ng (fZ a k r) j= .kq:=by unfold fZ;dsimp only;rw[An,.dj (by omega)]
theorem Fu{a:RT}{k:Nat}{r:Reach}: .jU (fZ a k r).1 a.1/\ .jU (fZ a k r).2 a.2:=⟨pX ..,pX ..⟩
theorem QT{c:dH}{a:RT}{i:Nat}{r:Reach}{x:Instr}: .jU (d6 c a i r x).1 a.1/\ .jU (d6 c a i r x).2 a.2:=by
 unfold d6;split
 ·exact Fu
 ·exact⟨Y,Y⟩
theorem NC{c:dH}{a:RT}{i:Nat}{r:Reach}{x:Instr}: .jU (gK c a i r x).1 a.1/\ .jU (gK c a i r x).2 a.2:=by
 unfold gK;split
 ·exact Fu
 ·exact⟨Y,Y⟩
theorem XO{c:dH}{a:RT}{i j:Nat}{r:Reach}{x:Instr}(h:j<=i): .ng (gK c (d6 c a i r x) i r x) j= .kq:=by
 have h1: .ng (d6 c a i r x) j= .kq:=by
  unfold d6;split
  ·exact Ft (by omega)
  ·rfl
 unfold gK;split
 ·rw[1,Ft (by omega),h1]
 ·exact h1
structure lV(n i:Nat)(next: .bM)(bD: .kr)(a:RT):Prop where
 l1: .aA a.1 (n+1)
 l2: .aA a.2 (n+1)
 arr:∀j,i<=j->j<=n-> .xY (arr i next bD j) .kq a.2 j
 bD:∀y∈bD,y.1<n
theorem lV.start(C n:Nat):lV n 0 (.w3 C) [] (.w3 C:: .rh n,.un n .a):=by
 refine⟨by simp,by simp,λj _ D=> ?_,(λy g=>by cases g)⟩;have S:(.hP (.un n .a) j)= .a:=by rw[i4,C7];split<;>rfl
 rw[78,S]
 cases j with
 |zero=>
  refine⟨⟨.du,.du⟩,λr z=> ?_,⟨.du,?_⟩⟩
  ·cases z;exact .tG nT ⟨Y,Y⟩
  ·rintro⟨x,W,y,g,c⟩;rcases nT.mp W with⟨_,W⟩|W
   ·rcases nT.mp g with⟨_,g⟩|g
    ·rw[161,W];rw[16,c]
    ·cases g
   ·cases W
 |succ j=>
  rw[128,.zc (some (⟨0,C⟩:Reach):: .rh n) (j+1),none,by show .zc (.rh n) j=none;rw[i4,C7];split<;>rfl,e,gh.empty]
theorem EA{l T N A p5:Prop}[Decidable l][Decidable T][Decidable N][Decidable A][Decidable p5](h:(.bd l 2 (.bd T 3 (.bd N 4 (.bd A 5 (.bJ p5 8)))): .B1)=none):¬l/\¬T/\¬N/\¬A:=by
 by_cases h1:l
 ·rw[3,af h1]
 rw[aa h1]at h;by_cases h2:T
 ·rw[3,af h2]
 rw[aa h2]at h;by_cases h3:N
 ·rw[3,af h3]
 rw[aa h3]at h;by_cases h4:A
 ·rw[3,af h4]
 exact⟨.sm⟩
theorem ND{c:dH}{C n i:Nat}{r:Reach}{x:Instr}(h: .mk C n i r x=none):∀k,.l0= .e0-> .z+k<n:=by intro k G;have h5:=(.bA (EA h)).2;rw[G]at h5;have:¬n<= .z+k:=λz=>h5 (bC z);omega
theorem lV.step{c:dH}{s n i:Nat}{next: .bM}{bD: .kr}{a:RT}{r:Reach}{x:Instr}(v:lV n i next bD a)(N: .mk s n i r x=none):lV n .z (handsOn c r x) (bD++ .Ca i r x) (gK c (d6 c a i r x) i r x):=by
 obtain⟨A,f⟩:=QT (c:=c) (a:=a) (i:=i) (r:=r) (x:=x);obtain⟨f1,f2⟩:=NC (c:=c) (a:=d6 c a i r x) (i:=i) (r:=r) (x:=x);have h5:=ND N;refine⟨by rw[f1,A];exact v.l1,by rw[f2,f];exact v.l2,λj l G=> ?_,λy g=> ?_⟩
 ·have F:=v.arr j (by omega) G;have L1:=v.l1;have L2:=v.l2
  have h1: .xY (match near c r x with|some y=>.f9 .z j y .iX .iX|none=>FC.arr i next bD j) (.ng (d6 c a i r x) j) (d6 c a i r x).2 j:=by
   unfold d6
   cases near c r x with
   |none=>exact F
   |some y=>exact Fv F (by omega) (by omega)
  generalize d6 c a i r x=a1 at h1 A f
  have h2: .xY (match leaves x with|some k=>.f9 (.z+k) j ⟨.b8- .ci,.cp⟩ (match near c r x with|some y=>.f9 .z j y .iX .iX|none=>FC.arr i next bD j) (match near c r x with|some y=>.f9 .z j y .iX .iX|none=>FC.arr i next bD j)|none=>(match near c r x with|some y=>.f9 .z j y .iX .iX|none=>FC.arr i next bD j)) (.ng (gK c a1 i r x) j) (gK c a1 i r x).2 j:=by
   unfold gK
   cases leaves x with
   |none=>exact h1
   |some k=>exact Fv h1 (by omega) (by omega)
  rw[7,h2.same λy=> ?_,Om (next:=next) (by omega)]
  have d:(j,y)∈ .Ca i r x↔∃k,.l0= .e0/\j= .z+k/\y=⟨.b8- .ci,.cp⟩:=by
   unfold handsFar
   cases leaves x with
   |none=>exact⟨.du,λ⟨k,z,_⟩=>(by cases z)⟩
   |some k=>
    constructor
    ·intro z;have:=cX.mp z;injection this with e1 D;exact⟨k,Y,e1,D⟩
    ·rintro⟨U,e,rfl,rfl⟩;rw[53,pZ _]
  rw[d]
  have b:y∈(match near c r x with|some y=>.f9 .z j y .iX .iX|none=>FC.arr i next bD j)↔(j= .z/\near c r x= .d3)∨y∈ .iX:=by
   cases near c r x with
   |none=>exact⟨.C9 z,λz=>.ts z (by cases z.2) id⟩
   |some z=>
    dsimp only;rw[17,.z,j]
    ·rw[307,af e,bu]
     ·rintro(rfl|h)
      ·rw[14,⟨e.symm,Y⟩]
      ·rw[8,h]
     ·rintro(⟨_,h⟩|h)
      ·rw[94,.ao]
      ·rw[8,h]
    ·rw[1,aa e,⟨.C9 z,λz=>z.elim (.pT z.1.symm e) id⟩]
  generalize (match near c r x with|some y=>if i+1=j then y::FC.arr i next bD j else FC.arr i next bD j|none=>FC.arr i next bD j)=l1 at b
  cases R:leaves x with
  |none=>
   rw[78,b];constructor
   ·rintro(h|⟨k,z,_⟩|h)
    ·rw[14,h]
    ·cases z
    ·rw[8,h]
   ·rintro(h|h)
    ·rw[14,h]
    ·rw[141,h]
  |some k=>
   dsimp only;rw[17,.z+k,j]
   ·rw[173,af e,bu,b]
    ·rintro(h|⟨U,z,_,h⟩|h)
     ·rw[8,.oB]
     ·rw[14,h]
     ·rw[141,h]
    ·rintro(h|h|h)
     ·rw[8,.inl ⟨k,Y,e.symm,h⟩]
     ·rw[14,h]
     ·rw[141,h]
   ·rw[307,aa e,b]
    ·rintro(h|⟨U,z,D,h⟩|h)
     ·rw[14,h]
     ·cases z;rw[5,D.symm,e]
     ·rw[8,h]
    ·rintro(h|h)
     ·rw[14,h]
     ·rw[141,h]
 ·rcases gV.mp g with g|g
  ·exact v.bD y g
  ·unfold handsFar at g
   cases R:leaves x with
   |none=>rw[161,R]
   |some k=>rw[R]at g;rw[1,cX.mp g,h5 k R]
def wI(c:dH)(s n i:Nat)(bD: .kr)(x:Instr)(l: .dk)(b:Bool): .bM-> .GN .ft
 |none=>.error (i,7)
 |some r=>.aq b (.error (i,6)) (match faultAt c s n i r x with
  |some k=>.error (i,k)
  |none=>(match checkFrom c s n (i+1) (handsOn c r x) (bD++handsFar c i r x) l with
   | .error e=>.se
   | .ok rs=>.ok (r::rs)))
theorem ED{c:dH}{s n i:Nat}{next: .bM}{bD: .kr}{o: .bM}{b:Bool}{x:Instr}{l: .dk}(h:gh (arr i next bD i) o b): .C8 c s n i bD (x::l)=wI c s n i bD x l b o:=by
 conv=>lhs;unfold checkFrom
 rw[<-Mn];rcases h.look with⟨R,rfl⟩|⟨r,a,R,L,S,d⟩
 ·rw[19,R]
 ·rw[R];obtain⟨U,rfl⟩:=vS.mp L;unfold wI;rw[78,S]
  cases b with
  |true=>rw[af Y,.M]
  |false=>cases d Y;rfl
theorem MO{c:dH}{s n:Nat}{next: .bM}{bD: .kr}{a:RT}(v:lV n n next bD a): .C8 c s n n bD []= .aq (.GL n) (.error (n,9)) (.ok []):=by
 have h:=v.arr n .y .y
 rw[65,(.GL n)=next.isSome,by
  have D: .mK n=none↔next=none:=by
   rw[177,h.nil]
   ·intro z
    cases next with
    |none=>rfl
    |some y=>rw[226,y∈arr n .d3 bD n,.tG nT ⟨Y,Y⟩,z]
   ·rintro rfl
    cases j:arr n none bD n with
    |nil=>rfl
    |cons y l=>
     have:y∈arr n none bD n:=.lJ j
     rcases nT.mp this with⟨_,z⟩|z
     ·cases z
     ·rw[56,v.bD _ z]
  cases h1:a.1.getD n none with
  |none=>rw[D.mp h1]
  |some y=>
   cases h2:next with
   |none=>rw[122,D.mpr h2]
   |some z=>rfl];rfl
def mv(c:dH)(s n i:Nat)(x:Instr)(b:Bool): .bM->Nat
 |none=>7
 |some r=>if .fj then 6 else .px (.mk s n i r x)
theorem NG{c:dH}{s n i:Nat}{r:Reach}{x:Instr}{k:Nat}(h: .mk s n i r x= .e0):k≠0:=by
 have key:∀{l T N A p5:Prop} [Decidable l] [Decidable T] [Decidable N] [Decidable A] [Decidable p5],(.bd l 2 (.bd T 3 (.bd N 4 (.bd A 5 (.bJ p5 8)))): .B1)= .e0->k≠0:=by
  intro l T N A p5 _ _ _ _ _ h
  repeat' split at h
  all_goals (cases h;try decide)
 exact key h
def glue(l: .ft): .GN .ft-> .GN .ft
 | .error e=>.se
 | .ok rs=>.ok (l++rs)
structure Pass(c:dH)(s:Nat)(code: .dk)(i:Nat)(a:RT):Prop where
 ex:∃next bD rsd,.xW c s .dw s [] code=glue rsd (.C8 c s .dw i bD .GM)/\rsd.length=i/\(∀j,j<i-> .kq=rsd[j]?)/\lV .dw i next bD a
theorem Pass.start{c:dH}{s:Nat}{code: .dk}: .xX c s 0 (.w3 s:: .rh .dw,.un .dw .a):=by refine⟨_,[],[],?_,Y,λj h=>.BW (Nat.not_lt_zero _),lV.start _ _⟩;rw[r_];cases checkFrom c s code.length 0 (some ⟨0,s⟩) [] code<;>rfl
theorem Pass.fault{c:dH}{s i:Nat}{code: .dk}{a:RT}{x:Instr}(v: .xX c s i a)(W: .a1 code= .aa)(h:mv c s .dw i x (.hP a.2 i) (.mK i)≠0): .xW c s .dw s [] code= .error (i,mv c s .dw i x (.hP a.2 i) (.mK i)):=by
 obtain⟨next,bD,y,e,R,S,pi⟩:=v.ex;have hi:i< .dw:=.dD W;have p: .GM=x::code.drop .z:=by rw[y6 hi];rw[bS hi]at W;cases W;rfl
 rw[e,p,ED (pi.arr i .y (by omega))];generalize a.1.getD i none=o at h;generalize a.2.getD i false=b at h
 cases o with
 |none=>rfl
 |some r=>
  unfold wI mv;dsimp only;unfold mv at h;dsimp only at h
  cases b with
  |true=>rfl
  |false=>
   rw[.C7]at h⊢;rw[.C7]
   cases N:faultAt c s code.length i r x with
   |none=>rw[N]at h;rw[16,h]
   |some k=>rfl
theorem Pass.next{c:dH}{s i:Nat}{code: .dk}{a:RT}{x:Instr}(v: .xX c s i a)(W: .a1 code= .aa)(h:mv c s .dw i x (.hP a.2 i) (.mK i)=0):∃r,.mK i= .bL/\ .mk s .dw i r x=none/\ .xX c s .z (gK c (d6 c a i r x) i r x):=by
 obtain⟨next,bD,y,e,R,S,pi⟩:=v.ex;have hi:i< .dw:=.dD W;have p: .GM=x::code.drop .z:=by rw[y6 hi];rw[bS hi]at W;cases W;rfl
 rw[p,ED (pi.arr i .y (by omega))]at e
 cases d:a.1.getD i none with
 |none=>rw[3,d]
 |some r=>
  rw[d]at h e;generalize g:a.2.getD i false=b at h e;unfold mv at h;unfold wI at e;dsimp only at h e
  cases b with
  |true=>cases h
  |false=>
   rw[.C7]at h e
   cases N:faultAt c s code.length i r x with
   |some k=>rw[N]at h;rw[5,h,NG N]
   |none=>
    rw[N]at e;dsimp only at e;refine⟨r,Y,N,⟨_,_,y++[r],?_,by rw[bL,R];rfl,λj D=> ?_,pi.step N⟩⟩
    ·rw[e]
     cases checkFrom c s code.length (i+1) (handsOn c r x) (bD++handsFar c i r x) (code.drop (i+1))with
     |error e=>rfl
     |ok rs=>rw[46,.tp y (r::rs)= .tp (y++[r]) rs,d8]
    ·rw[XO (by omega)];by_cases f:j<i
     ·rw[S j f,Ld (by omega)]
     ·rw[160,j=i,by omega];rw[d,ze (by omega),R,lT];rfl
theorem Pass.finish{c:dH}{s:Nat}{code: .dk}{a:RT}(v: .xX c s .dw a):∃rs: .ft,.xW c s .dw s [] code=(.aq (.GL .dw) (.error (.dw,9)) .oz)/\ .aA rs .dw/\∀j,j< .dw-> .kq=rs[j]? :=by
 obtain⟨next,bD,y,e,R,S,pi⟩:=v.ex;rw[y8,MO pi]at e;rw[7,⟨y,?_,R,S⟩,e];split
 ·rfl
 ·rw[25,.tp y [],cC]
end FC
namespace FC
open Vaunih (Reach Instr checkBlock codeFault)
theorem Fd{α β:Type}{f: .fd (α×Nat) β}:∀(l: .av) (k i:Nat) (x:α) (y:β),.a1 l= .aa->(∀j,j<i->∀z,l[j]? =some z->f (z,k+j)=none)->f (x,k+i)= .d3->(l.zipIdx k).findSome? f= .d3
 |[],k,i,x,y,h,_,_=>by cases h
 |a::l,k,0,x,y,h,_,h2=>by
  cases h
  rw[vJ,C5]
  have b:f (a,k)= .d3:=h2
  rw[b]
 |a::l,k,i+1,x,y,h,h1,h2=>by
  rw[vJ,C5]
  rw[208,f (a,k)=none,h1 0 (Nat.succ_pos _) a Y,F]
  rw[15,Fd l (k+1) i x y h (λj D z hz=> ?_) (by rw[.xm (k+1+i) (k+ .z)];exact h2),.xm (k+1+j) (k+(j+1)),h1 (j+1) (by omega) z hz]
theorem Fc{α β:Type}{f: .fd (α×Nat) β}:∀(l: .av) (k:Nat),(∀j z,l[j]? =some z->f (z,k+j)=none)->(l.zipIdx k).findSome? f=none
 |[],k,_=>rfl
 |a::l,k,h=>by
  rw[vJ,C5]
  rw[208,f (a,k)=none,h 0 a Y,F]
  rw[15,Fc l (k+1) λj z hz=> ?_,.xm (k+1+j) (k+(j+1)),h (j+1) z hz]
def tw(c:dH)(x:cM×Nat): .mh Nat .vP:=match checkBlock c x.2 x.1 with
 | .error e=>some (x.2,e.1,e.2)
 | .ok _=>none
theorem EJ(c:dH): .mj=c.zipIdx.findSome? (tw c):=rfl
theorem MV{c:dH}{i:Nat}{b:cM}{e: .vP}(S: .a1 c= .ki)(h:∀j,j<i->∀b,c[j]? = .ki->∃rs,.oA j b= .oz)(g: .oA i b= .se): .mj=some (i,e.1,e.2):=by
 rw[9,EJ,Fd c 0 i b _ S (λj D z hz=> ?_) ?_]
 ·rw[iG];obtain⟨rs,M⟩:=h j D z hz;unfold tw;rw[M]
 ·rw[iG];unfold tw;rw[g]
theorem MT{c:dH}(h:∀j b,c[j]? = .ki->∃rs,.oA j b= .oz): .mj=none:=by rw[EJ];refine Fc c 0 λj z hz=> ?_;rw[iG];obtain⟨rs,M⟩:=h j z hz;unfold tw;rw[M]
theorem MU{c:dH}(h: .mj=none){j:Nat}{b:cM}(S:c[j]? = .ki):∃rs,.oA j b= .oz:=by
 rw[281,(b,j)∈c.zipIdx,List.mem_zipIdx_iff_getElem?,S]
 have h1:=(List.findSome?_eq_none_iff.mp h) (b,j) a;unfold tw at h1
 cases B:checkBlock c j b with
 |ok rs=>exact⟨rs,Y⟩
 |error e=>rw[122,B]
def m7(r:Reach): .am:=[(.b8:Int),.rg]
end FC
namespace FC
open PySem PySem.Spec PyProof.Rows L2
variable{P:Program}{w:World}{K:ag}{mg: .d}{base:Heap}
def splitBy{α:Type}[.Aj](c:α): .av->List .av
 |[]=>[[]]
 |d::r=>.f9 d c [] (.c4 r) (match splitBy c r with
  |[]=>[[d]]
  |p::ps=>(d::p)::ps)
section
variable{α β:Type}[.Aj][DecidableEq β]
theorem xU{c:α}: .x9 (.aY (.c4 l))
 |[]=>by intro h;cases h
 |d::r=>by
  show .aY (.f9 d c [] (.c4 r) (.wO [d] ((d::p)::ps)))
  split
  ·intro h;cases h
  ·split<;>intro h<;>cases h
theorem BQ{f:α->β}{c:α}(N:∀d,f d=f c↔d=c): .x9 (splitBy (f c) (.lU l)= .ke (.c4 l) (.lU p))
 |[]=>rfl
 |d::r=>by
  rw[37,.f9 (f d) (f c) [] (splitBy (f c) (.lU r)) (match splitBy (f c) (r.map f)with|[]=>[[f d]]|p::ps=>(f d::p)::ps),.ke (.f9 d c [] (.c4 r) (.wO [d] ((d::p)::ps))) (.lU p),BQ N]
  rw[52,d,c]
  ·rw[24,af h,af ((N d).mpr h)]
  ·rw[.dP,.dj (h ((N d).mp z))]
   cases splitBy c r<;>rfl
theorem uY{c:α}: .x9 (c∉l-> .c4 l=[l])
 |[],_=>rfl
 |d::r,h=>by
  rw[29,(.jI (d=c) (.wO [d] ((d::p)::ps)))=_,.dj (h (.lJ z)),uY (.BM z)]
theorem uX{c:α}:∀{a r: .av},c∉a-> .c4 (a++c::r)=a:: .c4 r
 |[],r,_=>.i8 (.jI (c=c) _) _ .M
 |d::a,r,h=>by
  rw[29,(.jI (d=c) (match splitBy c (a++c::r)with|[]=>[[d]]|p::ps=>(d::p)::ps))=_,.dj (h (.lJ z)),uX (.BM z)]
end
theorem JA{c:Nat}:∀{ps:List .cY},.aY ps->(∀p∈ps,c∉p)-> .c4 (iQ [c] ps)=ps
 |[],h,_=>.BL h
 |[x],_,h=>uY (h x (pZ x))
 |x::y::r,_,h=>by
  show .c4 (x++([c]++iQ [c] (y::r)))=_
  rw[List.singleton_append,uX (h x .aS),JA (by simp) λp hp=>.k1 p hp]
theorem XI(x:Str)(c:Nat): .aY (.ua x):=by
 unfold Txt.split;split
 ·simp
 ·split
  ·simp
  ·rw[StrLaws.partsBetween_eq];obtain⟨p,r,e⟩:=StrLaws.partsFrom_ne x (Str.length .bY) 0 (.Gz x .bY .gU (.aG x));rw[e];simp
theorem split_list(x:Str)(c:Nat): .xQ (.ua x) p.cps.toList= .c4 .Fb:=by
 have h1:=StrLaws.join_split x .bY;have h2:iQ [c] (.ke (.ua x) p.cps.toList)= .Fb:=by rw[106,join_list .bY (.ua x),show Txt.join .bY (.ua x)=Str.join .bY (.ua x)from DW _ _,h1];exact this.symm
 rw[<-h2,JA]
 ·intro z;exact XI x c (vG.mp z)
 ·intro p hp;obtain⟨y,g,rfl⟩:=iC.mp hp;exact StrLaws.split_free x c y g
abbrev ax:=Vaunih.Text
def eH(t:ax): .cY:=.nl t .e3
def stx(t:ax):Str:=.qi (eH t)
theorem kN(t:ax): .iw .bG (eH t):=rfl
theorem cT(t:ax): .aA .bG .C:=by show(eH t).toArray.size=_;rw[cj];exact bh ..
theorem VA{n k:Nat}(G:sgn k=k)(a:k≠63):sgn n=k↔n=k:=by
 constructor
 ·intro h;unfold sgn at h;split at h
  ·exact h
  ·rw[5,h.symm,a]
 ·rintro rfl;exact G
theorem uV{c d:UInt8}(G: .fG d=d.toNat)(a:d.toNat≠63): .e3= .fG d↔c=d:=by rw[G,VA G a];exact⟨.qy (UInt8.toNat.inj h) .Ak⟩
theorem Ni:∀n,n<128->Unicode.isDigit n=(decide (48<=n)&&decide (n<=57)):=by decide+kernel
theorem VB(n:Nat):sgn n<128:=by unfold sgn;split<;>omega
theorem O4(c:UInt8):Unicode.isDigit .e3=Vaunia.isDigit c:=by
 rw[Ni _ (VB _)];unfold Vaunia.isDigit sgn;split
 ·rfl
 ·rename_i h;rw[j3];simp only[bU,cR];omega
theorem Ax(t:ax):Txt.isdigit .bG= .x3:=by
 unfold Txt.isdigit Vaunia.allDigits;rw[cT,<-Array.all_toList,kN];unfold eH;rw[C2];congr 1
 ·cases t<;>simp
 ·congr 1;funext c;exact O4 c
theorem BD{c:UInt8}(h: .JF c): .e3= .bi:=by unfold Vaunia.isDigit at h;simp only[bU,cR]at h;exact af (.inr ⟨.ga⟩)
theorem la{t:ax}(h: .c .x3): .aY t/\ .xP c:=by unfold Vaunia.allDigits at h;rw[bU]at h;refine⟨.a2,j7.mp h.2⟩;rw[z]at h;cases h.1
theorem EY{t:ax}(h: .xP c):PySem.NumText.digitsVal (eH t)= .x4:=by
 have:∀(t:ax) (n:Nat),(.xP c)-> .u9 (eH t) (λacc c=>acc*10+(c-48))= .u9 t (λn c=>10*n+(.bi-48)):=by
  intro t
  induction t with
  |nil=>intro n _;rfl
  |cons c r j=>intro n h;show(eH r).foldl _ (n*10+(.e3-48))=r.foldl _ (10*n+(.bi-48));rw[BD (h c .aS),j _ λd hd=>.k1 d hd,gW]
 exact this t 0 h
theorem um{t:ax}(h: .c .x3)(R: .C<=640): .Fu .bG (.qf .x4):=by obtain⟨h1,h2⟩:=la h;rw[<-EY h2];refine intText_digits (x:=.bG) (λn G=> ?_) (λz=>h1 (vG.mp z)) .Aw;rw[kN]at G;obtain⟨c,B,rfl⟩:=iC.mp G;rw[BD (h2 c B)];have:=h2 c B;unfold Vaunia.isDigit at this;simp only[bU,cR]at this;rw[81]
theorem tu{t:ax}(h: .xP c): .x4<10^ .C:=by
 have:∀(t:ax) (n:Nat),(.xP c)-> .u9 t (λn c=>10*n+(.bi-48))<(n+1)*10^ .C:=by
  intro t
  induction t with
  |nil=>intro n _;rw[12,n<(n+1)*1]
  |cons c r j=>intro n h;have B:=h c .aS;unfold Vaunia.isDigit at B;simp only[bU,cR]at B;show r.foldl _ (10*n+(.bi-48))<_;refine cY (j _ λd hd=>.k1 d hd) ?_;rw[bp,sr,gW (10^ .cQ) 10,<-sj];exact zt _ (by omega)
 rw[165,this t 0 h,iG,vO]
def bR(t:ax):Str:=.qi (.gQ t)
theorem pq(t:ax): .iw (bR t) (.gQ t):=rfl
theorem lD(t:ax): .aA (bR t) .C:=.BK (.gQ t).toArray.size _ cj bh
theorem JF(a b:ax):bR (a++b)=bR a++bR b:=kM (by rw[DV,ve,pq,pq,pq,fT])
theorem EX(m:Nat):((Nat.toDigits 10 m).map Char.toNat)= .gQ (Vaunia.decimal m):=by
 unfold Vaunia.decimal;rw[fo];apply C8;intro c B;have h:=Nat.isDigit_of_mem_toDigits (by decide) (by decide) B;have h2: .bi<256:=by unfold Char.isDigit at h;simp only[ge_iff_le,bU,cR]at h;have:=h.2;have h3:c.val.toNat<=57:=this;show c.val.toNat<256;omega
 rw[38,.bi=(UInt8.ofNat .bi).toNat,L4,(Nat.mod_eq_of_lt h2).symm]
theorem pz(m:Nat):(.Fj (.m m))= .F0 m:=by apply kM;rw[LG,pq];exact EX m
theorem str_int(i:Int):(.Fj i)=bR .AP:=by
 by_cases h:i<0
 ·obtain⟨m,rfl⟩:∃m:Nat,i=Int.negSucc m:=by
   cases i with
   |ofNat n=>rw[125,h,¬ .Z<0]
   |negSucc m=>exact⟨m,Y⟩
  rw[10,toString (Int.negSucc m),"-"++ .Gy m,rfl];unfold Vaunia.shownInt;rw[af h,e];apply kM;rw[Str.ofString_eq_toList];rw[29,("-"++ .Gy m).toList.map Char.toNat=_,String.toList_append,fT];rw[294,LG (m+1),Str.ofString_eq_toList];have s:(.Gy m).toList.map Char.toNat=(Nat.toDigits 10 (m+1)).map Char.toNat:=D;rw[24,s,EX]
 ·obtain⟨m,rfl⟩:∃m:Nat,i= .ew:=⟨.u7 i⟩;unfold Vaunia.shownInt;rw[13,.dP,j6,pz m]
theorem n6{m k:Nat}(h:m<10^k)(G:1<=k): .K (Vaunia.decimal m) k:=by unfold Vaunia.decimal;rw[bh];exact(Nat.length_toDigits_le_iff (by decide) (by omega)).mpr h
section
open Vaunih (Instr Op txt plainWord countedWord instr take small)
theorem BW{v x:ax}(D:∀c∈v,.e3= .bi/\ .Am): .cO=stx v↔x=v:=by
 constructor
 ·intro h;have h2:eH x=eH v:=by rw[<-kN,<-kN,h]
  clear h
  induction v generalizing x with
  |nil=>exact vG.mp h2
  |cons c v j=>
   cases x with
   |nil=>cases h2
   |cons d x=>unfold eH at h2;rw[d9,d9]at h2;injection h2 with h3 h4;obtain⟨f,k⟩:=D c .aS;rw[(uV f k).mp h3,j (λc B=>D c (.aH B)) h4]
 ·rintro rfl;rfl
def lb: .tL:=["num","pow","get","free","fn","call","fold","skip","unless","part","true","false","nil","bind","ret","pair","fst","snd","cons","add","sub","mul","div","floor","rest","less","same","root"]
theorem Mc:∀k∈lb,.tm= .iS/\∀c∈ .gR,.e3= .bi/\ .Am:=by decide+kernel
theorem wg{k:String}(h:k∈lb){x:ax}: .tm= .cO↔x= .gR:=by obtain⟨h1,h2⟩:=Mc k h;rw[h1];exact⟨λz=>(BW h2).mp .c5,λz=>by rw[z]⟩
def rm: .H:=(["get","free","fn","call","fold","skip","unless","part"]: .tL).map .Bb
inductive zO(x:ax):Prop
 |none (h1:kn .cO= .a) (h2:∀e p r,.iq x p= .error p)
 |num (h:x= .xa)
 |pow (h:x= .tn)
 |MZ (f: .ed .cd) (h1: .tw .cO) (h2: .cO≠"num") (h3: .cO≠"pow") (h4: .cO∈rm) (h5:∀e p r,.iq x p= .ix (.ir small r) (f y.1,y.2)) (h6:∀n,dB (f n)= .cO) (h7:∀n,f6 (f n)= .Z) (h8:∀n q v,f n≠ .jw v)
  (h9:∀n k,f n≠ .o5)
 |plain (y:Instr) (h1: .tw .cO) (h2: .cO≠"num") (h3: .cO≠"pow") (h4: .cO∉rm) (h5:∀e p r,.iq x p= .cg y r) (h6:dB y= .cO) (h7:f6 y=0) (h8:∀q v,y≠ .jw v) (h9:∀k,y≠ .o5)
theorem OW{x:ax}{y:Instr}(h: .xM x .d3)(e p:Nat)(r:cQ): .iq x p= .cg y r:=by unfold instr;rw[h]
theorem OV{x:ax}{f: .ed .cd}(h: .xM x none)(h2: .Gu x (some f))(e p:Nat)(r:cQ): .iq x p= .ix (.ir small r) (f y.1,y.2):=by unfold instr;rw[h,h2]
theorem Ki(x:ax):zO x:=by
 by_cases s:x∈lb.map txt
 ·obtain⟨k,G,rfl⟩:=iC.mp s;simp only[lb,bu,vH,xw]at G;have pl:∀{k:String} (y:Instr),.xM .gR .d3-> .tw .iS-> .iS≠"num"-> .iS≠"pow"-> .iS∉rm->dB y= .iS->f6 y=0->(∀q v,y≠ .jw v)->(∀k,y≠ .o5)->zO .gR:=λy a b c d e f g i j=>.plain y b c d e (OW a) f g i j;have ct:∀{k:String} (f: .ed .cd),.xM .gR none-> .Gu .gR (some f)-> .tw .iS-> .iS≠"num"-> .iS≠"pow"-> .iS∈rm->(∀n,dB (f n)= .iS)->(∀n,f6 (f n)= .Z)->(∀n q v,f n≠ .jw v)->(∀n k,f n≠ .o5)->zO .gR:=λf a a2 b c d e g i j l=>.MZ f b c d e (OV a a2) g i j l;rcases G with rfl|rfl|rfl|rfl|rfl|rfl|rfl|rfl|rfl|rfl|rfl|rfl|rfl|rfl|rfl|rfl|rfl|rfl|rfl|rfl|rfl|rfl|rfl|rfl|rfl|rfl|rfl|rfl
  ·exact .num Y
  ·exact .pow Y
  ·rw[102,.get,Y,("get":Str)=_]
  ·rw[102,.free,Y,("free":Str)=_]
  ·rw[102,.fn,Y,("fn":Str)=_]
  ·rw[102,.call,Y,("call":Str)=_]
  ·rw[102,.fold,Y,("fold":Str)=_]
  ·rw[102,.skip,Y,("skip":Str)=_]
  ·rw[102,.unless,Y,("unless":Str)=_]
  ·rw[102,.part,Y,("part":Str)=_]
  ·rw[60,.Gw]
  ·rw[60,.BJ]
  ·rw[60,.nil]
  ·rw[60,.bind]
  ·rw[60,.ret]
  ·rw[60,.pair]
  ·rw[60,.fst]
  ·rw[60,.snd]
  ·rw[60,.cons]
  ·rw[101,.add]
  ·rw[101,.sub]
  ·rw[101,.mul]
  ·rw[101,.div]
  ·rw[101,.floor]
  ·rw[101,.rest]
  ·rw[101,.less]
  ·rw[101,.same]
  ·rw[60,.root]
 ·have no:∀k∈lb,x≠ .gR:=λk G z=>s (iC.mpr ⟨k,G,.c5⟩);refine .none ?_ (λe p r=> ?_)
  ·unfold kn;rw[pM];rw[7,⟨aW λz=>no "fn" (by decide) ((wg (k:="fn") (by decide)).mp .c5),?_⟩,K_];intro k G z;obtain⟨U,m,rfl⟩:=iC.mp G;have h:U∈lb:=(show∀k∈(.Gv .tL),k∈lb by decide) U m;exact no U h ((wg h).mp (bQ z))
  ·rw[79,.xM x none,by unfold plainWord;rw[Dy,Lc];intro y o z;have hz:txt y.1=x:=eq_of_beq z;have G:y.1∈lb:=(show∀y∈([("true",Instr.truth true),("false",.BJ),("nil",.nil),("bind",.bind),("ret",.ret),("pair",.pair),("fst",.fst),("snd",.snd),("cons",.cons),("add",.op .add),("sub",.op .sub),("mul",.op .mul),("div",.op .div),("floor",.op .floor),("rest",.op .rest),("less",.op .less),("same",.op .same),("root",.root)]: .FZ .cd),y.1∈lb by decide) y o;exact no _ G hz.symm,.Gu x none,by unfold countedWord;rw[Dy,Lc];intro y o z;have hz:txt y.1=x:=eq_of_beq z;simp only[bu,vH,xw]at o;rcases o with rfl|rfl|rfl|rfl|rfl|rfl|rfl|rfl<;>exact no _ (by decide) hz.symm]
   unfold instr;rw[h1,h2];rw[302,aa (no "num" (by decide)),aa (no "pow" (by decide))]
end
section
open Vaunih (tokensFrom)
def fD(t:ax):cQ:=tokensFrom 0 [] t
theorem B3:∀(t:ax) (p:Nat) (a:ax),(32:UInt8)∉a-> .k6 (tokensFrom p a t) x.1= .u6 32 (.xO++t) (.zs x)
 |[],p,a,y=>by
  rw[cC,uY (λz=>y (Dd.mp z))]
  show .k6 (.ra a [] [(.xO,p- .cZ)]) x.1=_
  cases a with
  |nil=>rfl
  |cons c r=>
   rw[95,[(c::r).reverse]=_,y_,af (by rw[Le];rfl)]
 |c::r,p,a,y=>by
  show .k6 (.kn c (.ra a (.r9 p [] r) ((.xO,p- .cZ):: .r9 p [] r)) (.r9 p (c::a) r)) x.1=_
  by_cases B:c=32
  ·subst B
   rw[af Y,uX (λz=>y (Dd.mp z)),y_]
   have j:=B3 r (p+1) [] (by intro z;cases z)
   rw[De,jC]at j
   cases a with
   |nil=>exact j
   |cons d s=>
    rw[af (show .c (! (d::s).reverse.isEmpty) by rw[Le];rfl),<-j]
    rfl
  ·rw[aa B,B3 r (p+1) (c::a) (λz=>by
    rcases bu.mp z with z|z
    ·exact B .c5
    ·exact y z),kW,d8]
   rfl
def fg: .ed (Bool->ax-> .cY)
 |_,_,[]=>[]
 |p,b,c::r=>.xN (.he/\ .fj) (p:: .s7 p c r) p c r
theorem B2:∀(t:ax) (p:Nat) (a:ax),.K a p-> .k6 (tokensFrom p a t) x.2=(.ra a [] [p- .cZ])++fg p a.isEmpty t
 |[],p,a,hp=>by
  rw[96,.k6 (.ra a [] [(.xO,p- .cZ)]) x.2,_++[]]
  cases a<;>rfl
 |c::r,p,a,hp=>by
  show .k6 (.kn c (.ra a (.r9 p [] r) ((.xO,p- .cZ):: .r9 p [] r)) (.r9 p (c::a) r)) x.2=_++(.xN (.he/\ .Gx a) (p:: .s7 p c r) p c r)
  by_cases B:c=32
  ·subst B
   have j:=B2 r (p+1) [] .ab
   rw[.zl (.ra ([]:ax) ([]: .cY) [p+1-([]:ax).length]) [],jC]at j
   cases a with
   |nil=>exact j
   |cons d s=>
    rw[46,(p-(.io d s)):: .k6 (.r9 p [] r) x.2=[p-(.io d s)]++fg (p+1) true r,j]
  ·have j:=B2 r (p+1) (c::a) .o4
   rw[10,p+1-(.io c a),p- .cZ,.o4]
   rw[aa B,j,aW B]
   rw[25,[p+1-(.io c a)]++fg (p+1) .a r,e]
   cases a with
   |nil=>
    rw[19,af (show .he/\ .Gx ([]:ax)from⟨B,Y⟩)]
   |cons d s=>
    rw[19,aa (show¬(.he/\ .Gx (d::s:ax))fromλz=>by cases z.2)]
theorem JX(t:ax): .k6 .di x.1= .u6 32 t (.zs x):=B3 t 0 [] (by intro z;cases z)
theorem Ys(t:ax): .k6 .di x.2=fg 0 true t:=by have:=B2 t 0 [] .y;exact this
def oJ(b:Bool)(t:ax):Bool:=match t.getLast? with|none=>b|some d=>.ll d
theorem Ih:∀(t:ax) (p:Nat) (b:Bool) (c:UInt8),fg p b (t++[c])=fg p b t++(.nE (.he/\ .c (oJ b t)) [p+ .C])
 |[],p,b,c=>by
  rw[46,(.nE (.he/\ .fj) [p])=[]++(.nE (.he/\ .fj) [p+0]),jC]
 |d::r,p,b,c=>by
  rw[65,oJ b (d::r)=oJ (.ll d) r,by
   unfold oJ
   cases r with
   |nil=>rfl
   |cons x s=>rw[List.getLast?_cons_cons];cases h:(x::s).getLast? with
    |none=>rw[3,List.getLast?_eq_none_iff]
    |some y=>rfl]
  rw[29,(.xN (d≠32/\ .fj) (p:: .s7 p d (r++[c])) p d (r++[c]))=(.xN (d≠32/\ .fj) (p:: .s7 p d r) p d r)++_,Ih r (p+1) (.ll d) c,bp]
  have D:p+1+ .cQ=p+ .cv:=by omega
  rw[D]
  split<;>rfl
theorem Ut:∀(t:ax) (p:Nat) (b:Bool),.K (fg p b t) .C:=by
 intro t
 induction t with
 |nil=>intro p b;exact .y
 |cons c r j=>
  intro p b;show .K (.xN (.he/\ .fj) (p:: .s7 p c r) p c r) .cv;have:=j (p+1) (.ll c);split
  ·rw[84]
  ·omega
end
section
open Vaunih (Instr Op Hand Over Machine instruct takes work give callWith advance steps longest)
def stN(c:aX)(m:Machine): .ed Machine
 |0=>m
 |n+1=>.nL m n
theorem rp{c:aX}{m:Machine}:∀{n:Nat},.bj (.jy m) n= .bj m (n+1)
 |0=>rfl
 |n+1=>.i8 (.nL (.jy m) n) (.nL m (n+1)) rp
theorem xW{c:aX}{m:Machine}{a:Nat}:∀{b:Nat},.bj m (a+b)= .bj (.bj m a) b
 |0=>rfl
 |b+1=>.i8 (.nL m (a+b)) (.nL (.bj m a) b) xW
theorem BS{c:aX}:∀{n d:Nat} {m:Machine},(∀j,j<n->(.lD m j)=none)->steps c n d m=(.bj m n,d+n)
 |0,d,m,_=>rfl
 |n+1,d,m,h=>by
  have F: .fW=none:=h 0 (by omega)
  show(.kZ m.over.isSome (steps c n (d+1) (.jy m)))=_
  rw[F,.n,BS λj D=>.GB (h (j+1) (by omega)),rp]
  rw[139]
theorem JI{c:aX}:∀{n k d:Nat} {m:Machine},k<=n->(∀j,j<k->(.lD m j)=none)-> .wI m k->steps c n d m=(.bj m k,d+k)
 |0,k,d,m,G,_,_=>by cases zr.mp G;rfl
 |n+1,k,d,m,G,h,e=>by
  show(.kZ m.over.isSome (steps c n (d+1) (.jy m)))=_
  cases k with
  |zero=>rw[19,af (show .c m.over.isSome from e)]
  |succ k=>
   have F: .fW=none:=h 0 (by omega)
   rw[F,.n,JI (k:=k) (by omega) (λj D=>.GB (h (j+1) (by omega))) (.GB e),rp]
   rw[139]
theorem D_{c:aX}{m:Machine}(h: .fW=none): .jy m=(match work c m with| .ok x=>x| .error k=>{m with over:=some (.refused k)}):=by unfold advance;rw[h,.n];rfl
theorem Ea{c:aX}{m:Machine}(B:sI c)(ok:j8 m)(D: .fW=none)(L:v9 .lB):j8 (.jy m)/\((.jy m).over=none-> .f8 (.jy m)< .f8 m)/\ .f8 (.jy m)<= .f8 m:=by
 rw[D_ D]
 cases e:work c m with
 |ok M=>exact⟨(Cc B ok D L e).1,λ_=>(Cc B ok D L e).2,nI (Cc B ok D L e).2⟩
 |error k=>exact⟨⟨ok.fs,.du⟩,.du,.y⟩
structure lI(c:aX)(m:Machine)(j:Nat):Prop where
 all: .f8 (.bj m j)<= .f8 m
 on:(.lD m j)=none->j+ .f8 (.bj m j)<= .f8 m
theorem lI.zero{c:aX}{m:Machine}:lI c m 0:=⟨.y,λ_=>.BO (0+eT _ m) _⟩
theorem lI.next{c:aX}{m:Machine}{n:Nat}(B:sI c)(h:lI c m n)(ok:j8 (.bj m n))(D:(.lD m n)=none)(L:v9 (.bj m n).frames):lI c m (n+1):=by obtain⟨_,h1,h2⟩:=Ea B ok D L;have:=h.on D;exact⟨cn h2 h.all,λz=>by have:=h1 z;show n+1+eT _ (.nL m n)<=_;omega⟩
theorem E_{n:Nat}:∀{fs: .aW},.K fs (hR n fs)
 |[]=>.y
 |f::r=>by
  have:=E_ (n:=n) (fs:=r)
  rw[oF,bp]
  cases f with
  |block b i ls ws d=>rw[12,_<=2*(n-i)+1+_]
  |fold f left l d hand=>rw[12,_<=1+_]
variable{P:Program}{w:World}{K:ag}{mg: .d}{base:Heap}
theorem bw.short{C:VC}{F:Hp}{n:Nat}{x:aP}{v:L2.V}(h: .fX x v):pj x:=by rintro b kept rfl;obtain⟨S,a,G,t,us,e,h1,h2,h3,h4⟩:=h;obtain⟨c,_⟩:=AA h4;rw[b_ c];exact h3
theorem bY.short{C:VC}{F:Hp}{n:Nat}{xs: .Q}{vs: .N}(h: .l6 xs vs):∀x∈xs,pj x:=by
 induction h with
 |nil=>rw[280]
 |cons h t j=>
  rw[279]
  ·exact bw.short h
  ·exact j x W
theorem dv.short{T: .b}{F:Hp}{n:Nat}{fs: .aW}{v:L2.V}(h:dv T F n fs v):v9 fs:=by
 rcases fs with _|⟨f,r⟩
 ·exact .bo
 ·cases f with
  |block b i ls ws d=>obtain⟨_,a,G,ro,pl,u,rs,ps,e,h1,h2,h3,h4,h5,j⟩:=h;intro x W;exact bY.short h3 x (Dd.mpr W)
  |fold f left l d hand=>obtain⟨a,G,co,m,u,fv,us,e,h1,h2,h3,h4,h5,j⟩:=h;refine⟨h2.short,?_⟩;rintro g x rfl;obtain⟨k,c,_,y,_⟩:=mT h5;exact y.short
theorem dQ.small{T: .b}{F:Hp}{c:aX}{v:L2.V}(h: .fJ F v):sI c:=by obtain⟨l,bs,e,R,d,h1,h2⟩:=h;intro b x W;obtain⟨y,_,a,j,n,xs,p,g,m,o,f,k,D⟩:=dP d W;refine⟨D,λi z hz=> ?_⟩;obtain⟨_,_,ok,_⟩:=dP o hz;exact ok
end
section
open Vaunih (digitsUpTo unsignedText fractionText)
theorem Af{c:UInt8}:∀{t:ax},.AF t=none->c∉t
 |[],_,h=>by cases h
 |d::r,e,h=>by
  rw[114,(.bd (d=c) (([]:ax),r) (.fF (.AF r) (d::x.1,x.2)))=none]
  by_cases hd:d=c
  ·rw[209,af hd]
  ·rw[aa hd]at M
   rcases bu.mp h with h|h
   ·exact hd h.symm
   ·exact Af (Dy.mp M) h
theorem Ag{c:UInt8}:∀{t a r:ax},.AF t= .ar a r->t=a++c::r/\c∉a
 |[],_,_,e=>by cases e
 |d::s,a,r,e=>by
  rw[114,(.bd (d=c) (([]:ax),s) (.fF (.AF s) (d::x.1,x.2)))= .ar a r]
  by_cases hd:d=c
  ·rw[277,af hd,⟨by rw[hd];rfl,(by intro z;cases z)⟩]
  ·rw[aa hd]at M
   obtain⟨⟨B,U⟩,h1,h2⟩:=j9.mp M
   cases h2
   obtain⟨f,k⟩:=Ag h1
   refine⟨by rw[f];rfl,.a2⟩
   rcases bu.mp z with z|z
   ·exact hd .c5
   ·exact k z
theorem YJ{n:Nat}{t:ax}{m:Nat}(h:digitsUpTo n t=some m):(47:UInt8)∉t:=by
 unfold digitsUpTo at h;split at h
 ·rename_i h1;intro z;have:=(la h1.1).2 47 z;rw[50,this]
 ·cases h
def o6: .fd .bI ft
 |[a]=>(.sr a).map (.F7 m)
 |[a,b]=>(match digitsUpTo 100 a,digitsUpTo 100 b with
  |some m,some n=>.tj n m n
  |_,_=>none)
 |_=>none
theorem B6(t:ax):unsignedText t=o6 (.Ax t):=by
 unfold unsignedText
 cases e:Vaunia.cut 47 t with
 |none=>rw[19,uY (Af e)]
 |some x=>
  obtain⟨a,r⟩:=x;obtain⟨rfl,N⟩:=Ag e;rw[uX N];by_cases M:(47:UInt8)∈r
  ·have G:digitsUpTo Vaunih.MOSTDIGITS r=none:=by
    cases h:digitsUpTo Vaunih.MOSTDIGITS r with
    |none=>rfl
    |some m=>rw[5,M,YJ h]
   rw[25,match digitsUpTo Vaunih.MOSTDIGITS a,digitsUpTo Vaunih.MOSTDIGITS r with|some m,some n=>.tj n m n|_,_=>none,G]
   have h2:∃p q s,.Ax r=p::q::s:=by
    cases h:splitBy 47 r with
    |nil=>rw[5,h,xU]
    |cons p s=>
     cases s with
     |cons q s=>exact⟨p,q,s,Y⟩
     |nil=>
      exfalso
      obtain⟨a2,D,h3⟩:∃a2 D,Vaunia.cut 47 r= .ar a2 D:=by
       cases h4:Vaunia.cut 47 r with
       |none=>rw[5,M,Af h4]
       |some y=>exact⟨y.1,y.2,Y⟩
      obtain⟨h5,j⟩:=Ag h3;rw[h5,uX j]at h;injection h with _ h;exact xU h
   obtain⟨p,q,s,h3⟩:=h2;rw[h3];cases digitsUpTo Vaunih.MOSTDIGITS a<;>rfl
  ·rw[19,uY M]
def V8:Sp:=.EV (vs=[.eu]/\ .AC/\ .cx (.F8 t))
theorem Ry(T: .b): .Ap T.n9.f T.n9.fd V8:=by
 refine T.n9.F.az ["text"] .f;obtain⟨t,rfl,R,q⟩:=h;refine⟨.ax (lB (Bg iU iU aq .AE (T.bE "MOST_DIGITS" 100)) (kF (Bj CD CF AM .F)))⟩;rw[10,.F8 t,decide .AD&& .x3,by unfold digitsUpTo;cases h:Vaunia.allDigits t<;>by_cases h2: .AD<;>simp[h2]]
 have d:=cT t;rw[7,⟨.j,.sz d,.eP⟩,d];by_cases h1:1<= .C
 ·rw[70,.jY,⟨.eP⟩];by_cases h2: .AD
  ·rw[7,.fM .jY ⟨_,Y,⟨_,Y⟩,.ex,.bo,?_⟩,Ax];rw[e,bC h2,jv]at q;exact q
  ·rw[64,.l4 .g2];rw[e,aW h2,Co]at q;exact q
 ·rw[126,.g2,⟨_,Y,.jM⟩];rw[160,t=[],vF.mp (by omega)];exact q
end
section
open Vaunih (digitsUpTo unsignedText fractionText)
def minus(t:ax):Bool:=match t with
 |45::_=>true
 |_=>.a
def dY(t:ax):ax:=.aq (minus t) t.tail t
theorem GN(c:UInt8)(r:ax):minus (c::r)=decide (c=45):=by
 by_cases h:c=45
 ·subst h;rfl
 ·rw[aW h];rw[276]
  ·rename_i h2;injection h2 with h2 _;rw[5,h2,h]
  ·rfl
theorem E8(t:ax): .F6=(.aq (minus t) ((unsignedText (dY t)).map Vaunia.Q.neg) (unsignedText (dY t))):=by
 unfold fractionText dY;split
 ·rfl
 ·rename_i h
  have:minus t= .a:=by
   rw[276]
   ·rename_i r;rw[16,h r]
   ·rfl
  rw[19,this]
theorem JG(t:ax):Txt.startswith .bG ("-":Str)=minus t:=by
 rw[65,("-":Str)=⟨#[45]⟩,by kernel_rfl];unfold Txt.startswith;rw[StrLaws.subAt_eq,cT,kN]
 cases t with
 |nil=>rfl
 |cons c r=>
  rw[GN];rw[29,(.eM (0+1) .cv&&([.e3]==[45]))=_,.jY,jv];have h:=uV (c:=c) (d:=45) (by decide) (by decide);have a: .fG (45:UInt8)=45:=by decide
  rw[a]at h;by_cases B:c=45
  ·rw[24,bC B,h.mpr B]
  ·rw[aW B];have: .e3≠45:=λz=>B (h.mp z);simp[this]
theorem EN(c:UInt8)(r:ax):nY (stx (c::r)) .pW none=stx r:=by
 apply kM;unfold nY;rw[HT.uU,cT,kN];rw[208,HT.aT (.io c r) 0 (some (1:Int))=1,by have:=HT.ph (.io c r) 0 1;rw[show((1:Nat):Int)=1 from rfl]at this;rw[this];show min 1 .cv=1;omega,F];show((eH r).take (.cv-1))=eH r;exact Ll (by unfold eH;rw[bh];omega)
theorem Jz(t:ax): .ES ("/":Str)= .nN 47 t stx:=by
 rw[65,("/":Str)=⟨#[47]⟩,by kernel_rfl];have h:=split_list .bG 47;rw[kN]at h;have h2: .Ax (eH t)= .nN 47 t eH:=by rw[123,BQ (f:=λc:UInt8=>.e3) (c:=47) (λd=>uV (by decide) (by decide)) (l:=t),show .fG (47:UInt8)=47 by decide];rw[81]
 rw[h2]at h;generalize Txt.split (stx t) ⟨#[47]⟩=xs at h;generalize splitBy 47 t=ys at h
 induction xs generalizing ys with
 |nil=>
  cases ys with
  |nil=>rfl
  |cons y ys=>cases h
 |cons x xs j=>
  cases ys with
  |nil=>cases h
  |cons y ys=>rw[d9,d9]at h;injection h with h1 h3;rw[d9,<-j ys h3];congr 1;exact kM h1
def fy(t:ax):Bool:=.F8 t
theorem qK{t:ax}(h: .x0 t): .sr t=some .x4/\ .c .x3/\ .AD:=by
 unfold fy digitsUpTo at h;unfold digitsUpTo;split at h
 ·rename_i h1;rw[1,af h1,⟨Y,h1.1,h1.2⟩]
 ·cases h
def wm: .bI->Nat
 |[_,b]=>Vaunia.digitsVal b
 |_=>1
theorem HQ{ps: .bI}(h:2< .aV):o6 ps=none:=by
 rcases ps with _|⟨a,_|⟨b,_|⟨c,ps⟩⟩⟩
 ·cases h
 ·rw[125,h,¬2<1]
 ·rw[125,h,¬2<2]
 ·rfl
theorem Aw{t:ax}(h:fy t= .a): .sr t=none:=by
 unfold fy at h
 cases e:digitsUpTo 100 t with
 |none=>rfl
 |some m=>rw[3,e]
theorem HN{ps: .bI}(R: .aV<=2)(h:ps.all fy= .a):o6 ps=none:=by
 rcases ps with _|⟨a,_|⟨b,_|⟨c,ps⟩⟩⟩
 ·cases h
 ·have:fy a= .a:=by simpa using h
  rw[46,(.sr a).map (.F7 .ew)=none,Aw this]
 ·show(match digitsUpTo 100 a,digitsUpTo 100 b with|some m,some n=>.tj n m n|_,_=>none)=none
  cases N:fy a with
  |false=>rw[Aw N]
  |true=>
   rw[207,fy b= .a,by rw[kT,N,jv]at h;simpa using h,Aw this];cases digitsUpTo 100 a<;>rfl
 ·rw[125,R,¬ .aG ps+1+1<=2]
theorem HP{a:ax}{r: .bI}(R:(.io a r)<=2)(h: .gO (a::r) fy):o6 (a::r)= .tj (wm (a::r)) (.Av:Nat) (wm (a::r)):=by
 rcases r with _|⟨b,_|⟨c,ps⟩⟩
 ·have: .x0 a:=by simpa using h
  rw[25,(.sr a).map (.F7 .ew),(qK this).1];rw[37,some (Vaunia.Q.ofInt _),.tj (1:Nat) _ 1,.n];unfold Vaunia.Q.ofInt Vaunia.Q.of;rw[.n,Nat.gcd_one_right];simp
 ·rw[kT,kT,bU,bU]at h;rw[95,(match digitsUpTo 100 a,digitsUpTo 100 b with|some m,some n=>.tj n m n|_,_=>none)=_,(qK h.1).1,(qK h.2.1).1]
 ·rw[125,R,¬ .aG ps+1+1<=2]
end
section
open Vaunih (digitsUpTo unsignedText fractionText)
def KS(T: .b)(n:Nat)(q:Option ft)(wt:Nat)(H:Hp)(Q:VK):Prop:=match q with
 |none=>∀H',.R-> .bN
 |some q=>.nW (.hD H' .fc .a4-> .mL)
def WS(T: .b)(n:Nat):Sp:=λvs H Q _=>∃(t:ax) (wt:Nat),vs=(.jQ .eu wt)/\1<=wt/\ .nV/\ .AC/\KS T n .F6 wt H Q
theorem uZ{α:Type}[.Aj]{c:α}:∀{l p: .av},p∈ .c4 l-> .K p .cw
 |[],p,h=>by cases cX.mp h;exact .y
 |d::r,p,h=>by
  rw[134,p∈(.f9 d c [] (.c4 r) (.wO [d] ((d::p)::ps)))]
  rw[bp]
  by_cases hd:d=c
  ·rw[af hd]at h'
   rcases bu.mp h' with rfl|h'
   ·exact .ab
   ·rw[23,uZ h']
  ·rw[aa hd]at h'
   cases L:splitBy c r with
   |nil=>rw[5,L,xU]
   |cons q g=>
    rw[L]at h'
    rcases bu.mp h' with rfl|h'
    ·have:=uZ (.lJ L)
     rw[84]
    ·rw[23,uZ (l:=r) (by rw[L];exact .aH h')]
theorem u7{α:Type}{G:Prop}{c: .ap α}(g: .ap α)(a:(∀x,c x->g x)->G)(b:∀x,c x->g x):G:=a b
theorem Qp{m n:Nat}{wt:Nat}(G: .lI)(j: .cV m)(D: .cV n)(h1:1<=wt)(h2: .nV)(neg:Bool):
  bP (.aq neg (Vaunia.Q.neg (.AB m)) (.AB m)) wt (.aq neg (-(.m (m/ .lH n))) (.m (m/ .lH n))) (n/ .lH n):=by
 have f:Fr.Is (.AB (m:Nat)) m n:=Fr.Is.of m (by omega)
 have low:=f.GF
 have e:=f.self
 rw[low.1,low.2]at e
 have W:2*10^100<=XX^wt:=by
  have:XX^1<=XX^wt:=.gA h1
  rw[81]
 have b1:2*(m/ .lH n)<=XX^wt:=by
  rw[30,m/ .lH n<=m,qa ..]
 have b2:2*(n/ .lH n)<=XX^wt:=by
  rw[30,n/ .lH n<=n,qa ..]
 cases neg with
 |false=>exact⟨e,by exact b1,b2,.cc⟩
 |true=>exact⟨e.neg,by show .x2 (-(.m (m/ .lH n)))<=_;rw[pU,j6];exact b1,b2,.cc⟩
theorem NI{m g:Nat}(y:0<g)(hd:g∣m):(- .ew).fdiv .qg= -(.m (m/g)):=by
 obtain⟨k,rfl⟩:=hd;rw[Lq k y,.wU _];have: -(.m (g*k))= .qg*(- .bq):=by rw[jB,yW]
 rw[this,Int.mul_ediv_cancel_left _ (by omega)]
theorem wF{m g:Nat}:(.ew).fdiv .qg=(.m (m/g)):=by rw[.wU _];rfl
theorem N6{m n:Nat}(G: .lI)(D: .cV n):hX 5000 .ew .Z= .qf (.lH n):=by
 rcases Fn (t:=(m:Int)) (d:=n) (by omega)with⟨g,h1,h2⟩|⟨h1,h2⟩
 ·rw[h1,h2,j6]
 ·exfalso;have h3:n/ .zg .ew n<=n:=qa .. ;have h4:(10:Nat)^100<=10^1000:=.F2;rw[5,cn h4 (cn h2 h3),Nat.not_le.mpr D]
theorem A1(T: .b)(n:Nat)(u:base.NoSeer)(I: .aj=none): .J P w K .x 40 T.mj.f T.mj.fd ["text","weight"] (WS T n):=by
 refine T.mj.F.az ["text","weight","below_zero","digits","top","bottom","divisor","part"] λ{cdv A outer s vs} H Q E nd W M h=> ?_;obtain⟨t,wt,rfl,hw1,hw2,R,g⟩:=h;have fdv: .tb (e_ .x P w K mg base ["text","weight","below_zero","digits","top","bottom","divisor","part"] "read_fraction" (.td 49) T.mj.f cdv A .a0 s H E) (.tc j (.wX i j)):=xu u I Y rfl rfl (xJ M (by decide));rw[0,⟨.dZ (xB F.slot_str_startswith F.type_str_startswith GR .F bq) (.en (hA (eJ .p) (xC (o_ Jk .F (mY aq) rb) bq) (xC .F bq)) (.eo (.dd (.AA (.x1 ic .a3 aq) (.nC (.wW (MD Y) "all" (.im "all" (.ps "all")) (cu (o8 (own:=[("part",7)]) Y nd (mW .a3) .qa (λs H C cl fp=>eo 7 nd) (λs H C cl fp=>uT) (λs H C cl fp=>Be (Ry T) M.m (by rfl) T.n9.g T.n9.F.kp T.n9.F.b .nil (GX Y) (.bz 7))) dO)))) f7) 4 nd (.nU tj .Az (.im "int" (.fI "int")) (bz c7 .a3 aq)) (.aC 5 nd (.wB (T.cA .a3) (.nU tj .Az (.im "int" (.fI "int")) (bz c7 .a3 aq)) aq) (.eo (.ld (pv 5) aq f7) 6 nd (.pK T.gc.gcd (Hs T.gc) M.m W 4 (pv 5)) (.dz (cS .Ay (ji .Ay) M.m W (cG (hA (eJ .p) (aL fdv (mV nu .aF) (pv 6)) (aL fdv .aF (pv 6))) (aL fdv (pv 5) (pv 6)) .e)))))))⟩,⟨_,Y,⟨_,Y⟩,.pM⟩];generalize S:Txt.startswith (stx t) ("-":Str)=b;rw[JG]at S
 have hbl:(dY t).length<=20000:=by
  unfold dY;split
  ·rw[28,List.length_tail]
  ·exact R
 rw[E8,B6,S]at g;generalize q:splitBy 47 (dY t)=ps at g;have hpn: .aY ps:=by rw[<-q];exact xU
 refine(show(∀(p:Addr) (m:Hp),(.aB m/\m p= .jv (.qe stx) V.str)->(?G: .bT Addr) p m)->_ fromλrest=> ?a) ?b
 case a=>
  refine⟨.j,.EF ?_ ?_⟩
  ·rw[c1]at S
   obtain⟨c,r,et⟩:∃c r,t=c::r:=by
    cases t with
    |nil=>cases S
    |cons c r=>exact⟨c,r,Y⟩
   have ec:nY .bG .pW none=stx r:=by rw[et];exact EN c r
   refine⟨.jn,.sh,⟨_,Y⟩,.o,Y,?_,.hR⟩
   ·rw[ec,cT,br];rw[et,bp]at R;omega
   ·generalize eH1:upd H p _=m;obtain⟨U,l⟩:=bH eH1 hp;refine rest p m ⟨U,?_⟩;rw[ec,Jz]at l;have eb:dY t=r:=by unfold dY;rw[S,af Y,et];rfl
    rw[eb]at q;rw[32,q,l]
  ·have hb':minus t= .a:=by rw[S];exact .eR▸c1
   rw[6,⟨_,Y,⟨_,Y⟩,.o,Y,.sh,.hR⟩,cJ hp λm U l=> ?_,rest p m ⟨U,?_⟩];rw[Jz]at l;have eb:dY t=t:=by unfold dY;rw[hb',.n]
   rw[eb]at q;rw[32,q,l]
 case b=>
  rintro p m ⟨U,l⟩;have hnone:o6 ps=none-> .ea m:=λe=>by rw[e]at g;cases b<;>exact g m U
  have hnone2:∀X,ae m X->o6 ps=none-> .ea X:=λX B e=>by rw[e]at g;cases b<;>exact g X (.gG U)
  have d: .jr (.vR (.qe stx)):=by rw[bh,bh]
  rw[7,⟨.cn,.ti l⟩,d];by_cases c1:2< .aV
  ·exact .fM .jY (hnone (HQ c1))
  rw[0,.A8 .g2 ?_,⟨.cn,Y,⟨.jz l⟩,λD hD=> ?_⟩];have s0:ae m (.gn m):=.n9 m hD;refine wU (λi H'=>.f2 m/\∃acc,H' D= .gK/\acc=(.fF (.d9 ps) (V.bl (fy x)))) ⟨s0,_,aB,Y⟩ (.Af (h.1 _ _ l)) (λi x H' W h=> ?_) (λX h=> ?_)
  ·rw[271,gE,gE];obtain⟨y,hy,rfl⟩:=j9.mp W;rw[269,hy]
   have hzl: .c0<=20000:=by
    have hm:z∈ .Ax (dY t):=by rw[q];exact lO hz
    exact cn (uZ hm) hbl
   refine⟨.aR,z,Y,hzl,acc,k,.ad,_,aB,?_⟩
   ·subst L;rw[113,bh,eX,br]
   ·exact .wM e hD e
   ·rw[iE,hz,L,fT];rfl
  obtain⟨B,acc,k,L⟩:=h;rw[d,iD]at L;have eacc':acc=(.qe fy).map V.bl:=by rw[L,fo];rfl
  rw[eacc']at k;refine⟨D,_,Y,ay.of k,.ac⟩;have p2:=B _ _ l;by_cases c2: .gO ps fy
  ·have e2: .gO (.qe fy) id:=by rw[C2];exact c2
   rw[9,e2,.jM];rcases ps with _|⟨a,r⟩
   ·rw[16,hpn]
   have N: .x0 a:=by rw[kT,bU]at c2;exact c2.1
   obtain⟨ha1,ha2,ha3⟩:=qK N;rw[HP (by omega) c2]at g;have hm1: .cV .Av:=cY (tu (la ha2).2) (.gA ha3);refine⟨.cn,_,.pC p2,bG (j:=0) Y,.h,.wZ ha2,.zp cT⟩;rw[159,λm2=>m2=wm (a::r)/\ .cV m2]
   case a=>
    intro rest2;rw[7,⟨.cn,.dB p2,.aJ⟩,d]
    have er:(∃b2,r=[b2])∨r=[]:=by
     rcases r with _|⟨b2,_|⟨x,r⟩⟩
     ·rw[8,Y]
     ·rw[14,⟨b2,Y⟩]
     ·rw[5,c1,.F5 bp bp]
    rcases er with⟨b2,er⟩|er
    ·have c2b: .x0 b2:=by rw[er,kT,kT,bU,bU]at c2;exact c2.2.1
     obtain⟨hb1,hb2,hb3⟩:=qK c2b;have f: .cV (Vaunia.digitsVal b2):=cY (tu (la hb2).2) (.gA hb3);have hi2:=.wZ hb2;have hbo:Vaunia.digitsVal b2=wm (a::r):=.F4
     generalize Vaunia.digitsVal b2=m2 at f hi2 hbo;rw[7,.fM ?_ ⟨.cn,_,.pC p2,bG (j:=1) (v:=V.str (stx b2)) .F4,.h,hi2,.Aw,rest2 m2 ⟨hbo,f⟩⟩,er];rfl
    ·rw[7,(aa ?_).mpr (rest2 1 ⟨.F4,by decide⟩),er];show¬ .c (.a9 (V.int 1) (V.int 2));decide
   case b=>
    rintro m2 ⟨f,hm3⟩;rw[<-f]at g;refine⟨.cs⟩;by_cases c3:m2=0
    ·subst c3;rw[47,?_];rw[.M]at g;cases b<;>exact g X (.gG U)
    ·rw[64,aa (by intro z;have:=bQ z;injection this with this;omega)];rw[aa c3]at g;have hgp:0<Nat.gcd .Av m2:=Dl _ (by omega);rw[7,⟨.j,.h,?_⟩,N6 c3 hm3];have nz:(.m (Nat.gcd .Av m2))≠0:=by omega
     have low:=Qp c3 hm1 hm3 hw1 hw2 b;refine⟨.j,?_⟩
     cases b with
     |true=>rw[0,aR ⟨.j,.b2,nz,.th,nz,.ac⟩,jg λH3 x s3 hx3=>g H3 x (.b0 U B s3) ⟨x,.h,?_,low⟩];rw[NI hgp (zo ..),wF]at hx3;exact hx3
     |false=>rw[0,aj ⟨.th,nz,.th,nz,.ac⟩,jg λH3 x s3 hx3=>g H3 x (.b0 U B s3) ⟨x,.h,?_,low⟩];rw[wF,wF]at hx3;exact hx3
  ·have c2':ps.all fy= .a:=.eR▸c2;have e2:(.qe fy).all id= .a:=by rw[C2];exact c2'
   rw[1,e2,aR (hnone2 X B (HN (by omega) c2'))]
end
def jZ:Nat:=10^1000
theorem Mr:((10:Int)^(50:Int).toNat)^(20:Int).toNat=(jZ:Nat):=by unfold jZ;decide+kernel
def VT:Sp:=λvs H Q _=>vs=[]/\Q (.a5 jZ) H
theorem SH(T: .b): .cb T.oA.f T.oA.fd [] VT:=by refine T.oA.F.az [] .f;obtain⟨rfl,q⟩:=h;rw[275,⟨.ax (.e1 HH HH aq aq aq)⟩,⟨.o,⟨show(0:Int)<=50 by decide,by show(.tg 10)*50<=2^27;decide+kernel⟩,.o,⟨show(0:Int)<=20 by decide,by show(.tg ((10:Int)^(50:Int).toNat))*20<=2^27;decide+kernel⟩,?_⟩];rw[1,Mr,q]
def jV(q:ft):Bool:=.f5 .g1 .F3&& .f5 .an .F3
def Wd(T: .b):Sp:=λvs H Q E=>∃(v:L2.V) (q:ft) (wt n:Nat),vs=[v]/\ .jN H .fc/\(.aq (jV q) (.te .tf H) (.wY T H))
theorem Hq(T: .b)(u:base.NoSeer)(I: .aj=none)(m:base.NoDigits): .J P w K .x 40 T.ow.f T.ow.fd ["number"] (Wd T):=by
 refine T.ow.F.az ["number","divisor","top","bottom"] λ{p A outer s vs} H Q E nd W M h=> ?_;obtain⟨v,q,wt,n,rfl,⟨a,t,d,rfl,⟨G,N⟩,aw⟩,g⟩:=h;have b:=.wD;have x:=T.gi.ex.U.T.num.n "top";have y:=T.gi.ex.U.T.num.n "bottom";have o: .tb (e_ .x P w K mg base ["number","divisor","top","bottom"] "fraction_text" (.td 50) T.ow.f p A .a0 s H E) (.tc j (.wX i j)):=xu u I Y rfl rfl (xJ M (by decide));refine⟨.sW (.lw T.gc.gcd (Hs T.gc) .i .i) 2 nd (.lm o .e) (.en (.lm o .e) (.bC (.cP (aU oY (.wW (Eu Y) "max" boot_max (bj (.wW z5 "abs" boot_abs (.bz 2)) .a3)) (Bf (SH T) M.m Y T.oA.g T.oA.F.kp T.oA.F.b .nil .bn)) (rg W Y T.gc.L.x Y .wV)) (.wB .a3 (.As (MJ m Y) .Au (.im "str" .At) 2) (T_ (HZ m Y .p) bq (HZ m Y .a3)))))⟩;have c:0< .il t:=Dl _ aw.pos;obtain⟨R,C⟩:=aw.is.GF;refine⟨.cR,N,b,x,dM,.cR,N,b,y,c8,.h,?_⟩;rcases Fn (t:=t) aw.pos with⟨V,h1,h2⟩|⟨h1,h2⟩
 ·rw[h1,h2];have nz:(.ta t d)≠0:=by omega
  rw[39,t.fdiv (.ta t d)= .aP,by rw[.wU _];exact R.symm,(.ay).fdiv (.ta t d)= .ik,by rw[C];exact wF]
  rw[156,⟨.cR,N,b,x,dM,.b2,nz,?_⟩,F];rw[44,⟨.cR,N,b,y,c8,.b2,nz,?_⟩];rw[9,D,⟨.j,.b2,.eP⟩];have f:(jZ:Int)<=(if .ik>(.db .aP (- .aP) .aP)then .ik else(.db .aP (- .aP) .aP))↔¬(.g1<jZ/\ .an<jZ):=by generalize jZ=B;split<;>split<;>omega
  by_cases L: .g1<jZ/\ .an<jZ
  ·rw[274,.c (jV q),by unfold jV;rw[bU,cR,cR];exact L,es,.M];rw[64,.l4 (aW (λz=>f.mp z L))];have S:jZ<=10^4300:=.F2;have b1: .g1<10^4300:=cY L.1 S;have b2:(.ik).natAbs<10^4300:=.F1 (cY L.2 S)
   refine⟨.cs⟩;unfold Vaunia.shownQ at g;by_cases l: .an=1
   ·rw[af l]at g;rw[15,.fM (by rw[l];rfl) ⟨.j,b1,?_⟩,str_int,g]
   ·rw[aa l]at g;rw[64,.dj (l (.wT z))]
    have l1:(bR .Ar).length<=1001:=by
     rw[lD];unfold Vaunia.shownInt;have:=.wS 1000 L.1;split
     ·rw[84]
     ·omega
    have l2:(.F0 .an).length<=1000:=by rw[lD];exact .wS 1000 L.2
    have r: .sx ("/":Str):=by kernel_rfl
    refine⟨.j,b1,.ac,.ac,.j,b2,.ac,?_⟩
    ·rw[98,str_int,br]
    ·rw[str_int,nQ,br,r];omega
    ·rw[str_int,pz,nQ,nQ,br,r];omega
    ·rw[str_int,pz]
     rw[10,bR (.Ar++47::Vaunia.decimal .an),bR .Ar++("/":Str)++ .F0 .an,by
      have U:("/":Str)=bR [47]:=by kernel_rfl
      rw[U,<-JF,<-JF,d8];rfl]
     rw[32,e,g]
  ·rw[274,jV q= .a,by rw[<-eU];intro z;unfold jV at z;rw[bU,cR,cR]at z;exact L z,es,.n];exact .fM (.wN f L) g
 ·rw[h1];rw[274,jV q= .a,by rw[<-eU];intro z;unfold jV at z;rw[bU,cR,cR]at z;rw[<-C]at h2;exact sk.mpr h2 z.2,es,.n];exact g
def BO(K:ag):Sp:=λvs H Q _=>∃(x C:Addr) (fr:Bool) (n:Int),vs=[.a4,.br]/\H x= .nT x none fr/\jG K C/\k_ K C "place"/\∀G,H G=none->G≠x-> .ea (upd (upd H x (xo x .w .nS fr)) G (.xd [("place",.br)]))
theorem AW(T: .b): .cb T.c_.f T.c_.fd ["self","place"] (BO K):=by
 refine T.c_.F.az ["self","place"] .f;obtain⟨x,C,fr,n,rfl,hp,b,a,q⟩:=h;rw[6,⟨_,Z (bb (HY Y T.R.ex (.bz 0))) (O (Iq Y .F .e Y)),?_⟩,⟨.fb,C,none,fr,Y,hp,b,?_⟩,⟨.j,x,C,fr,Y,aB,a,λG hd=> ?_⟩];rw[cO];rw[158,G≠x,(by rw[z,aB]at hd;cases hd)]
 rw[aC f]at hd;exact q G hd f
def zP(T: .b)(n:Nat):XK:=λcls G H=>cls= .wQ T/\∃d,G=some d/\H d=some (.xd [("place",.br)])
def gj(T: .b)(tk:Addr)(n:Nat)(H:Hp)(E:XK):Prop:=.wR .qc (zP T n cls G H'->E cls G H')
theorem Ks(T: .b){n:Nat}{E:XK}{D:Ends}{σ:L2.St}{H:Hp}{tk:Addr}(h:gj T tk n H E): .aT (.mW [L2.V.int n])/\∀x,H x=none->BO K (.a4::[.br]) (upd H x (xo x (.wQ T) none true)) (λv X=>v= .au/\∃G,X x=some (xo x (.wQ T) G true)/\E (.ref T.c_.c) G (del X x)) XF:=by
 refine⟨aY,λy g=>⟨y,T.c_.c,true,n,Y,aB,T.c_.fe.cls,T.c_.at_,λG hd f=>⟨Y,.nS,.ad⟩⟩⟩
 ·rw[aC f.symm,aB]
 ·rw[aC f]at hd;refine h _ _ _ (λb o e _=> ?_) ⟨Y,G,Y,by rw[hJ f,aB]⟩;rw[97,aN e g,aN e hd];rw[hJ h1,aC h2,aC h1,aC h1];exact e
def kZ(ws ps ln at_:L2.V): .lG:=aO "at" at_ (aO "length" ln (aO "places" ps (aO "words" ws [])))
section
variable{ws ps ln at_ v:L2.V}
theorem D3: .O (kZ ws ps ln at_) ("words":Str) ws:=by kernel_rfl
theorem LY: .O (kZ ws ps ln at_) ("places":Str) ps:=by kernel_rfl
theorem LX: .O (kZ ws ps ln at_) ("length":Str) ln:=by kernel_rfl
theorem v_: .EZ (kZ ws ps ln at_) at_:=by kernel_rfl
theorem wa{m:Str}(h:m="are_over"∨m="here"∨m="go_on"): .cy (kZ ws ps ln at_) m:=by rcases h with rfl|rfl|rfl<;>kernel_rfl
theorem LW:(kZ ws ps ln at_).length=4:=by kernel_rfl
end
def cP(T: .b)(H:Hp)(tk:Addr)(t:ax)(ts:cQ):Prop:=∃G f pl j,H tk= .bW .Ai (kZ .ai .ih (.int .C) (.a5 j))/\H f= .Aq .di (.n8 x.1)/\H pl= .Aq .di (.a5 x.2)/\ts=(.di).drop j/\j<=(.di).length/\ .gM
theorem cP.same{T: .b}{H H':Hp}{tk:Addr}{t:ax}{ts:cQ}(h: .jX)(s: .R): .hE H':=by obtain⟨G,f,pl,j,h1,h2,h3,h4⟩:=h;exact⟨G,f,pl,j,s _ _ h1,s _ _ h2,s _ _ h3,h4⟩
def WI(T: .b):Sp:=λvs H Q _=>∃(tk:Addr) (t:ax) (ts:cQ),vs=(.c3 tk)/\ .jX/\ .cx ts.isEmpty
theorem AX(T: .b): .t9 T.oR.f T.oR.fd (WI T):=by
 refine T.oR.F.az ["self"] .f;obtain⟨tk,t,ts,rfl,⟨G,f,pl,j,h1,h2,h3,rfl,D,R⟩,q⟩:=h;rw[133,.eN,⟨.ax (.ji .i .i7)⟩,⟨.nQ T "at",v_,.nQ T "words",D3,f,.dB h2,Y,?_⟩];rw[bh]
 rw[128,.t8 (j:Nat) (.EY .di),((.di).drop j).isEmpty,by
  rw[52,j,(.di).length]
  ·subst h;rw[1,y8,bC Y]
  ·rw[aW]
   ·cases hd:(fD t).drop j with
    |nil=>rw[23,Lb.mp hd]
    |cons a r=>rfl
   ·rw[110];omega,e,q]
theorem jI{α:Type}{l r: .av}{j:Nat}{x:α}(h:l.drop j=x::r):l[j]? = .aa/\l.drop (j+1)=r/\j< .cw:=by
 rw[206,j< .cw,by
  rcases Nat.lt_or_ge j l.length with h1|h1
  ·exact h1
  ·rw[3,List.drop_eq_nil_of_le h1],⟨.ad,h1⟩]
 ·rw[123,List.getElem?_drop (xs:=l) (i:=j) (j:=0),h];simpa using this.symm
 ·rw[<-List.drop_drop,h];rfl
def Wn(T: .b):Sp:=.EX (vs=(.c3 tk)/\ .jX/\(match ts with|[]=>gj T tk .C H E|x::_=>Q (.n8 x.1) H))
theorem qX(T: .b): .et T.kr.f T.kr.fd ["self"] (Wn T):=by
 refine T.kr.F.az ["self"] .f;obtain⟨tk,t,ts,rfl,l,q⟩:=h;obtain⟨G,f,pl,j,h1,h2,h3,a,b,R⟩:=id l;rw[133,.eN,⟨_,.lF (.cP (eJ (.t7 T.oR (AX T))) (Bp W Y T.c_.fe (AW T) M Y T.c_.g T.c_.F.b fL (ao .i))) (.nk .i)⟩,⟨.dW,.bF,h1,wa .ao,.qd,Y,l,.ac⟩]
 cases ts with
 |nil=>exact aR ⟨.nQ T "length",LX,Ks T (D:=⟨.nR,Q,.nR,.nR⟩) (σ:=[]) q⟩
 |cons x r=>obtain⟨U,_,_⟩:=jI a.symm;rw[4,⟨.nQ T "words",D3,.nQ T "at",v_,f,.eK h2 (.EW U),q⟩]
def BL(T: .b):Sp:=λvs H Q E=>∃(tk:Addr) (t:ax) (x: .fa) (r:cQ) (b:Bool),vs=(.f4 tk .ev)/\cP T H tk t (x::r)/\(.jk (∀H',.qc->cP T H' tk t r-> .bN) (gj T tk x.2 H E))
theorem qW(T: .b): .et T.kq.f T.kq.fd ["self","fits"] (BL T):=by
 refine T.kq.F.az ["self","fits"] .f;obtain⟨tk,t,x,r,b,rfl,⟨G,f,pl,j,h1,h2,h3,a,d,R⟩,q⟩:=h;have cl:=.eN;obtain⟨U,o,c⟩:=jI a.symm;rw[0,⟨_,Z (.cP (.nC .e) (Bp W Y T.c_.fe (AW T) M Y T.c_.g T.c_.F.b fL (ao (.nk .i)))) (O (.pX aq qJ)),?_⟩,⟨.j,?_⟩]
 cases b with
 |false=>exact aR ⟨.nQ T "places",LY,.nQ T "at",v_,pl,.eK h3 (.EW U),Ks T (D:=⟨.nR,Q,.nR,.nR⟩) (σ:=[]) q⟩
 |true=>rw[35,aj ⟨.nQ T "at",v_,.o,G,_,h1,.gN LW⟩,bc .jW,q X w2 ⟨G,f,pl,j+1,k,.t0 _ _ h2 h2 h1,.t0 _ _ h3 h3 h1,o.symm,by omega,R⟩]
def WM:Sp:=.EV (vs=[.eu]/\ .gM/\ .ij (.c2= .Aq .di (.a5 x.2)-> .dI))
theorem I0(c:UInt8): .e3=32↔c=32:=.Al (uV (c:=c) (d:=32) (by decide) (by decide)) (show .fG (32:UInt8)=32 by decide)
theorem HC{a b:Nat}:(.fR (.gy a) (.gy b))= .a9 a b:=by
 rw[52,a,b]
 ·rw[bC h,h,bC rfl]
 ·rw[aW h,aW];rw[110];injection z with z;exact h (by simpa using z)
theorem Qd{t:ax}{i:Nat}{c:UInt8}(h: .a1 t= .ae): .nO t i= .d9 t++[c]:=.EU iE
theorem SY(T: .b): .Ap T.uc.f T.uc.fd WM:=by
 refine T.uc.F.az ["text","places","before","place","sign"] .f;obtain⟨t,rfl,R,q⟩:=h;rw[20,⟨.sW .ib 2 nd bq (.bC (ik ef Y (Ug Y (T.gb "enumerate") (.bz 0)) (Ia Y (xD (eo 3 nd) (xD (eo 4 nd) Ib))) (Z (.pA (PW.pt (kH (aU jj .aF bq) (kI (.mV .p)))) (fA eY iJ iK ib .e (.bz 3)) a0) (O (aG 2 nd .aF)))) .e)⟩,⟨.ab,λl a=> ?_⟩,cJ a λm U l1=> ?_,⟨.j,?_⟩];have hsz:(.bG).cps.size= .C:=cT t;refine Ak (n:=(.bG).cps.size) (.i6 .R ((∃(b:Nat) (u v: .dH),σ=[.nP t,.gH,.E3 b,u,v]/\(.ll b)=oJ true (.d9 t))/\ .c2= .jv (fg 0 true (.d9 t)) (λn=>.a5 n))) ⟨U,⟨32,none,none,by rw[blank_eq];rfl,Y⟩,l1⟩ ?_ ?_ ?_ ?_
 ·rintro i σ H' hi _;exact hi
 ·rintro σ H' _;exact rfl
 ·rintro i x σ H' X hi ⟨s',⟨b,u,v,rfl,S⟩,s⟩ ⟨N,c,rfl,I,rfl,B⟩;have s2: .aB (.pn H' N [.a5 i,.jV]):=s'.upd I;have y:(.pn H' N [.a5 i,.jV]) l= .jv (fg 0 true (.d9 t)) (λn=>.a5 n):=.dS s I s
  have hti:i< .C:=by rw[<-hsz];exact hi
  have A: .a1 t= .i5 t:=bS hti
  have ec:c= .fG (t[i]):=by
   rw[79,.a1 (eH t)=some (.fG (t[i])),by unfold eH;rw[gE,A];rfl,.a1 (eH t)= .ae,by rw[<-kN,Cj];exact B]
   rw[h1]at h2;exact .sM h2
  subst ec;generalize t[i]=ch at A s2 y⊢;refine⟨N,_,Y,aM.of aB,Y,.h,.pM⟩;have g:=Qd A;have d:=Ih (.d9 t) 0 true ch;rw[<-g,<-S,iG,eX,qc (nI hti)]at d
  have L:∀c:UInt8,(.ll .e3)= .ll c:=λc=>by
   by_cases h:c=32
   ·rw[bC h,.wN (I0 c) h]
   ·rw[aW h,.wP ((I0 c).mp z)]
  have fin:∀V,.aB V->V l= .jv (fg 0 true (.nO t i)) (λn=>.a5 n)->∀(u v: .dH),∃(j:Nat) (F p: .dH),(.aB V/\([.nP t,.gH,.An ch,u,v]:L2.St)=[.nP t,.gH,.E3 j,F,p]/\(.ll j)=oJ true (.nO t i)):=λV C h3 u v=>⟨_,u,v,C,Y,by rw[g];unfold oJ;rw[List.getLast?_append];exact L ch⟩;rw[9,blank_eq,⟨.cs⟩];rw[HC,L];by_cases h1:ch=32
  ·rw[9,bC h1,aj (aj ⟨.ac⟩)];rw[.dj (z.1 h1),cC]at d;rw[<-d]at y;rw[272,_,s2,y,.qb i,.An ch];exact⟨s2,⟨j,F,p,k,D⟩,y⟩
  ·rw[aW h1];rw[7,aR ⟨.cs⟩,HC];by_cases h2:b=32
   ·rw[bC h2];rw[af ⟨h1,bC h2⟩]at d;rw[47,⟨.id ⟨.bP y⟩,l,.o,y,.ad⟩]
    ·rw[bh,br];rw[273,Ut (.d9 t) 0 true,eX]
    ·generalize r:upd (upd H' N _) l _=V;obtain⟨G,e⟩:=Kr r;have C: .aB V:=.Ao _ _ (s2 _ _ h) a;have l3':V l= .jv (fg 0 true (.nO t i)) (λn=>.a5 n):=by rw[e,d,fT];rfl
     rw[272,_,C,l3',.qb i,.An ch];exact⟨_,Y,C,⟨j,F,p,k,D⟩,l3'⟩
   ·rw[9,aW h2,aj ⟨.ac⟩];rw[aa (.ET z.2 (aW h2)),cC]at d;rw[<-d]at y;rw[272,_,s2,y,.qb i,.An ch];exact⟨s2,⟨j,F,p,k,D⟩,y⟩
 ·rintro σ H' ⟨s',⟨b,u,v,rfl,S⟩,s⟩;rw[hsz,iD,<-Ys,fo]at s;exact⟨_,Y,q H' l s' s⟩
theorem BR{c:UInt8}(G: .e3= .bi)(a: .Am)(t:ax): .ES (.gy .bi)=(.c4 t).map stx:=by
 have h:=split_list .bG .bi;rw[kN]at h;have h2:splitBy .bi (eH t)=(.c4 t).map eH:=.Al (BQ (f:=λc:UInt8=>.e3) (c:=c) (λd=>uV G a) (l:=t)) G
 rw[h2]at h;generalize Txt.split (stx t) ⟨#[c.toNat]⟩=xs at h;generalize splitBy c t=ys at h
 induction xs generalizing ys with
 |nil=>
  cases ys with
  |nil=>rfl
  |cons y ys=>cases h
 |cons x xs j=>
  cases ys with
  |nil=>cases h
  |cons y ys=>rw[d9,d9]at h;injection h with h1 h3;rw[d9,<-j ys h3];congr 1;exact kM h1
theorem x4{t:ax}:(L2.V.str .bG=L2.V.str ("":Str))↔t=[]:=by
 constructor
 ·rw[157];have h2: .jU .bG ("":Str):=.Ak
  rw[cT]at h2;have h3:("":Str).length=0:=by kernel_rfl
  exact vF.mp (h2.trans h3)
 ·rintro rfl;kernel_rfl
theorem BP{α:Type}[.Aj](c:α):∀l: .av,.K (.c4 l) (.aG l)
 |[]=>.y
 |d::r=>by
  show .K (.f9 d c [] (.c4 r) (.wO [d] ((d::p)::ps))) (.cv+1)
  have:=BP c r
  split
  ·rw[84]
  ·cases h:splitBy c r with
   |nil=>rw[12,1<=_]
   |cons p ps=>rw[h,bp]at this;rw[84]
def Xe(T: .b):Sp:=λvs H Q _=>∃(p G:Addr) (t:ax),vs=[.aK,.eu]/\H p= .bW .Ai []/\ .gM/\∀H',.cj p->cP T H' p t .di-> .bN
theorem Rr(T: .b): .pk P w K T.tokens.f T.tokens.fd ["self","text"] (Xe T):=by
 refine T.tokens.F.az ["self","text","word"] .f;obtain⟨p,G,t,rfl,hp,R,q⟩:=h;rw[133,.eN,⟨_,.pv (o8 (own:=[("word",2)]) Y nd (mW (xC .e bq)) .qa (λs H C cl fp=>eo 2 nd) (λs H C cl fp=>Iu (aU jj .p bq)) (λs H C cl fp=>.p)) (.f7 (.gL T.uc (SY T) .e) (T.lC .e) aq),?_⟩,⟨_,Y,⟨_,Y⟩,.o,Y,.sh,λwl0 hwl0=> ?_⟩];generalize a:upd H wl0 _=H1;rw[83,a,hwl0];have esp: .ES (" ":Str)= .nN 32 t stx:=by rw[blank_eq];exact BR (c:=32) (by decide) (by decide) t
 rw[esp]at f;generalize hps:splitBy 32 t=ps at f;have l: .aV<=10001:=by rw[<-hps];exact cn (BP _ _) (by omega)
 refine⟨wl0,Y,⟨.jz f⟩,.Ah⟩;rw[112,ae H1 .q9,.n9 H1 m,wU (λi H'=>.f2 H1/\∃acc,H' D= .gK/\acc=(.Ad (.Ag (.d9 ps) x) .cO)) ⟨j,_,aB,Y⟩ (.Af (h.1 _ _ f)) (λi x H' W h=> ?_) (λX h=> ?_)]
 ·rw[271,gE,gE];rw[270,W];rw[269,g];refine⟨.aR,.aJ⟩;by_cases u:z=[]
  ·rw[9,.wN x4 u,aj ⟨s',acc,k,?_⟩];rw[iE,hz,L,y9,u];rw[96,_,.Ae (_++[])]
  ·rw[9,aW (λz=>u (x4.mp z)),aR ⟨_,Y,acc,k,.ad,_,aB,?_⟩]
   ·subst L;rw[bh,br];rw[7,lQ (Lf _ _) ?_,eX];omega
   ·exact .wM e m e
   ·rw[iE,hz,L,y9,fT]
    have: .c (.Ef z):=by cases z with
     |nil=>rw[16,u]
     |cons _ _=>rfl
    rw[95,_=_++ .Ae (List.filter _ [z]),y_,af this]
 obtain⟨B,acc,k,L⟩:=h;have n:acc= .Ad .di (stx x.1):=by rw[L,bh,bh,iD,<-hps,<-JX,fo];rfl
 rw[n]at k;have s12:=.gG U;rw[201,D≠p,(by rw[z,U _ _ hp]at m;cases m)]
 rw[267,⟨.jO,s12 _ _ hp,.w4 T "words",.wG⟩,bc λH3 w3 N=> ?_,⟨_,Y,t,Y,R,λH4 pl A hpl4=> ?_⟩,⟨.jO,A _ _ N,.w4 T "places",.lf⟩,bc λH5 v p5=> ?_,⟨.t6,.jO,p5,.w4 T "length",.A1⟩,bc λH6 I p6=> ?_,⟨.jO,p6,.w4 T "at",.EL⟩,bc λF d p7=> ?_];have S: .zY X F:=(.b0 (SameBut.gC w3 A) v I).trans d;have nl:pl≠p:=.al hpl4 (A _ _ N);rw[cT]at p7;exact q F (.wy p s12 S) ⟨G,D,pl,0,p7,S _ _ k np,d _ _ (I _ _ (v _ _ hpl4 nl) nl) nl,Y,.ab,R⟩
section
open Vaunih (small take powerText fractionText weightText digitsUpTo)
def iL{A:Type}(T: .b)(tk:Addr)(t:ax)(H:Hp)(x: .l8 (A×cQ))(R:A-> .AZ)(Q:VK)(E:XK):Prop:=match x with
 | .error p=>gj T tk p H E
 | .ok (a,ts)=>∀H' v,.qc-> .hE H'->R a v H'-> .dL v
theorem gj.but{T: .b}{tk:Addr}{n:Nat}{H H':Hp}{E:XK}(h:gj T tk n H E)(s: .qc):gj T tk n H' E:=λcls G X B k=>h cls G X (.gG s) k
theorem nj{A:Type}{e:Nat}{f: .fd ax A}{x: .fa}{r:cQ}{a:A}(h:f x.1=some a): .ir f (x::r)= .cg a r:=by obtain⟨w,p⟩:=x;unfold take;dsimp only;rw[show f w=some a from h]
theorem ng{A:Type}{e:Nat}{f: .fd ax A}{x: .fa}{r:cQ}(h:f x.1=none): .ir f (x::r)= .error x.2:=by obtain⟨w,p⟩:=x;unfold take;dsimp only;rw[show f w=none from h]
def eS(lo hi:Nat)(x:ax): .B1:=(small x).bind λn=>.bJ (lo<=n/\n<=hi) n
theorem VN(lo hi:Nat)(x:ax):(eS lo hi x).isSome=(Vaunia.allDigits x&&(decide (.gU<=3)&&(.eM lo .iz&& .eM .iz hi))):=by unfold eS small digitsUpTo;cases h1:Vaunia.allDigits x<;>by_cases h2: .gU<=3<;>by_cases h3:lo<= .iz<;>by_cases h4: .iz<=hi<;>simp[h2,h3,h4]
theorem xT{lo hi:Nat}{x:ax}{n:Nat}(h:eS lo hi x= .jZ):n= .iz/\ .c (Vaunia.allDigits x)/\ .gU<=3/\lo<=n/\n<=hi:=by
 unfold eS small digitsUpTo at h;split at h
 ·rename_i h1;replace h:(.bJ (lo<= .iz/\ .iz<=hi) .iz)= .jZ:=h;split at h
  ·rename_i h2;rw[94,⟨Y,h1.1,h1.2,h2⟩]
  ·cases h
 ·cases h
def W0(T: .b):Sp:=λvs H Q E=>∃(tk:Addr) (t:ax) (ts:cQ) (lo hi:Nat),vs=[.ref tk,.int lo,.int hi]/\ .jX/\iL T tk t H (take .C (eS lo hi) ts) (λn v _=>v= .a5 n) Q E
theorem cP.word{T: .b}{H:Hp}{tk:Addr}{t:ax}{x: .fa}{r:cQ}(h:cP T H tk t (x::r)): .pq x.1:=by obtain⟨G,f,pl,j,h1,h2,h3,h4,h5,b⟩:=h;have W:=(jI h4.symm).1;have a:x.1∈ .k6 .di x.1:=iC.mpr ⟨x,lO W,Y⟩;rw[JX]at a;exact cn (uZ (pY.mp a).1) b
theorem cP.ins{T: .b}{H:Hp}{tk:Addr}{t:ax}{ts:cQ}(h: .jX):∃G fs,H tk= .bW .Ai fs/\ .cy fs ("are_over":Str)/\ .cy fs ("here":Str)/\ .cy fs ("go_on":Str):=by obtain⟨G,f,pl,j,h1,_⟩:=h;exact⟨G,_,h1,wa .ao,wa .xl,wa (.tx Y)⟩
theorem xq(T: .b): .gI T.mm.f T.mm.fd ["tokens","least","most"] (W0 T):=by
 refine T.mm.F.az ["tokens","least","most","word"] .f;obtain⟨tk,t,ts,lo,hi,rfl,l,g⟩:=h;have oH:=.Az;rw[290,⟨_,.aC 3 nd (dq .F .eN T.kr (qX T) M W) (.bC (bb (c5 .F .eN T.kq (qW T) M W (ao (lB (Bj CD CF AM .a3) (lB (fO iU (T.lC .a3) aq) (kF (Bg iU iU .e (.As tj oH boot_int 3) .p))))))) (.As tj oH boot_int 3)),?_⟩,⟨.dW,G,fs,Y,o,L,.qd,Y,l,?_⟩]
 cases ts with
 |nil=>exact g
 |cons x r=>
  have v:=l.word;rw[7,⟨.dW,G,fs,Y,o,N,_,Y,⟨_,Y⟩,.ex,.bo,_,rfl,?_⟩,Ax];have s:=VN lo hi x.1
  have key:∀b:Bool,b=(eS lo hi x.1).isSome->BL T (.f4 tk .ev) H (λ_ m=>B0 (rq (λxs H Q=>∃a n,xs=[.AQ]/\intText? a= .jZ/\ .cZ<=640/\ .dr n) (cN (x9 3) f9)) ⟨.we,Q,.gP,.gP⟩ [.I tk,.ig lo,.ig hi,.nP x.1] m) E:=by
   intro b S;refine⟨tk,t,x,r,b,Y,l,?_⟩
   cases e:eS lo hi x.1 with
   |none=>rw[e]at S;subst S;rw[64,.n];rw[27,ng e,g]
   |some n=>rw[e]at S;subst S;obtain⟨c,hd,h3,_⟩:=xT e;rw[nj e]at g;rw[70,Y,λH' s' i=>⟨_,Y,.h,.wZ hd,.zp cT⟩];rw[32,c,g H' _ s' i rfl]
  cases hd:Vaunia.allDigits x.1 with
  |false=>rw[18,key .a ?_];rw[24,s,hd]
  |true=>
   rw[7,aR ⟨.t6,.eP⟩,cT];by_cases h3: .xb x.1
   ·rw[70,.jY,⟨.j,.h,.wZ hd,.Aw,.eP⟩];by_cases h4:lo<=Vaunia.digitsVal x.1
    ·rw[0,.fM .jY ⟨.b2,?_⟩,key _ ?_];rw[s,hd,bC h3,bC h4,jv,jv,jv];by_cases h5:Vaunia.digitsVal x.1<=hi
     ·rw[bC h5,.jY]
     ·rw[aW h5,.g2]
    ·rw[126,.g2,key .a ?_];rw[s,hd,bC h3,aW h4];rfl
   ·rw[126,.g2,key .a ?_];rw[s,hd,aW h3];rfl
end
section
open Vaunih (small take powerText fractionText weightText digitsUpTo)
theorem QG{x:ax}(h:∀r,x≠45::r):minus x= .a:=by
 rw[276]
 ·rename_i r;rw[16,h r]
 ·rfl
theorem Il(x:ax):powerText x=(.Ft (dY x)).map λn=>.aq (minus x) (- .Z) .Z:=by
 unfold powerText dY;split
 ·rfl
 ·rename_i h;rw[19,QG λr z=>h r z]
theorem TK(x:ax):(.Ft x).isSome=(Vaunia.allDigits x&&decide (.gU=1)):=by
 unfold digitsUpTo
 cases h1:Vaunia.allDigits x with
 |false=>simp
 |true=>
  have:=(la h1).1
  have h2:1<= .gU:=by
   cases x with
   |nil=>rw[16,this]
   |cons _ _=>rw[84]
  by_cases h3: .gU<=1
  ·rw[24,af ⟨Y,h3⟩,.jY]
  ·rw[24,.dj (h3 z.2),.g2]
theorem Bo{x:ax}{k:Int}(h:powerText x= .e0): .Fu .cO .e0/\ .gU<=2/\ -9<=k/\k<=9:=by
 rw[Il]at h;obtain⟨n,G,rfl⟩:=j9.mp h;unfold digitsUpTo at G;split at G
 ·rename_i h1;cases G;have F:Vaunia.digitsVal (dY x)<10:=by have:=tu (la h1.1).2;have h2:10^(dY x).length<=10^1:=.gA h1.2;omega
  cases j:minus x with
  |false=>
   have g:dY x=x:=by unfold dY;rw[j,.n]
   rw[g]at h1 F;rw[1,g,⟨.wZ h1.1,by omega,by simp only[pL,lp];omega,by simp only[pL,lp];omega⟩]
  |true=>
   rcases x with _|⟨c,r⟩
   ·cases j
   have g:dY (c::r)=r:=by unfold dY;rw[j,.M];rfl
   rw[g]at h1 F;rw[g];rw[GN]at j;have B:=bQ j;subst B;refine⟨?_,.o4,by rw[.M];omega,by rw[.M];omega⟩;obtain⟨h3,h4⟩:=la h1.1;rw[af Y,<-EY h4];refine intText_neg (x:=stx (45::r)) (cs:=eH r) Y (λn G=> ?_) (λz=>h3 (vG.mp z)) (by rw[cT,bp];omega);obtain⟨c,B,rfl⟩:=iC.mp G;rw[BD (h4 c B)];have:=h4 c B;unfold Vaunia.isDigit at this;simp only[bU,cR]at this;rw[81]
 ·cases G
def WQ(T: .b):Sp:=.EX (vs=(.c3 tk)/\ .jX/\iL T tk t H (take .C powerText ts) (λk v _=>v= .int k) Q E)
theorem SA(T: .b): .gI T.t7.f T.t7.fd ["tokens"] (WQ T):=by
 refine T.t7.F.az ["tokens","word","digit"] .f;obtain⟨tk,t,ts,rfl,l,g⟩:=h;have oH:=.Az;rw[290,⟨.sW (dq .F .eN T.kr (qX T) M W) 2 nd (hA (eJ (xB F.slot_str_startswith F.type_str_startswith GR .e bq)) (o_ Jk .e (mY aq) rb) .e) (.bC (bb (c5 .F .eN T.kq (qW T) M W (ao (lB (Bj CD CF AM .p) (kF (.ji (T.lC .p) aq)))))) (.nU tj oH boot_int .e))⟩,⟨.dW,G,fs,Y,o,L,.qd,Y,l,?_⟩]
 cases ts with
 |nil=>exact g
 |cons x r=>
  have v:=l.word;rw[159,λd:ax=>d=dY x.1]
  case a=>
   intro rest;rw[7,⟨_,Y,⟨_,Y⟩,.eP⟩,JG]
   have S:∀d:ax,d=dY x.1->(minus x.1= .a->stx x.1=stx d)/\(.c (minus x.1)->nY (stx x.1) .pW none=stx d):=by
    rintro d rfl;refine⟨.qy ?_ ?_⟩
    ·unfold dY;rw[h,.n]
    ·unfold dY;rw[h,.M]
     cases U:x.1 with
     |nil=>rw[3,U]
     |cons c r=>exact EN c r
   obtain⟨d,hd⟩:∃d,d=dY x.1:=⟨_,Y⟩;obtain⟨u,p⟩:=S d hd;by_cases j: .c (minus x.1)
   ·rw[15,.fM j ⟨.jn,.sh,?_⟩,p j,rest d hd]
   ·have e:=u (.eR▸j);rw[291,rest d hd,e];exact(aa j).mpr ⟨_,Y,this⟩
  case b=>
   intro d hd
   have A: .pq d:=by
    rw[hd];unfold dY;split
    ·rw[28,List.length_tail]
    ·exact v
   have s:=TK d
   have key:∀b:Bool,b=(.Ft d).isSome->BL T (.f4 tk .ev) H (λ_ m=>B0 (rq (λxs H Q=>∃a n,xs=[.AQ]/\intText? a= .jZ/\ .cZ<=640/\ .dr n) (cN (x9 1) f9)) ⟨.we,Q,.gP,.gP⟩ [.I tk,.nP x.1,.nP d] m) E:=by
    intro b S;refine⟨tk,t,x,r,b,Y,l,?_⟩;have q:=Il x.1;rw[<-hd]at q
    cases e:digitsUpTo 1 d with
    |none=>rw[e]at S q;subst S;rw[64,.n];rw[27,ng q,g]
    |some n=>rw[e]at S q;subst S;rw[nj q]at g;obtain⟨f,k,_⟩:=Bo q;exact .fM Y λH' s' i=>⟨_,Y,.h,f,.Aw,g H' _ s' i rfl⟩
   rw[7,⟨.dW,G,fs,Y,o,N,_,Y,⟨_,Y⟩,.ex,.bo,_,rfl,?_⟩,Ax]
   cases y:Vaunia.allDigits d with
   |false=>rw[18,key .a ?_];rw[24,s,y]
   |true=>
    rw[58,aR ⟨.t6,Y,?_⟩,cT,key _ ?_];rw[s,y,jv];by_cases h1: .sx d
    ·rw[19,h1]
    ·rw[aW h1,aW];rw[110];omega
end
section
open Vaunih (small take powerText fractionText weightText digitsUpTo)
def uH(e:Nat)(ts:cQ): .l8 ((ft×Nat)×cQ):=match take e fractionText ts with
 | .error q=>.dq
 | .ok (q,s)=>.fF (.ir weightText s) ((q,x.1),x.2)
def WD(T: .b):Sp:=.EX (vs=(.c3 tk)/\ .jX/\iL T tk t H (uH .C ts) (λx v H'=>bw T.vc H' 0 (.num x.1 x.2) v) Q E)
theorem Sz(T: .b)(u:base.NoSeer)(I: .aj=none): .J P w K .x 41 T.t6.f T.t6.fd ["tokens"] (WD T):=by
 refine T.t6.F.az ["tokens","word"] .f;obtain⟨tk,t,ts,rfl,l,g⟩:=h;rw[290,⟨.eX (.t7 T.kr (qX T)) (.bC (bb (c5 .F .eN T.kq (qW T) M.m W (ao (xy (uP (.qs T.mj (A1 T 0 u I) aq)))))) (.qs T.mj (A1 T 0 u I) (.nt T.mm (xq T) M.m W aq (T.bE "MOST_WEIGHT" 200))))⟩,⟨.dW,G,fs,Y,o,L,.qd,Y,l,?_⟩];unfold uH at g
 cases ts with
 |nil=>exact g
 |cons x r=>
  have j:=l.word;refine⟨_,Y,tk,G,fs,Y,o,N,_,Y,x.1,1,Y,by decide,by decide,by omega,?_⟩
  cases e:fractionText x.1 with
  |none=>intro m U;rw[27,ng e,⟨tk,t,x,r,.a,Y,.k5 l,(.n).mpr (.tr (ae.but U))⟩]
  |some q=>
   intro m y U k;rw[108,nj e,⟨tk,t,x,r,true,Y,.k5 l,.AX Y ?_⟩];have f: .qu X:=.wy tk U B;refine⟨_,Y,_,Y,tk,t,r,1,200,Y,s,?_⟩;have g':iL T tk t H (.fF (take .C (eS 1 200) r) ((q,x.1),x.2)) (λx v H'=>bw T.vc H' 0 (.num x.1 x.2) v) Q E:=g
   cases r with
   |nil=>exact gj.but g' f
   |cons z r=>
    cases D:eS 1 200 z.1 with
    |none=>rw[ng D]at g'⊢;exact gj.but g' f
    |some wt=>rw[nj D]at g'⊢;obtain⟨_,_,_,a,b⟩:=xT D;rintro V v C S rfl;rw[7,⟨x.1,wt,Y,a,b,.pr⟩,e];intro i d A c;exact g' i (.ref d) (.b0 f C (ae.but A)) (S.same A) c
end
section
open Vaunih (Instr small take powerText fractionText weightText digitsUpTo txt instr)
def Wr(T: .b):Sp:=λvs H Q E=>∃(tk:Addr) (t:ax) (x: .fa) (r:cQ),vs=(.c3 tk)/\cP T H tk t (x::r)/\iL T tk t H (instr .C x.1 x.2 r) (λy v H'=>de T H' y v) Q E
theorem x3{a b:Str}(h:a≠b): .fR a b= .a:=.wP (by injection z)
theorem wL{s:Str}:∀ks: .H,hZ (.str s) (.jF ks)= .g0 s ks
 |[]=>(aW (by simp)).symm
 |k::ks=>by
  have j:=wL (s:=s) ks
  rw[25,(k==s)||hZ (.str s) (.jF ks),j]
  rw[52,k,s]
  ·rw[h,Ef,Bool.true_or,bC .aS]
  ·rw[lg.mpr h,yA]
   by_cases h2:s∈ks
   ·rw[bC h2,bC (.aH h2)]
   ·rw[aW h2,aW]
    intro z
    rcases bu.mp z with z|z
    ·exact h .c5
    ·exact h2 z
theorem FG{s:Str}: .B0 s [.Fs,.AW,.str "fn",.Fr,.Fq,.qx,.tv,.tu]= .g0 s rm:=wL rm
theorem Q9:stx (txt "num")=("num":Str):=by decide+kernel
theorem Uw:stx (txt "pow")=("pow":Str):=by decide+kernel
theorem Q8: .tw "num":=by decide+kernel
theorem Uv: .tw "pow":=by decide+kernel
theorem FH(e p:Nat)(r:cQ): .iq .xa p= .fF (uH e r) (.num x.1.1 x.1.2,x.2):=by
 unfold instr uH
 cases take e fractionText r with
 |error q=>rfl
 |ok x=>obtain⟨q,s⟩:=x;dsimp only;cases take e weightText s<;>rfl
theorem FI(e p:Nat)(r:cQ): .iq .tn p= .fF (.ir powerText r) (.pow x.1,x.2):=by
 rw[79,Vaunih.plainWord .tn=none,by decide+kernel,Vaunih.countedWord .tn=none,rfl];unfold instr;rw[h1,h2];rw[.n,.M]
theorem VM(x:ax):small x=eS 0 999 x:=by
 unfold eS
 cases h:small x with
 |none=>rfl
 |some n=>
  have h':=h;unfold small digitsUpTo at h';split at h'
  ·rename_i h1;cases h';have:=tu (la h1.1).2;have h2:10^ .gU<=10^3:=.gA h1.2;rw[37,some _,.bJ (0<= .iz/\ .iz<=999) .iz,af ⟨.ab,by omega⟩]
  ·cases h'
theorem Yp{e:Nat}{ts:cQ}: .ir small ts= .ir (eS 0 999) ts:=by rw[show small=eS 0 999 from funext VM]
theorem iL.behind{A B:Type}{T: .b}{tk:Addr}{t:ax}{H X:Hp}{x: .l8 (A×cQ)}{f:A->B}{R:B-> .AZ}{R2:A-> .AZ}{Q r:VK}{E:XK}(g:iL T tk t H (.ix x (f y.1,y.2)) R Q E)(s: .qu X)
  (h:∀(a:A) (ts:cQ),x= .cg a ts->∀H' v,.qc-> .hE H'->R2 a v H'->(∀F u,.qu F-> .hE F->R (f a) u F->Q u F)->r v H'):iL T tk t X x R2 r E:=by
 cases x with
 |error p=>exact .tr s
 |ok y=>
  obtain⟨a,ts⟩:=y
  exactλH' v s' i U=>h a ts Y H' v (.wk s') i U g
theorem Sy(T: .b)(hN:base.NoSeer)(I: .aj=none): .J P w K .x 42 T.tZ.f T.tZ.fd ["tokens"] (Wr T):=by
 refine T.tZ.F.az ["tokens","word"] .f;obtain⟨tk,t,x,r,rfl,l,g⟩:=h;obtain⟨G,fs,o,hi2,L,N⟩:=l.ins;rw[6,⟨.eX (.t7 T.kr (qX T)) (.i1 (bb (c5 .F .eN T.kq (qW T) M.m W (ao (aJ T.tR (Sh T) M.m W (ao .e))))) (.ld .e bq (cS .lP (xm .lP) M.m W (cG .e aq (.ce T.t6 (Sz T hN I) M W 0)))) (.xg .e bq (cS .lP (xm .lP) M.m W (cG .e (.ce T.t7 (SA T) M.m W 0) f7)) (.dd (aU mS .e (jl Y T.bJ.g) Y) (cS .lP (xm .lP) M.m W (cG .e (.nt T.mm (xq T) M.m W aq (T.bE "MOST_SMALL" 999)) f7))) (cS .lP (xm .lP) M.m W (cG .e aq f7))))⟩,⟨.dW,G,fs,Y,o,L,tk,t,_,Y,l,?_⟩,⟨.dW,G,fs,Y,o,N,.j,tk,t,x,r,_,Y,l,?_⟩]
 have mk:∀(y:Instr) (ts:cQ) (V:Hp) (val:L2.V),pS y-> .qu V-> .hE V->(∀q wt,y= .fc->bw T.vc V 0 .fc val)->(∀F u,.qu F-> .hE F->de T F y u->Q u F)->
   ∀p d,V p=none->V d=none->d≠p->BM .AY (.aK::([.str (dB y),.int (f6 y),val]++[])) (.eL (upd V d (.own p)) p .AY d []) (λu X=>u= .au/\ .bV p X) E:=λy ts V val ok C S hv q=>
  Qw λH4 i A s4 N=>q H4 .fH (C.trans (ae.but s4)) (S.same s4) ⟨ok,i,A,val,Y,N,λa b c=>(hv a b c).same s4⟩
 rcases Ki x.1 with⟨h1,h2⟩|U|U|⟨f,h1,h2,h3,h4,h5,j,m,R,h9⟩|⟨y,h1,h2,h3,h4,h5,j,m,R,h9⟩
 ·rw[h1];rw[27,h2,(.n).mpr g]
 ·rw[U,FH]at g;rw[U,Q9,Q8];rw[70,Y,λX B s=>⟨.f0,aR ⟨.j,tk,t,r,Y,s,iL.behind (f:=λy=>Instr.num y.1 y.2) g B ?_⟩⟩];rintro⟨q,wt⟩ ts e V v C S hv q3;exact mk .fc ts V v ⟨by show(-9:Int)<=0;decide,by show(0:Int)<=999;decide,λk z=>(by cases z)⟩ C S (λa b z=>by cases z;exact hv) q3
 ·rw[U,FI]at g;rw[U,Uw,Uv];rw[0,.AX Y ⟨.cs⟩,aj ⟨.f0,aR ⟨.j,tk,t,r,Y,s,iL.behind g B ?_⟩⟩];rintro k ts e V v C S rfl q3
  have hk: -9<=k/\k<=9:=by
   cases r with
   |nil=>cases e
   |cons z r=>
    cases D:powerText z.1 with
    |none=>rw[45,ng D]
    |some k'=>rw[213,nj D,⟨(.bA (Bo D)).1,(.bA (Bo D)).2⟩]
  exact mk .o5 ts V .au ⟨hk.1,by show k<=999;omega,λk' z=>(by cases z;exact hk.2)⟩ C S (λa b z=>by cases z) q3
 ·rw[h5,Yp]at g;rw[h1];rw[7,.AX Y ⟨.cs⟩,x3 h2];rw[111,aj ⟨.cs⟩,x3 h3,aj ⟨_,Y,T.bJ.a,_,Y,.inr T.bJ.k.sq,Y,.aJ⟩,.fM (FG.trans (bC h4)) ⟨_,Y,_,Y,tk,t,r,0,999,Y,s,iL.behind g B ?_⟩];rintro n ts e V v C S rfl q3
  have hn:n<=999:=by
   cases r with
   |nil=>cases e
   |cons z r=>
    cases D:eS 0 999 z.1 with
    |none=>rw[45,ng D]
    |some n'=>rw[213,nj D,.kW (xT D)]
  rw[165,mk (f n) ts V .au ⟨by rw[m];omega,by rw[m];omega,λk z=>.qw (h9 n k)⟩ C S (λa b z=>.qw (R n a b)) q3,j,m]
 ·rw[h5]at g;rw[h1];rw[7,.AX Y ⟨.cs⟩,x3 h2];rw[58,aj ⟨.cs⟩,x3 h3,aj ⟨_,Y,T.bJ.a,_,Y,.inr T.bJ.k.sq,Y,.aJ⟩];have hin:¬(.c (.tt (.n8 x.1) [.Fs,.AW,.str "fn",.Fr,.Fq,.qx,.tv,.tu])):=by rw[FG,aW h4];decide
  rw[105,aa hin,⟨.ac⟩];rw[165,mk y r X .au ⟨by rw[m];decide,by rw[m];decide,λk z=>.qw (h9 k)⟩ B s (λa b z=>.qw (R a b)) g,j,m]
end
section
open Vaunih (Instr)
def VQ(T: .b):Sp:=λvs H Q _=>∃(at_:Nat) (i:L2.V) (x:Instr),vs=[.gV,i]/\ .ii i/\ .dr ((at_:Int)+1+f6 x)
theorem Hk(T: .b): .cb T.qv.f T.qv.fd ["at","instruction"] (VQ T):=by refine T.qv.F.az ["at","instruction"] .f;obtain⟨at_,i,x,rfl,⟨ok,i,A,val,rfl,hi,X⟩,q⟩:=h;rw[2,⟨.ax (.e1 c9 c9 .F aq .T)⟩,⟨.b2,.hZ,.dG,.pQ,.o,q⟩]
def uC: .cd->Int
 | .bind=>1
 | .part _=>2
 | .free n=> - .Z
 |_=>0
def Wx(T: .b):Sp:=.AS (vs=[i]/\ .ii i/\ .dr (uC x))
theorem Sk(T: .b): .J0 T.tS.f T.tS.fd (Wx T):=by
 refine T.tS.F.az ["instruction"] .f;obtain⟨i,x,rfl,⟨ok,i,A,val,rfl,hi,X⟩,q⟩:=h;rw[252,.dG,.fP,.sa];rw[349,⟨_,.xg .i bq aq (.ld .i bq aq) (hA (.mV .i) (mV nu .i) aq),?_⟩,⟨.nf,.aJ⟩,uC x=0-> .de≠"bind"-> .de≠"part"-> .de≠"free"-> .dr 0,λe _ _ _=>by rw[e]at q;exact q]
 cases x with
 |bind=>exact aR q
 |part n=>rw[4,⟨.nf,.n7 q⟩]
 |free n=>rw[4,⟨.kV ⟨.nf,.n7 ⟨.hZ,cl,.k3,q⟩⟩⟩]
 |truth b=>cases b<;>rw[4,⟨.kV ⟨.kV q⟩⟩]
 |op o=>cases o<;>rw[4,⟨.kV ⟨.kV q⟩⟩]
 |_=>rw[4,⟨.kV ⟨.kV q⟩⟩]
end
section
open Vaunih (Instr Reach)
def nO(bl ins bg rc tn:L2.V): .lG:=aO "torn" tn (aO "reached" rc (aO "beginning" bg (.G9 ins (.tJ bl []))))
section
variable{bl ins bg rc tn:L2.V}
theorem zF: .FI (nO bl ins bg rc tn) bl:=by kernel_rfl
theorem sv: .O (nO bl ins bg rc tn) ("instructions":Str) ins:=by kernel_rfl
theorem Ly: .O (nO bl ins bg rc tn) ("beginning":Str) bg:=by kernel_rfl
theorem j_: .O (nO bl ins bg rc tn) ("reached":Str) rc:=by kernel_rfl
theorem DG: .O (nO bl ins bg rc tn) ("torn":Str) tn:=by kernel_rfl
theorem DF: .cy (nO bl ins bg rc tn) ("hand_on":Str):=by kernel_rfl
end
def qp(H:Hp): .bk .bM L2.V
 |none,v=>v= .au
 |some r,v=>∃a,v= .B/\H a= .aE [.a5 .b8,.a5 .cp]
structure fI(T: .b)(L: .g)(H:Hp)(p rl tl:Addr)(c:aX)(b:cM)(beg:Nat)(rc: .ml)(tn: .kk):Prop where
 obj:∃dp bl li ixs,H p= .oZ T.bW.c (nO bl (.ref li) (.int beg) (.ref rl) (.ref tl))/\ .nB/\aD L H li= .a7 ixs/\ .xk T .ba .ey ixs
 ri:∃rs,H rl= .a7 rs/\Paired (qp H) rc rs
 lE:H tl= .jv tn L2.V.bl
 len: .aA rc (.ak+1)/\ .aA tn (.ak+1)/\ .AO
 ne:rl≠tl
 out:rl∉L/\tl∉L
def xj(c:aX): .c1 .cd
 | .fn k=>k==0|| .ws c k
 |_=>.a
def WB(T: .b)(L: .g):Sp:=λvs H Q _=>∃(p u tl:Addr) (c:aX) (b:cM) (C:Nat) (rc: .ml) (tn: .kk) (i:L2.V) (x:Instr),vs=[.aK,i]/\ .e9 H rc tn/\ .ii i/\ .cx (xj c x)
theorem Se(T: .b)(L: .g): .cb T.tP.f T.tP.fd ["passage","instruction"] (WB T L):=by
 refine T.tP.F.az ["passage","instruction"] .f;obtain⟨p,u,tl,c,b,C,rc,tn,i,x,rfl,ps,⟨ok,i,A,val,rfl,hi,X⟩,q⟩:=h;obtain⟨dp,bl,f,j,hp,I,m,a⟩:=ps.obj;obtain⟨l,bs,rfl,R,d,y,g⟩:=I;have n:=b_ d;rw[252,.dG,.fP,.sa];rw[0,⟨.ax (.AV .T bq (Bk (Bg gO gO aq .T .i7)))⟩,⟨.nf,.aJ⟩]
 cases x with
 |fn k=>
  rw[47,⟨.hZ,cl,r,dS,.eP⟩];rw[136,k]
  ·subst F;rw[4,⟨_,Y,q⟩]
  ·rw[70,bC (show .gg (f6 (.fn k)) by show .gg .bq;omega),⟨.n4,hp,T.bW.cl,.DW T,zF,l,.ti (.X R)⟩]
   rw[10,k==0|| .eM .nx k,! .f5 (f6 (.fn k)) (.zP bs),by
    rw[lg.mpr F,yA];by_cases h: .nx<=k
    ·rw[24,bC h,aW];rw[12,¬ .bq<_]
    ·rw[24,aW h,bC];rw[12,.bq<_]]
   rw[32,e,q]
 |truth b=>cases b<;>rw[4,q]
 |op o=>cases o<;>rw[4,q]
 |_=>rw[4,q]
end
section
open Vaunih (Instr Reach)
def uF(C pl:Nat): .c1 .cd
 | .get j=>.eM pl j
 | .free n=>.f5 pl (C+n)
 |_=>.a
def WC(T: .b)(L: .g):Sp:=λvs H Q _=>∃(p u tl:Addr) (c:aX) (b:cM) (C:Nat) (l: .ml) (y: .kk) (i:L2.V) (x:Instr) (pl:Nat),vs=[.aK,i,.int pl]/\ .e9 H l y/\ .ii i/\ .cx (uF C pl x)
theorem Sf(T: .b)(L: .g): .cb T.tQ.f T.tQ.fd ["passage","instruction","places"] (WC T L):=by
 refine T.tQ.F.az ["passage","instruction","places"] .f;obtain⟨p,d,tl,c,b,C,l,y,i,x,pl,rfl,ps,⟨ok,i,A,val,rfl,hi,X⟩,q⟩:=h;obtain⟨dp,bl,f,k,hp,I,m,a⟩:=ps.obj;rw[252,.dG,.fP,.sa];rw[349,⟨_,.lF (.ld .T bq (fO oY .T .p)) (.AV .T bq (fO gO (aL fN .p .T) .i))⟩,⟨.nf,.aJ⟩,∀{u v:Bool},u=v-> .cx u-> .cx v,λ{u v} e h=>e▸h]
 cases x with
 |get j=>
  rw[47,⟨.hZ,cl,r,dS,.b2,fin ?_ q⟩];by_cases h:pl<=j
  ·exact .uV (bC h) (bC (.zm (.m pl) .fT))
  ·exact .uV (aW h) (.xj (¬(.m pl)<= .fT))
 |free n=>
  rw[18,⟨.nf,.n7 ⟨.iy,hi,cl,r,dS,.o,.n4,hp,T.bW.cl,.JD T,Ly,.o,fin ?_ q⟩⟩];by_cases h:pl<C+n
  ·exact .uV (bC h) (bC (show(.m pl)- .Z<(C:Int) by omega))
  ·exact .uV (aW h) (.xj (¬(.m pl)- .Z<(C:Int)))
 |truth b=>cases b<;>rw[4,⟨.kV q⟩]
 |op o=>cases o<;>rw[4,⟨.kV q⟩]
 |_=>rw[4,⟨.kV q⟩]
end
section
open Vaunih (Instr Reach)
def cz(a b:Addr)(H H':Hp):Prop:=∀x o,H x= .l->x≠a->x≠b-> .b4= .l
theorem cz.refl{a b:Addr}(H:Hp):cz a b H H:=λ_ _ h _ _=>h
theorem cz.trans{a b:Addr}{H c X:Hp}(s:cz a b H c)(t:cz a b c X):cz a b H X:=λx o h n m=>t x o (s x o h n m) n m
theorem ae.fu{a b:Addr}{H H':Hp}(s: .R): .fC a b:=λx o h _ _=>s x o h
theorem SameBut.z3{a b:Addr}{H H':Hp}(s: .cj a): .fC a b:=λx o h n _=>s x o h n
theorem SameBut.Es{a b:Addr}{H H':Hp}(s: .cj b): .fC a b:=λx o h _ n=>s x o h n
theorem cz.kp{L: .g}{a b:Addr}{H H':Hp}{xs ys: .N}(s: .fC a b)(N:H a= .cu)(S:H b= .a7 ys)(na:a∉L)(y:b∉L):Kp L H H':=λx o h=>by
 rw[93,jL h,lj (s x o h1 .t1 .t1) h2]
 ·rw[205,N,aW na]
 ·rw[205,S,aW y]
theorem xO{α:Type}{d:α}:∀(l: .av) (i:Nat),l.set i (l.getD i d)=l
 |[],_=>rfl
 |_::_,0=>rfl
 |x::l,i+1=>by
  rw[25,x::l.set i (l.getD i d),xO l i]
theorem UE{α β:Type}{R: .nG}{x:α}{y:β}(c:R x y){xs: .av}{ys: .lA}(h: .pZ):∀i,.vQ (xs.set i x) (ys.set i y):=by
 induction h with
 |nil=>exactλ_=>.nil
 |cons h t j=>
  intro i
  cases i with
  |zero=>rw[62,c,t]
  |succ i=>rw[62,h,j i]
theorem qp.fu{a b:Addr}{H H':Hp}{xs ys: .N}(s: .fC a b)(N:H a= .cu)(S:H b= .a7 ys){o: .bM}{v:L2.V}(h:qp H o v):qp H' o v:=by
 cases o with
 |none=>exact h
 |some r=>obtain⟨t,e,V⟩:=h;exact⟨t,e,s _ _ V (.al V N) (.al V S)⟩
theorem fI.same{T: .b}{L: .g}{H H':Hp}{p u tl:Addr}{c:aX}{b:cM}{C:Nat}{l: .ml}{y: .kk}(h: .e9 H l y)(s: .R): .e9 H' l y:=by obtain⟨⟨dp,bl,f,k,h1,h2,h3,h4⟩,⟨rs,h5,j⟩,m,R,F,B⟩:=h;exact⟨⟨dp,bl,f,k,s _ _ h1,.wv h2,s.kp _ _ h3,.g4 h4 (.wv z)⟩,⟨rs,s _ _ h5,.g4 j (z.fu (ae.fu (a:=u) (b:=tl) s) h5 m)⟩,s _ _ m,R,F,B⟩
theorem fI.wrote{T: .b}{L: .g}{H H':Hp}{p u tl:Addr}{c:aX}{b:cM}{C:Nat}{l d: .ml}{y e: .kk}{G: .N}(h: .e9 H l y)(s: .fC u tl)
  (h1:H' u= .a7 G)(h2:Paired (qp H') d G)(h3:H' tl= .jv e L2.V.bl)(h4: .aA d .cw)(h5: .jU e y): .e9 H' d e:=by
 obtain⟨⟨dp,bl,q,o,f,k,D,B⟩,⟨rs,g,v⟩,R,⟨m,n,j⟩,a,i⟩:=h
 have kp:=s.kp g R i.1 i.2
 exact⟨⟨dp,bl,q,o,s _ _ f (.al f g) (.al f R),.aZ k,kp _ _ D,.g4 B (.aZ z)⟩,⟨G,.cc⟩,h3,⟨.ga,j⟩,a,i⟩
theorem eR{c v:Bool}{A B:Prop}(e:c=v)(h1: .c v->A)(h2:v= .a->B): .k4 A B:=by
 subst e
 cases c with
 |true=>exact h1 Y
 |false=>exact h2 rfl
def Wk(T: .b)(L: .g):Sp:=λvs H Q _=>∃(p u tl:Addr) (c:aX) (b:cM) (C:Nat) (l: .ml) (y: .kk) (at_:Nat) (r:Reach),vs=[.aK,.gV,.int .b8,.int .cp]/\ .e9 H l y/\at_< .cw/\∀H',.fC u tl-> .e9 H' (l.set at_ (sP (.zb l) r)) (y.set at_ (sO (.zb l) (.s4 y) r))-> .bN
theorem FT{n i:Nat}(h:i<n)(G:n<=1000000):lr n .er=some i:=by unfold lr;rw[.rb,.rb,i0]
theorem Hu(T: .b)(L: .g): .cb T.qQ.f T.qQ.fd ["self","at","height","places"] (Wk T L):=by
 refine T.qQ.F.az ["self","at","height","places"] .f;obtain⟨p,u,tl,c,b,C,l,y,at_,r,rfl,ps,G,q⟩:=h;obtain⟨dp,bl,li,ixs,hp,I,m,o⟩:=ps.obj;obtain⟨rs,R,e⟩:=ps.ri;have n:=ps.lE;obtain⟨l1,l2,l3⟩:=ps.len;rw[150,T];have S:=.vN T;have B:=.JB T;have s:=b_ e;rw[183,l[at_]? =some (.zb l),i4,bS G]
 obtain⟨v,hv,i⟩:=dP e g;rw[0,⟨_,O (aQ (.n1 .jd) (O (Io (dE (.lh 2 .a3)) (H_ .i .e set_list))) (O (.cP (aU (TR M.units) .jd (dE (.lh 2 .a3))) (Io iV (H_ .i .e set_list))))),?_⟩,⟨.mJ,S,.mI R hv,.ac⟩];generalize hO:l.getD at_ none=d at q g i
 cases d with
 |none=>cases i;rw[47,⟨.j,aY,.nH⟩];generalize eH1:upd H t _=H1;rw[83,eH1,V];rw[63,⟨.n4,U _ _ hp,cl,S,j_,_,Y,u,_,_,at_,Y,Y,U _ _ R,FT (by omega) (by omega),?_⟩,.jW];have b2:cz u tl H X:=(ae.fu U).trans .IT;rw[227,q X b2 (ps.wrote b2 k (UE ⟨t,Y,.t0 _ _ f f (U _ _ R)⟩ (.g4 e (z.fu b2 R n)) at_) ?_ (pX ..) (pX ..)),_=some (HO.lst ((y.set at_ (.s4 y)).map L2.V.bl)),xO,w2 _ _ (U _ _ n) ps.ne.symm]
 |some j=>
  obtain⟨a,rfl,N⟩:=i;rw[18,⟨.mJ,S,.mI R hv,.j,aY,.nH⟩];generalize eH1:upd H t _=H1;rw[83,eH1,V];have x:l.set at_ .hv=l:=by rw[<-hO,xO]
  refine⟨_,_,.tup (aM.of (U _ _ N)) (.pS (.int _) (.int _)),.tup (aM.of f) (.pS (.int _) (.int _)),Y,.aJ⟩;have eE:PyData.eqv (.tuple [.a5 j.height,.a5 j.locals]) (.tuple [.a5 .b8,.a5 .cp])= .a9 j r:=by show((.m j.height)==(.m .b8)&&(((.m j.locals)==(.m .cp))&&true))= .a9 j r;obtain⟨x1,y1⟩:=j;obtain⟨x2,y2⟩:=r;rw[j3];simp;omega
  rw[eE];by_cases A:j=r
  ·rw[9,bC A,aj (q H1 (ae.fu U) ?_)];rw[39,sP .hv r= .hv,rfl,sO .hv (.s4 y) r= .s4 y,.BK (_|| .Cc j r) _ (aW (λz=>z A)) Bool.or_false]
   rw[F,D,x,xO];exact .k5 ps
  ·rw[89,aW A,aR ⟨.n4,U _ _ hp,cl,B,DG,_,Y,tl,_,_,at_,Y,Y,U _ _ n,FT .Em .Em,?_⟩,bc .jW];have b2:cz u tl H X:=(ae.fu U).trans (SameBut.Es w2);rw[39,sP .hv r= .hv,rfl,.c (sO .hv (.s4 y) r),.BK (_|| .Cc j r) _ (bC A) rG]
   refine q X b2 ?_;rw[F,D,x];refine ps.wrote b2 (w2 _ _ (U _ _ R) ps.ne) (.g4 e (z.fu b2 R n)) ?_ Y (pX ..);rw[k,List.map_set]
end
section
open Vaunih (Instr Op Hand Over Machine work advance longest)
abbrev Out(r R:Addr)(H H':Hp):Prop:=.t2 b (b≠r->b≠R-> .dg= .l)
theorem Out.refl{r R:Addr}{H:Hp}: .sl H:=λ_ _ h _ _=>h
theorem Out.trans{r R:Addr}{H H' F:Hp}(s: .nK)(e:Out r R H' F): .sl F:=λb o h n k=>e _ _ (s b o h n k) n k
theorem SameBut.out{r R:Addr}{H H':Hp}(s: .ia): .nK:=λb o h n _=>s b o h n
theorem Out.kp{L: .g}{r R C y:Addr}{H H':Hp}{bl a lf dn oc p rs mk:L2.V}{ms: .N}(s: .nK)(M:H r= .pw y (.jA a p))(j:H R= .a7 ms)(W:R∉L):Kp L H H':=λb o h=>by
 rw[93,jL h,lj (s b o h1 .t1 .t1) h2]
 ·rw[205,M,km]
 ·rw[205,j,aW W]
def sf(T: .b)(L: .g)(H:Hp)(c:aX)(g:Machine)(j:Nat)(v:L2.V):Prop:=∃t fv,v= .bc/\aD L H t= .aE (.jQ fv (.bj g (64*j)).calls)/\ .nz T (.bj g (64*j)).frames fv
theorem sf.kp{T: .b}{L: .g}{H H':Hp}{c:aX}{g:Machine}{j:Nat}{v:L2.V}(h:sf T L H c g j v)(s:Kp L H H'):sf T L H' c g j v:=by obtain⟨t,fv,e,h1,h2⟩:=h;exact⟨t,fv,e,s _ _ h1,.df h2⟩
structure fq(T: .b)(L: .g)(H:Hp)(r ml:Addr)(c:aX)(m0:Machine)(n:Nat)(bl:L2.V):Prop where
 run:gH T L H r c (.q4 n) bl .br (.ref ml)
 oS:ml∉L
 marks:∃ms,H ml= .a7 ms/\ .aA ms ((n+63)/64)/\∀j v,ms[j]? = .aQ->sf T L H c m0 j v
 before:∀j,j<n->(.lD m0 j)=none
 ok:∀j,j<=n->j8 (.q4 j)
 bZ:∀j,j<=n->lI c m0 j
 left: .f8 m0<=900000
theorem fq.bound{T: .b}{L: .g}{H:Hp}{r R:Addr}{c:aX}{g:Machine}{n:Nat}{bl:L2.V}(h: .fZ H n):n<=900001:=by
 rcases n with _|n
 ·omega
 ·have:=(h.bZ n (by omega)).on (h.before n (by omega));rw[23,h.left]
def W4(T: .b)(L: .g):Sp:=λvs H Q _=>∃(r R:Addr) (c:aX) (g:Machine) (n:Nat) (bl:L2.V),vs=(.c3 r)/\ .fZ H n/\(.lD g n)=none/\∀H',.nK-> .fZ H' (n+1)-> .bN
theorem YT{G:Prop}{p: .ap XK}(E0:XK)(a:p E0->G)(b:p E0):G:=a b
theorem ke{X:Cx}{b: .e2}{t t':TS}(h:eF X b t)(e:t=t'):eF X b t':=e▸h
theorem dv.E7{T: .b}{F:Hp}{n:Nat}{fr:cx}{rest: .aW}{v:L2.V}(h:dv T F n .nF v): .zW (v= .B) (F a= .hY fs/\eL K C/\hG K C "folds"/\ .EQ fs (.bl (match fr with| .block _ _ _ _ _=>.a| .fold _ _ _ _ _=>true))):=by
 cases fr with
 |block b i ls ws d=>obtain⟨_,a,G,ro,pl,u,rs,ps,e,h,_⟩:=h;exact⟨a,_,G,_,e,h,.f3,.Ey T,yw⟩
 |fold f left l d hand=>obtain⟨a,G,co,g,u,fv,us,e,h,_⟩:=h;exact⟨a,_,G,_,e,h,.sG,T.fr.ff.n "folds",yP⟩
theorem Hm(T: .b)(L: .g)(u:base.NoSeer)(hP: .aj=none): .J P w K .x 45 T.qx.f T.qx.fd ["run"] (W4 T L):=by
 refine T.qx.F.az ["run","refused"] .f;obtain⟨r,R,c,m0,n,bl,rfl,ra,B,q⟩:=h;obtain⟨⟨⟨y,s,oc,rf,rs0,F,htp,hov⟩,I⟩,oS,⟨ms,hml,hmn,hms⟩,before,ok,bZ,left⟩:=id ra;rw[51];refine⟨_,.i1 (.pA (.pj (.lm TQ (T.bE "BETWEEN_MARKS" 64))) (.nh iJ iK ib .i (dE (bj .i .i))) a0) (.pX aq qJ) (O (Ip (i:=1) (tb:= ?tb) (ts:= ?ts) Y rfl rfl nd Y rfl rfl T.R.g ?S ?hs)),?main⟩
 case S=>intro pn xe E hx' hpo;refine ke (.i3 (eJ .jR) (aJ T.t_ (SM T L) M.m hx' (bj .F .i)) (.bB (aJ T.t9 (SK T L u hP) M hx' (bj .F .i)))) ?_;dsimp only[Cx.gS];exact rfl
 case hs=>intro A;refine ke (.wK (T.bE "WAS_REFUSED" 2) (HX .e Y)) ?_;dsimp only[Cx.gB];exact rfl
 have top:=(ok n (aI n)).top B;have fsok:=(ok n (aI n)).fs;generalize hmm:stN c m0 n=m at*;have hadv: .q4 (n+1)=(match work c m with| .ok x=>x| .error k=>{m with over:=some (.refused k)}):=by show .nL m0 n=_;rw[hmm,D_ B];rfl
 have mokn:j8 (.q4 (n+1)):=by show j8 (.nL m0 n);rw[hmm];exact(Ea I.small (hmm▸ok n (aI n)) B htp.short).1
 have few':∀j,j<=n+1->lI c m0 j:=λj D=>by
  rcases Dn D with D|rfl
  ·exact bZ j (by omega)
  ·exact(bZ n (aI n)).next I.small (ok n (aI n)) (hmm▸B) (hmm▸htp.short)
 have bnd:=ra.bound
 have ok':∀j,j<=n+1->j8 (.q4 j):=λj D=>by
  rcases Dn D with D|rfl
  ·exact ok j (by omega)
  ·exact mokn
 have before':∀j,j<n+1->(.lD m0 j)=none:=λj D=>by
  rcases Dn (Nat.le_of_lt_succ D)with D|rfl
  ·exact before j D
  ·rw[1,hmm,B]
 rw[155,B];have n0:r≠R:=.al F hml;refine(show(∀(H1:Hp) (ms1: .N),(.sl H1/\H1 r= .pU y (cw bl s .ww .br .aX .aX .au .q1)/\H1 R= .a7 ms1/\ms1.length=(n+1+63)/64/\∀j v,ms1[j]? = .aQ->sf T L H1 c m0 j v)->(?G: .f1) H1)->_ fromλrest=> ?a) ?b
 case a=>
  refine⟨.fU,F,.A0 T,i7,.o,show(0:Int)<64 by decide,.aR,.pN ?_⟩
  ·have c1':n%64=0:=by
    rw[268,.Z%64=0]
   rw[20,⟨.fU,F,.wF T,zJ,.inl ⟨.bP hml⟩,.fU,F,N,.po T,sE,.fU,F,.A2 T,v8,aY,λt1 ht1=> ?_⟩,cJ ht1 .sU,⟨R,.o,U _ _ hml,.nI⟩,bc .EP];have o2: .sl X:=λb o h n1 n2=>w2 _ _ (U _ _ h) n2;rw[109,L,X,o2.kp F hml oS,rest X _ ⟨o2,w2 _ _ (U _ _ F) n0,k2,.wJ (_+1=_),λj v D=> ?_⟩];rw[List.getElem?_append]at D;split at D
   ·exact(hms j v D).kp kp
   ·rename_i hj1;have ej:j= .A6:=by have:=.dD D;simp only[Lg]at this;omega
    subst ej;rw[256,lT];have e64:64* .A6=n:=by omega
    refine⟨t1,s,Y,c0 (o:=.tup (.jQ s (.q4 (64* .A6)).calls)) ?_ Y,?_⟩
    ·rw[13,e64,hmm,.t0 _ _ k1 k1 (U _ _ hml)]
    ·rw[13,e64,hmm,.Aa]
  ·have c1':n%64≠0:=λz=>t (by
    rw[204,.Z%64=0]
    rw[46,.c (.zz (.Z%64) .aX),this])
   exact rest H ms ⟨Out.refl,F,hml,by omega,hms⟩
 case b=>
  rintro H1 ms1 ⟨o1,h1,hm1,hl1,hms1⟩;rw[82,⟨.eZ,y,.mP,.A0 T,i7,.o,y,_,h1,.ei⟩,Iw,.EP];have o12:Out r R H1 X:=SameBut.out w2;have o2: .sl X:=o1.trans o12;have kp1:Kp L H1 X:=o12.kp h1 hm1 oS;rw[43,L,X,o2.kp F hml oS];have hm2:=w2 _ _ hm1 n0.symm;rw[203,(.Z+1)=(.lr n)]
  rw[en]at k2;have run2:gH T L X r c m bl (.sZ n) .q1:=⟨⟨y,s,.cT,k2,.Aa,.zS ⟨.f6⟩⟩,.jC⟩;have fin:∀V,Out r R X V->gH T L V r c (.q4 (n+1)) bl (.sZ n) .q1->V R= .a7 ms1-> .ea V:=λV o3 run3 hm3=>q V (o2.trans o3) ⟨run3,oS,⟨ms1,hm3,hl1,λj v D=>((hms1 j v D).kp kp1).kp (o3.kp k2 hm2 oS)⟩,before',ok',few',left⟩
  have res:∀(E':XK),(∀(k:Nat),work c m= .Ab->eM T.R .bq X E')->Res T L X r c bl (.sZ n) .q1 (work c m) .we E':=by
   intro E' hE
   cases e:work c m with
   |error k=>exact hE k e
   |ok m'=>intro V b3 run3;rw[e]at hadv;rw[15,fin V b3.out ?_ (b3 _ _ hm2 n0.symm),hadv,run3]
  apply YT (p:=λE'=>∀(k:Nat),work c m= .Ab->eM T.R .bq X E')
  case a=>
   intro wr;rcases hfs:m.frames with _|⟨f,below⟩
   ·rw[hfs]at top;rw[132]
   have htp2:=.Aa;have hfl:=htp2;rw[hfs]at hfl;obtain⟨fa,fC,fdx,ffs,etp,hf1,hf2,hf3,hf4⟩:=hfl.E7;refine⟨.fU,k2,N,.po T,sE,fa,fC,fdx,ffs,_,etp,.X hf1,hf2,hf3,hf4,.ac⟩
   cases f with
   |block b i ls ws d=>rw[4,⟨.j,r,_,y,.h,k2,N,.po T,sE,⟨r,s,bl,.sZ n,.q1,c,m⟩,Y,⟨.l2,_,_,hfs⟩,⟨run2,B,htp2,fsok,res _ wr⟩⟩]
   |fold f left l d hand=>
    rw[47,⟨.j,r,_,y,.h,k2,N,.po T,sE,⟨r,s,bl,.sZ n,.q1,c,m⟩,Y,⟨.l2,_,_,hfs,?_⟩,⟨run2,B,htp2,fsok,res _ wr⟩⟩];rw[hfs]at top
    cases hand with
    |result z=>rw[14,⟨z,Y⟩]
    |both g x=>rw[8,⟨g,x,Y⟩]
    |element x=>rw[132]
    |nothing=>rw[132]
  case b=>rintro k ek cls dx V s3 ⟨C,d,rfl,hcatch,xa,rfl,hd⟩;rw[0,⟨hcatch,λea hea=> ?_⟩,cJ hea λH4 s4 k4=> ?_];have s24:=s3.trans s4;have r4:=s24 _ _ k2;rw[82,⟨.cU,r4,.wz T,.ei⟩,Bs,λH5 w5 r5=> ?_];have nea:ea≠r:=.al k4 r4;have nd':d≠r:=.al (s4 _ _ hd) r4;rw[82,⟨_,Y,ea,C,d,.a,.h,w5 _ _ k4 nea,w5 _ _ (s4 _ _ hd) nd',xa,.aR,r,_,y,_,Y,r5,.zZ T,.ei⟩,Iz,.Er];have b6:SameBut r X H6:=.b0 (ae.but (r:=r) s24) w5 w6;have kp6:Kp L X H6:=b6.kp k2 km;rw[ek]at hadv;rw[15,fin H6 b6.out ?_ (b6 _ _ hm2 n0.symm),hadv,⟨⟨y,s,.cT,r6,(.Aa).same kp6,⟨.f6⟩⟩,run2.code.same kp6⟩]
end
section
open Vaunih (Instr Op Hand Over Machine work advance longest)
def Ba: .A9->Int
 |none=>0
 |some (.ended _)=>1
 |some (.refused _)=>2
theorem lU.oc{C:VC}{F:Hp}{n:Nat}{o: .A9}{oc p rs:L2.V}(h:lU C F n o oc p rs):oc= .int (Ba o):=by
 cases o with
 |none=>exact h.1
 |some o=>cases o<;>exact h.1
def W7(T: .b)(L: .g):Sp:=λvs H Q _=>∃(r R:Addr) (c:aX) (g:Machine) (n most:Nat) (bl:L2.V),vs=(.jQ .i4 most)/\ .fZ H n/\∀H' k,.nK-> .fZ H' (n+k)->k<=most->(k=most∨ .wI g (n+k))->Q (.int k) H'
theorem Hn(T: .b)(L: .g)(u:base.NoSeer)(hP: .aj=none): .J P w K .x 46 T.qy.f T.qy.fd ["run","most"] (W7 T L):=by
 refine T.qy.F.az ["run","most","before"] .f;obtain⟨r,R,c,g,n,most,bl,rfl,f,q⟩:=h;rw[51];have D:=.EO T;have S:=.A7 T;refine⟨.dZ .i (.wH ef (.vY (.wi .i "GOES_ON" 0) gO (.lm fN .p) .e) (.bB (.ce T.qx (Hm T L u hP) M W 0)) (.lm fN .p))⟩;obtain⟨⟨y,s,oc,p,l,F,htp,hov⟩,I⟩:=f.run;rw[0,⟨.fU,F,N,S,i7,?_⟩,⟨λj σ H'=>∃k,j=most-k/\σ=[.I r,.ig most,.ig n]/\ .nK/\ .fZ H' (n+k)/\k<=most,⟨most,0,Y,Y,Out.refl,f,.ab⟩,?_⟩];rintro j σ H' ⟨k,rfl,rfl,v,a,G⟩;obtain⟨⟨b,tp1,oc1,rf1,rs1,h1,V,d⟩,m⟩:=a.run;have x:(.m (n+k))- .Z= .bq:=by omega
 have fin:(k=most∨ .wI g (n+k))->Q (.int ((.m (n+k))- .Z)) H':=λB=>by rw[x];exact q H' k v a G B
 have i:=d.oc;subst i;refine⟨.eZ,b,.ie,D,kY,.aJ⟩
 cases hs:(stN c g (n+k)).over with
 |some o=>
  rw[10,.zz (Ba .l) .aX,.a,by cases o<;>rfl]
  rw[2,.A8 e ?_,aj ⟨.eZ,b,.ie,S,i7,.b2,fin (.inr (by rw[hs];rfl))⟩]
 |none=>
  rw[47,⟨.eZ,b,.ie,S,i7,.b2,.i9,.pN ?_⟩]
  ·have A:k<most:=.wr t
   rw[2,⟨_,.q2⟩,⟨_,Y,r,R,c,g,n+k,bl,Y,a,hs,λX C U=>⟨most-(k+1),by omega,k+1,Y,Y,.q3 v,U,by omega⟩⟩]
  ·have A:k=most:=.wq (.eR▸t)
   exact⟨.eZ,b,.ie,S,i7,.b2,fin (.inl A)⟩
def VO(T: .b)(L: .g):Sp:=λvs H Q _=>∃(r R:Addr) (c:aX) (g:Machine) (n:Nat) (bl:L2.V),vs=(.c3 r)/\ .fZ H n/\∀H' k,.nK-> .fZ H' (n+k)-> .wI g (n+k)-> .bN
theorem RK(T: .b)(L: .g)(u:base.NoSeer)(I: .aj=none): .J P w K .x 46 T.tF.f T.tF.fd ["run"] (VO T L):=by
 refine T.tF.F.az ["run"] .f;obtain⟨r,R,c,g,n,bl,rfl,f,q⟩:=h;rw[51];have D:=.EO T;rw[0,⟨_,O (mZ ef (.wi .i "GOES_ON" 0) (.bB (.ce T.qx (Hm T L u I) M W 0))),?_⟩,⟨λj σ H'=>∃k,j=1000000-(n+k)/\σ=[.I r]/\ .nK/\ .fZ H' (n+k),⟨_,0,Y,Y,Out.refl,f⟩,?_⟩];rintro j σ H' ⟨k,rfl,rfl,v,a⟩;obtain⟨⟨b,p,s,t,x,h1,V,d⟩,m⟩:=a.run;have i:=d.oc;subst i;have l:=a.bound;refine⟨.eZ,b,.ie,D,kY,.aJ⟩
 cases y:(stN c g (n+k)).over with
 |some o=>
  rw[131,.zz (Ba .l) .aX,.a,by cases o<;>rfl,.A8 e (q H' k v a (by rw[y];rfl))]
 |none=>rw[2,aR ⟨_,.q2⟩,⟨_,Y,r,R,c,g,n+k,bl,Y,a,y,λX C U=>⟨1000000-(n+(k+1)),by omega,k+1,Y,Y,.q3 v,U⟩⟩]
end
section
open Vaunih (Instr Op Hand Over Machine work advance longest)
def VP(T: .b)(L: .g):Sp:=λvs H Q _=>∃(r R:Addr) (c:aX) (g:Machine) (n k:Nat) (bl:L2.V),vs=(.jQ .i4 k)/\ .fZ H n/\k<=n/\(.sY a)/\∀H' h,.ia->(h=R∨H h=none)->fq T L H' r h c g (n-k) bl-> .bN
theorem R9(T: .b)(L: .g)(u:base.NoSeer)(hP: .aj=none): .J P w K .x 47 T.tM.f T.tM.fd ["run","n"] (VP T L):=by
 refine T.tM.F.az ["run","n","wanted","number","mark"] .f;obtain⟨r,R,c,g,n,k,bl,rfl,f,G,hL,q⟩:=h;rw[51];have S:=.A7 T;refine⟨_,.eo (.cP (.pj .e) UC) 2 nd (.lm fN .e) (.en (aL HE .p (T.bE "BETWEEN_MARKS" 64)) (.aC 4 nd (.nk .a3) (.pv (o_ Jj .i rb (mY .a3)) (.gC .jH .jH (.gC (aL A9 .a3 (T.bE "BETWEEN_MARKS" 64)) (T.bE "GOES_ON" 0) (.gC aq f7 (.bB (.eU T.qy (Hn T L u hP) .F (aL fN .p .i))))))))),?_⟩;obtain⟨⟨⟨y,s,oc,rf,rs0,h0,htp,hov⟩,I⟩,oS,⟨ms,x,hmn,hms⟩,before,ok,bZ,left⟩:=id f;refine⟨.f0,.pN ?_⟩
 ·have A:k=0:=by
   rw[268,.bq=0]
  subst A;exact q H R SameBut.refl .ao f
 have A:k≠0:=λz=>t (by subst z;rfl);have bnd:=f.bound;rw[202,.Z- .bq=(.gE n k),(.gE n k)/64=(.m ((n-k)/64))]
 rw[156,⟨.fU,h0,N,S,i7,.b2,?_⟩,F];rw[156,⟨.b2,⟨show(0:Int)<64 by decide,show(64:Int)<1073741824 by decide⟩,?_⟩,D];generalize hw:n-k=wt at*;generalize hnum:wt/64=nm at*;have hnm:nm< .A6:=by omega
 obtain⟨C,hmv⟩:∃v,ms[nm]? = .aQ:=⟨_,bS hnm⟩;obtain⟨mt,fv,rfl,hmt,hfv⟩:=hms nm C hmv;rw[0,⟨.fU,h0,.wF T,zJ,_,Y,R,.eK x hmv,?_⟩,⟨.fU,h0,.wF T,zJ,.j,R,_,Y,ay.of x,.hR⟩];generalize a:upd H p _=H1;obtain⟨U,l⟩:=bH a hp;have m:fU ms none (some (nm:Int))=ms.take nm:=by unfold fU;rw[HT.uU,HT.ph,r_,qf,.sH]
 rw[m]at l;have i:=U _ _ h0;have t1:=U _ _ (.X hmt);rw[82,⟨.eZ,y,_,Y,i,.wF T,.ei⟩,UK,λX w2 r2=> ?_];have B:mt≠r:=ky t1 Y i;have t2:=w2 _ _ t1 B;rw[82,⟨_,Y,mt,_,.o,aM.of t2,bG (j:=0) Y,.cU,r2,N,.fQ⟩,kG,λV w3 r3=> ?_];have t3:=w3 _ _ t2 B;rw[111,⟨_,Y,mt,_,.o,aM.of t3,bG (j:=1) Y,.cU,r3,.A2 T,.ei⟩,Iy,bc λH4 w4 r4=> ?_,⟨.b2,.sg ⟨show-(2^64)<(64:Int) by decide,show(64:Int)<2^64 by decide⟩,r,_,y,_,Y,r4,N,S,.ei⟩];rw[266,Iw,bc λH5 w5 r5=> ?_,⟨.cU,r5,.wz T,.ei⟩,Bs,bc .Er,⟨.cU,r6,.zZ T,.ei⟩];rw[89,Iz,bc λH7 d r7=> ?_,⟨.cU,r7,.zT T,.ei⟩];rw[9,IA,bc λH8 w8 r8=> ?_];have w28:SameBut r H1 H8:=.b0 (.b0 (.b0 w2 w3 w4) w5 w6) d w8;have e: .d8 r H8:=.wy r U w28;rw[43,L,H8,e.kp h0 km];rw[201,p≠r,(by rw[z,h0]at hp;cases hp)]
 have e64:(nm:Int)*64=(.m .lC):=by omega
 dsimp only at r8;rw[e64]at r8;have e9: .nJ-(.m .lC)=(.gE wt .lC):=by omega
 rw[156,⟨.j,.fU,r8,N,S,i7,.pM⟩,e9];have hb64: .lC<n:=by omega
 refine⟨r,p,c,g,.lC,wt- .lC,bl,Y,⟨⟨⟨y,fv,.cT,r8,hfv.same kp,by rw[before _ hb64];exact⟨.f6⟩⟩,.jC⟩,λz=>hL p z hp,⟨ms.take nm,w28 _ _ l np,.A5,λj v hj=> ?_⟩,λj hj=>before j (by omega),λj hj=>ok j (by omega),λj hj=>bZ j (by omega),left⟩,λH9 k9 o9 ra9 hk9 hc9=> ?_⟩
 ·rw[List.getElem?_take]at hj;split at hj
  ·exact(hms j v hj).kp kp
  ·cases hj
 ·have ek:k9=wt- .lC:=by
   rcases hc9 with h|h
   ·exact h
   ·by_cases hlt:k9<wt- .lC
    ·rw[3,before _ (by omega)]
    ·omega
  have ew: .lC+k9=wt:=by omega
  rw[ew]at ra9;refine q H9 p (λb o h n1=>o9 _ _ (e _ _ h n1) n1 (.aN hp)) (.inr hp) ra9
end
section
open Vaunih (Instr Op Hand Over Machine work advance longest)
theorem dv.below{T: .b}{F:Hp}{n:Nat}{fr:cx}{rest: .aW}{v:L2.V}(h:dv T F n .nF v):∃a C G fs u,v= .B/\F a= .hY fs/\eL K C/\hG K C "below"/\ .so fs ("below":Str) .V/\dv T F n rest u:=by
 cases fr with
 |block b i ls ws d=>obtain⟨_,a,G,ro,pl,u,rs,ps,e,h,_,_,_,_,j⟩:=h;exact⟨a,_,G,_,u,e,h,.f3,T.fr.bf.n "below",yt,j⟩
 |fold f left l d hand=>obtain⟨a,G,co,g,u,fv,us,e,h,_,_,_,_,j⟩:=h;exact⟨a,_,G,_,u,e,h,.sG,T.fr.ff.n "below",yN,j⟩
def rP(T: .b)(F:Hp)(n:Nat)(fr:cx)(v:L2.V):Prop:=∃rest,dv T F n .nF v
def Wf(T: .b)(L: .g):Sp:=λvs H Q _=>∃(r:Addr) (c:aX) (m:Machine) (bl dn mk:L2.V),vs=(.c3 r)/\ .jG T L H r c m/\ .EM<=1000000/\∀H' l us,.R-> .c2= .fY->Paired (rP T .ba .az) .sX us-> .dI
theorem prev{α β:Type}{R: .nG}{xs: .av}{ys: .lA}(h: .pZ): .vQ .A4 ys.reverse:=by
 induction h with
 |nil=>rw[71]
 |cons h t j=>rw[13,kW,kW,.nD j h]
theorem Hr(T: .b)(L: .g): .et T.qz.f T.qz.fd ["run"] (Wf T L):=by
 refine T.qz.F.az ["run","frames","frame"] .f;obtain⟨r,c,m,bl,dn,mk,rfl,⟨⟨y,tp,oc,p,rs,F,f,S⟩,I⟩,d,q⟩:=h;have t:=.np;rw[68,⟨.sW .ib 2 nd .i (.wH ef (gz (uP .p)) (Z (bb (fA eY iJ iK ib .e (.bz 2))) (O (aG 2 nd .gF))) (Bi Y rfl .A3 Y .EN (ao .e)))⟩,⟨.ab,λl R=> ?_⟩,cJ R λH1 U l1=> ?_,⟨.fU,U _ _ F,t,.po T,sE,?_⟩,⟨λj σ H'=>∃(fd rest: .aW) (done: .N) (u:L2.V),j= .ic/\σ=[.I r,.gH,.V]/\ .R/\ .c2= .a7 done/\ .lB=fd++rest/\Paired (rP T .ba .az) fd done/\ .nz T rest u,⟨_,[],.lB,[],tp,Y,Y,U,l1,Y,.nil,f⟩,?_⟩];rintro j σ H' ⟨fd,rest,done,u,rfl,rfl,s',s,n,hp,i⟩;have A:=b_ hp;have x: .EM=fd.length+ .ic:=by rw[n,bL]
 refine⟨.j,?_⟩
 cases rest with
 |nil=>cases i;rw[18,⟨_,Y,l,done,Y,ay.of s,λl2 k=> ?_⟩];rw[cC]at n;rw[15,q _ l2 _ (s'.upd k) aB ?_,n,prev hp]
 |cons fr rest=>obtain⟨a,C,G,fs,v,rfl,N,cl,na,V,g⟩:=i.below;rw[bp]at x;rw[6,aR ⟨fun σ' e=>∃D,D< .ic+1/\∃(fd rest: .aW) (done: .N) (u:L2.V),D= .ic/\σ'=[.I r,.gH,.V]/\ .aB e/\e l= .a7 done/\ .lB=fd++rest/\Paired (rP T .ba .az) fd done/\ .nz T rest u,.q2⟩,⟨.id ⟨.bP s⟩,l,.o,s,.nI⟩,bc λX w2 l2=> ?_];have B: .jP:=λb o h=>w2 _ _ (.dU h) (.aN R);exact⟨.cR,B _ _ (.X N),cl,na,V,.ic,by omega,fd++[fr],rest,_,v,Y,Y,B,l2,by rw[n,d8];rfl,.nD hp ⟨rest,i⟩,g⟩
def WY(T: .b):Sp:=λvs H Q _=>∃(p G:Addr) (bl lf pl:L2.V),vs=[.aK,bl,lf,pl]/\H p= .bW .sp []/\∀H' f I t R,.cj p->H f=none->H t=none->H R=none->H' p= .bW .sp (cw bl .ai lf .aX .aX .aX .au .q1)->H' f= .bX .sV I (du .aX .aX .bc pl .aX .au)->H' t= .aE []->H' R= .a7 []-> .bN
theorem Rq(T: .b): .et T.run.f T.run.fd ["self","blocks","budget","values"] (WY T):=by
 refine T.run.F.az ["self","blocks","budget","values"] .f;obtain⟨p,G,bl,lf,pl,rfl,hp,q⟩:=h;rw[51];rw[20,⟨_,.pv .e (.gC (cS T.fr.bf (AV T.fr.bf) M W (uM aq aq (dE dO) .a3 aq f7)) .p (.gC aq (T.bE "GOES_ON" 0) (.f7 aq f7 .ib))),?_⟩,⟨.ek,_,.bF,hp,.zI T,.wG⟩,bc λm w1 l=> ?_,⟨.ab,.nH⟩];generalize U:upd m t _=H2;obtain⟨B,t2⟩:=bH U V;refine⟨_,Y,λf I g ndf ne=>⟨f,I,_,.cK,.nA⟩⟩;generalize eH3:upd (upd (upd H2 I _) f _) f _=H3;obtain⟨C,f3⟩:=mK eH3 g ndf;rw[20,⟨.jO,C _ _ (B _ _ l),N,.po T,.lf⟩,bc λH4 L A=> ?_,⟨.ek,_,.bF,A,.A2 T,.A1⟩,bc λk v p5=> ?_];rw[267,⟨.jO,p5,.A0 T,.EL⟩,bc λr w6 p6=> ?_,⟨.jO,p6,.wz T,.dV (4<1000)⟩,bc λF d p7=> ?_,⟨.jO,p7,.zZ T,.dV (5<1000)⟩,bc λc i p8=> ?_,⟨.jO,p8,.zT T,.dV (6<1000)⟩,bc λj w9 p9=> ?_,⟨.ab,λR x=> ?_⟩];generalize eH10:upd j R _=H10;obtain⟨n,ml10⟩:=bH eH10 x;rw[63,⟨.jO,n _ _ p9,.wF T,.dV (7<1000)⟩,λH11 u a=> ?_];have y: .zY H3 j:=(.b0 (.b0 L v w6) d i).trans w9;have b2: .d8 p H2:=SameBut.gC w1 B;have X: .d8 p j:=(b2.gC C).trans y;have b11: .d8 p H11:=(X.gC n).trans u
 have old:∀{b o},H b= .l->m b≠none:=λ{b o} h z=>by
  rw[17,b,p]
  ·rw[200,l]
  ·rw[22,w1 _ _ h e]
 have old2:∀{b o},H b= .l->H2 b≠none:=λ{b o} h z=>by
  rcases S:m b with _|o'
  ·exact old h S
  ·rw[22,B _ _ S]
 have old9:∀{b o},H b= .l->j b≠none:=λ{b o} h z=>by
  rw[17,b,p]
  ·rw[200,p9]
  ·rw[22,X _ _ h e]
 have au:∀{b:Addr},(∀o,H b= .l-> .bU)->H b=none:=λ{b} h=>by
  rcases S:H b with _|o
  ·rfl
  ·exact(h o S).elim
 have D:∀{b o},H b= .l->True:=.q0;have fp:f≠p:=λz=>by rw[z,B _ _ l]at g;cases g
 have s:t≠p:=λz=>by rw[z,l]at V;cases V
 have mp:R≠p:=λz=>by rw[z,p9]at x;cases x
 exact q H11 f I t R b11 (.wE (old2 h g)) (.wE (old h V)) (.wE (old9 h x)) a (u _ _ (n _ _ (y _ _ f3 fp)) fp) (u _ _ (n _ _ (y _ _ (C _ _ t2) s)) s) (u _ _ ml10 mp)
end
section
open Vaunih (Hand frameNumbers)
def Wc(T: .b)(L: .g)(n:Nat):Sp:=λvs H Q _=>∃(v:L2.V) (fr:cx),vs=[v]/\rP T .ba n fr v/\ .ij (.c2= .ip (frameNumbers fr)-> .dI)
theorem Ra{C:VC}{F:Hp}{n:Nat}{xs: .Q}{v:L2.V}(h: .fX .qh v):∃c G f o,v= .bQ/\F c= .x6 C (.a5 .r) f o:=by
 cases xs with
 |nil=>rw[199,⟨a,G,_,_,e,h⟩]
 |cons x l=>obtain⟨R,a,G,f,o,e,h,_⟩:=h;rw[41,wV,⟨a,G,_,_,e,h⟩]
theorem RO(T: .b)(L: .g)(n:Nat): .cb T.tI.f T.tI.fd ["frame"] (Wc T L n):=by
 refine T.tI.F.az ["frame"] .f;obtain⟨v,fr,rfl,⟨rest,m⟩,q⟩:=h;refine⟨_,.lF (.dd (eJ .i) (bF (uM (T.bE "FOLD_FRAME" 1) .jR .i .i .i aq))) (bF (uM (T.bE "BLOCK_FRAME" 0) .i .i .i7 .i7 .i))⟩
 cases fr with
 |block b i ls ws d=>obtain⟨_,a,G,ro,pl,u,rs,ps,rfl,h1,h2,h3,h4,h5,j⟩:=m;rw[90];have cl:=.f3;have l1:=b_ h3;have l2:=b_ h5;rw[dy]at l1;refine⟨.bO,cl,.Ey T,yw,_,Y,aj ⟨.bO,cl,T.fr.bf.n "block",yu,.bO,cl,.jD,.bO,cl,.sI T,pK,ro,.pJ (.X h2),a,_,G,.h,g1,cl,.gD,pl,.pJ .eQ,a,_,G,.h,g1,cl,.Es T,vg,.x5 _ l R ?_⟩⟩;rw[aB,<-l1,<-l2];rfl
 |fold f left c d hand=>obtain⟨a,G,co,g,u,fv,us,rfl,h1,h2,h3,h4,h5,j⟩:=m;rw[90];have cl:=.sG;obtain⟨ca,e,cf,k,rfl,D⟩:=Ra h3;rw[7,⟨.bO,.AG T "folds",yP,_,Y,aR ⟨.bO,cl,.lq T,ca,_,e,.h,.X D,.zX T T "size",nB,.bO,.AG T "hand",yQ,.bO,.AG T "level",vo,.bO,.AG T "depth",yO,.x5 _ l R ?_⟩⟩,aB];cases hand<;>rfl
end
section
open Vaunih (Instr Reach localsAtStart)
def WK(T: .b)(L: .g):Sp:=λvs H Q _=>∃(p dp:Addr) (bl:L2.V) (y:Nat) (c:aX) (b:cM),vs=[.aK,bl,.int y]/\H p= .oZ T.bW.c []/\ .nB/\c[y]? = .ki/\(.sY a)/\∀H' u tl,.cj p->H u=none->H tl=none->fI T L H' p u tl c b (.vO b) (.w3 (.vO b):: .rh .ak) (.un .ak .a)-> .bN
theorem IP{α:Type}{a:α}(n:Nat):List.replicate n a++[a]= .un n a:=(List.replicate_succ' ..).symm
theorem Im{H:Hp}:∀n,Paired (qp H) (.rh n) (List.replicate n L2.V.au)
 |0=>.nil
 |n+1=>.cons Y (Im n)
theorem Pf{c:Bool}{t u:TE}{σ:L2.St}{H:Hp}{k:VK}{v:L2.V}(h1: .c c->∀U:VK,U v H-> .gc U)(h2:c= .a->∀U:VK,U v H->u σ H U)(g:k v H): .k4 (.gc k) (u σ H k):=by
 cases c with
 |true=>exact aR (h1 Y k g)
 |false=>rw[4,h2 Y k g]
theorem Ol{bl ins a:L2.V}: .O (aO "beginning" a (.G9 ins (.tJ bl []))) ("beginning":Str) a:=by kernel_rfl
theorem Hh(T: .b)(L: .g): .cb T.bW.f T.bW.fd ["self","blocks","number"] (WK T L):=by
 refine T.bW.F.az ["self","blocks","number","block","count","behind","at"] .f;obtain⟨p,dp,bl,y,c,b,rfl,hp,I,S,hL,q⟩:=h;rw[150,T];have bcl:=.sP;obtain⟨l,bs,rfl,R,hbs,hc1,hc2⟩:=id I;obtain⟨v,hv,ba,a,f,k,rfl,hba,hli,hins,G,hs,d⟩:=dP hbs S;have gl:=.X R;have gba:=.X hba;rw[211,hli];have hil:=b_ hins;rw[250];rw[68,⟨_,.aC 3 nd (bz c7 .e .p) (.aC 4 nd (T.cA .ep) (.gC .e .ep (.f7 (.wB .p .ep (.e1 c9 c9 .ep .ep aq)) (.uL mR (dE (bj aq .i)) (o8 (own:=[("behind",5)]) Y nd (pa Y jc (.bz 4)) .qa (λs H C cl fp=>eo 5 nd) (λs H C cl fp=>uT) (λs H C cl fp=>f7))) (o8 (own:=[("at",6)]) Y nd (pa Y jc (ao (aL c9 .aF aq))) .qa (λs H C cl fp=>eo 6 nd) (λs H C cl fp=>uT) (λs H C cl fp=>iV))))),?_⟩,⟨.j,l,.eK gl hv,?_⟩,⟨_,Y,ba,_,a,.h,gba,bcl,.zQ T,vh,f,.dB gli,?_⟩,⟨.ek,_,dp,_,Y,hp,cl,.DW T,.wG⟩,bc λm w1 p1=> ?_]
 have nep:∀{x:Addr} {o:HO},aD L H x= .l->x≠p:=λ{x o} h e=>by
  subst e;obtain⟨h1,h2⟩:=jL h;rw[122,hp];have: .nm T.bW.c dp []= .a:=by kernel_rfl
  rw[189,this]
 have gba1:=w1 _ _ gba (nep hba);rw[63,⟨_,Y,ba,_,a,.h,gba1,bcl,.zQ T,vh,.kO,p1,cl,.vM T,.lf⟩,λX w2 p2=> ?_];have gba2:=w2 _ _ gba1 (nep hba);rw[0,⟨.cs⟩,Pf (v:=.a5 (.vO b)) (λz k' g=>⟨_,Y,ba,_,a,.h,gba2,bcl,.x8 T,rF,?_⟩) (λz k' g=>⟨_,Y,ba,_,a,.h,gba2,bcl,.x8 T,rF,_,Y,ba,_,a,.h,gba2,bcl,.EE T,yy,.o,.pM⟩) ?_]
 ·have F:y=0:=.wT z
  rw[10,.vO b,.li,af F];rw[27,e,g]
 ·have F:¬y=0:=λh=>by subst h;cases z
  rw[10,.vO b,.li+b.self+1,aa F];have e2:(.m (.vO b))=(.li:Int)+(b.self:Int)+1:=by omega
  rw[27,e2,g]
 generalize localsAtStart y b=beg at q;rw[68,⟨.kO,p2,cl,.JD T,.A1⟩,bc λH3 w3 N=> ?_,⟨.cn,_,dp,.o8,.JD T,Ol,aY,.nH⟩,cJ V λH4 A B=> ?_,⟨aY,λll hll=> ?_⟩];generalize U:upd H4 ll _=H5;rw[180,U,hll];rw[0,⟨.j,.ga,λD hD=> ?_⟩,Gu (λi H'=>.f2 H5/\H' D= .a7 (List.replicate i L2.V.au)) ⟨.n9 H5 hD,aB⟩ (λi H' hi h=> ?_) (λr h=> ?_)]
 ·refine⟨Y,_,h.2,?_,λb o e=>.dS e hD (h.1 _ _ e),?_⟩
  ·rw[98,lN,br]
  ·rw[aB,IP]
 obtain⟨s6,k6⟩:=h;rw[203,(.yb k.length)= .ak]
 rw[en]at k6;refine⟨ll,D,.o,s6 _ _ k5,k6,?_,λu hrl=> ?_⟩
 ·rw[lN,br];rw[36,1+_]
 generalize eH7:upd r u _=H7;obtain⟨s7,k7⟩:=bH eH7 hrl;have s37:ae H3 H7:=(.b0 A s5 s6).trans s7;rw[20,⟨.kO,s37 _ _ N,cl,.vN T,.EL⟩,bc λH8 w8 p8=> ?_,⟨.i9,.ga,λtl n=> ?_⟩,Gu (λi H'=>.f2 H8/\H' tl= .a7 (List.replicate i (L2.V.bl .a))) ⟨.n9 H8 n,aB⟩ (λi H' hi h=> ?_) (λH9 h=> ?_)]
 ·refine⟨Y,_,h.2,?_,λb o e=>.dS e n (h.1 _ _ e),?_⟩
  ·rw[98,lN,br]
  ·rw[aB,IP]
 obtain⟨s9,k9⟩:=h;have en1:((.zP k)+1).toNat= .ak+1:=by omega
 rw[en1]at k9;rw[63,⟨.kO,s9 _ _ p8,cl,.JB T,.dV (4<1000)⟩,λH10 w10 p10=> ?_];have b3: .d8 p H3:=.b0 w1 w2 w3;have b7: .d8 p H7:=b3.gC s37;have b9: .d8 p H9:=(b7.trans w8).gC s9;have b10: .d8 p H10:=b9.trans w10
 have old6:∀{x o},H x= .l->r x≠none:=λ{x o} h z=>by
  have b6: .d8 p r:=b3.gC (.b0 A s5 s6);rw[17,x,p]
  ·rw[200,s6 _ _ (s5 _ _ (A _ _ N))]
  ·rw[22,b6 _ _ h e]
 have old8:∀{x o},H x= .l->H8 x≠none:=λ{x o} h z=>by
  rw[17,x,p]
  ·rw[200,p8]
  ·rw[22,(b7.trans w8) _ _ h e]
 have au:∀{x:Addr},(∀o,H x= .l-> .bU)->H x=none:=λ{x} h=>by
  rcases S:H x with _|o
  ·rfl
  ·exact(h o S).elim
 have n1:H u=none:=.wE (old6 h hrl);have j:H tl=none:=.wE (old8 h n);have ep:u≠p:=λz=>by rw[z,hp]at n1;cases n1
 have etp:tl≠p:=λz=>by rw[z,hp]at j;cases j
 have tp:t≠p:=λz=>by rw[z,N]at V;cases V
 have k7':H10 u= .a7 (L2.V.ref t::List.replicate .ak .au):=w10 _ _ (s9 _ _ (w8 _ _ k7 ep)) ep;have k4':H10 t= .aE [.aX,.a5 beg]:=w10 _ _ (s9 _ _ (w8 _ _ (s7 _ _ (s6 _ _ (s5 _ _ B))) tp)) tp;have k9':H10 tl= .a7 (.un .ak (L2.V.bl .a)):=w10 _ _ k9 etp;rw[109,L,H10,λx o h=>lj (b10 _ _ (jL h).1 (nep h)) (jL h).2,q H10 u tl b10 n1 j ⟨⟨dp,.ou,f,k,p10,.jC,kp _ _ hli,.g4 hins (.aZ z)⟩,⟨_,k7',.cons ⟨t,Y,k4'⟩ (Im _)⟩,?_,⟨.ad,d⟩,?_,λz=>hL _ z n1,λz=>hL _ z j⟩]
 ·rw[k9',Lh]
 ·rw[bp,lN]
 ·rw[lN]
 ·intro z;rw[z]at hrl;subst z;rw[w8 _ _ k7 ep]at n;cases n
end
section
open Vaunih (Instr Reach faultAt takes leaves)
theorem NF{c:aX}{C n i:Nat}{r:Reach}{x:Instr}: .mk C n i r x= .bd (.c (xj c x)) 2 (.bd (.c (uF C .cp x)) 3 (.bd (.b8< .ci) 4 (.bd (.c (.DX .l0 n (.z+k))) 5 (.bJ (x= .ret/\ .b8≠1) 8)))):=by cases x<;>rfl
theorem FY{x:Instr}: .B0 .de [.qx,.tv,.tu]= .Jz:=by
 cases x with
 |truth b=>cases b<;>kernel_rfl
 |op o=>cases o<;>kernel_rfl
 |_=>kernel_rfl
theorem Gv{x:Instr}{n:Nat}(h: .l0= .jZ):f6 x= .Z:=by cases x<;>first|(cases h;rfl)|cases h
theorem Pd{x:Instr}: .fR .de "ret"= .a9 x .ret:=by
 cases x with
 |truth b=>cases b<;>rfl
 |op o=>cases o<;>rfl
 |_=>rfl
def Wa(T: .b)(L: .g):Sp:=λvs H Q _=>∃(p u tl:Addr) (c:aX) (b:cM) (C:Nat) (l: .ml) (y: .kk) (at_:Nat) (r:Reach) (x:Instr),vs=[.aK,.gV,.int .b8,.int .cp]/\ .e9 H l y/\(.ey)[at_]? = .aa/\∀H',.R-> .dL (.a5 (.px (.mk C .ak at_ r x)))
theorem RM(T: .b)(L: .g): .pk P w K T.tH.f T.tH.fd ["passage","at","height","places"] (Wa T L):=by
 refine T.tH.F.az ["passage","at","height","places","instruction"] .f;obtain⟨p,u,tl,c,b,C,l,y,at_,r,x,rfl,ps,F,q⟩:=h;obtain⟨dp,bl,f,ixs,hp,I,hli,o⟩:=ps.obj;rw[150,T];have icl:=.dG;have s:=.fP;obtain⟨v,D,N⟩:=dP o F;have d:=N.out;have j:=.X hli;have hil:=b_ o;rw[6,⟨_,.aC 4 nd .jd (Z (.dd (eJ (.eU T.tP (Se T L) .F .aF)) aq) (.i1 (.dd (eJ (.nt T.tQ (Sf T L) M W .aF .a3)) aq) (.dd (aU gO .p (T.cA (.pK T.oC (A6 T) M W 4 .i))) aq) (.hU (.dd (.vY (aU mS (.jl 4) (jl Y T.pA.g) Y) oY (.qs T.qv (Hk T) .aF) .i7) aq) (.dd (.zR (.jl 4) jj .p aq) aq) aq))),?_⟩,⟨.mJ,.vM T,sv,_,Y,f,.eK j D,?_⟩,⟨.ek,u,tl,c,b,C,l,y,v,x,Y,ps,d,.ac⟩];rw[NF]at q
 cases S:xj c x with
 |true=>rw[118,S,aR (q H .gX)]
 |false=>
  rw[.JC S]at q;rw[18,⟨.j,.cn,u,tl,c,b,C,l,y,v,x,.cp,Y,ps,d,.ac⟩]
  cases R:uF C r.locals x with
  |true=>rw[118,R,aR (q H .gX)]
  |false=>
   rw[.JC R]at q;have e:∀k,x= .fn k->k< .az:=by rintro k rfl;have h1:(k==0|| .ws c k)= .a:=S;rw[pM]at h1;have:=cq h1.2;omega
   rw[275,aj ⟨.j,.mJ,.DW T,zF,v,bl,x,c,Y,d,I.out,e,λm t U V=> ?_⟩,⟨t,.nr V,.eP⟩];rw[bh,BG];by_cases hh: .b8< .ci
   ·rw[118,hh,.fM (bC (show(.m .b8)<(.m .ci) by omega)) (q m U)]
   rw[aa hh]at q;rw[64,.JC (.xj (¬(.m .b8)<(.m .ci)))];obtain⟨ok,i,A,val,rfl,hi,hval⟩:=id d;have hi1:=U _ _ hi;rw[44,⟨.lj,hi1,icl,s,a_,T.pA.a,.nr T.pA.k.sq,Y,.aJ⟩];rw[159,λX:Hp=>.jP/\ .DX .l0 .ak (.dM+k)= .a]
   case a=>
    intro rest;refine .mX .Jz FY .a2
    ·obtain⟨n,G⟩:=vS.mp z;have g: .DX .l0 .ak (.dM+k)= .eM .ak (.dM+n):=by rw[G];rfl
     rw[0,⟨.j,at_,_,x,Y,.k5 d,.n4,U _ _ hp,cl,.vM T,sv,f,.ti (U _ _ j)⟩,.mX (.eM .ak (.dM+n)) ?_ (λz=>rest m ⟨U,g.trans z⟩)]
     ·rw[Gv G,<-hil];exact .oI ⟨.p0,.p0⟩
     ·rw[g,z,.M]at q;exact q m U
    ·refine rest m ⟨U,?_⟩
     cases hj:leaves x with
     |none=>rfl
     |some n=>rw[22,hj]
   case b=>
    rintro X ⟨B,g⟩;rw[g,.C7]at q;rw[0,⟨.lj,B _ _ hi,icl,s,a_,.aJ⟩,eR Pd (λz=>⟨.cs⟩) .a2]
    ·refine eR (v:=decide (.b8≠1)) ?_ (λz2=> ?_) (λz2=> ?_)
     ·by_cases h1: .b8=1
      ·rw[19,h1]
      ·rw[bC h1,aW]
       ·rfl
       ·rw[110];omega
     ·rw[118,⟨bQ z,bQ z2⟩,q X B]
     ·rw[69,aa (λh=>cq z2 h.2),q X B]
    ·rw[69,aa (λh=>cq z h.1),q X B]
def Wb(T: .b)(L: .g):Sp:=λvs H Q _=>∃(p u tl:Addr) (c:aX) (b:cM) (C:Nat) (l: .ml) (y: .kk) (at_:Nat) (x:Instr),vs=[.aK,.gV]/\ .e9 H l y/\(.ey)[at_]? = .aa/\∀H',.R-> .dL (.a5 (mv c C .ak at_ x (.s4 y) (.zb l)))
theorem RL(T: .b)(L: .g): .et T.tG.f T.tG.fd ["passage","at"] (Wb T L):=by
 refine T.tG.F.az ["passage","at"] .f;obtain⟨p,u,tl,c,b,C,l,y,at_,x,rfl,ps,F,q⟩:=h;obtain⟨dp,bl,f,k,hp,I,m,o⟩:=ps.obj;obtain⟨rs,R,e⟩:=ps.ri;have n:=ps.lE;obtain⟨l1,l2,t⟩:=ps.len;rw[150,T];have S:=.vN T;have j:at_< .ak:=.dD F;rw[183,l[at_]? =some (.zb l),i4,.jE]
 have s:(y.map L2.V.bl)[at_]? =some (.bl (.s4 y)):=by rw[gE,i4,.jE];rfl
 obtain⟨v,D,i⟩:=dP e g;rw[0,⟨_,.hU (.dd (.n1 .jd) aq) (.dd (eJ .jd) aq) (aJ T.tH (RM T L) M W (kD .F .e (.fN .jd) (.fN .jd))),?_⟩,⟨.mJ,S,.mI R D,.ac⟩];generalize l.getD at_ none=d at q g i
 cases d with
 |none=>cases i;exact aR (q H .gX)
 |some r=>
  obtain⟨a,rfl,N⟩:=i;rw[18,⟨.mJ,.JB T,DG,_,Y,tl,.eK n s,.ac⟩];generalize y.getD at_ false=B at q
  cases B with
  |true=>exact aR (q H .gX)
  |false=>rw[2,aj ⟨.j,.mJ,S,.mI R D,a,_,.mU N,.aR,p,_,dp,.h,hp,cl,S,.mI R D,a,_,.mU N,Y,?_⟩,⟨p,u,tl,c,b,C,l,y,at_,r,x,Y,ps,F,q⟩]
end
section
open Vaunih (Instr Reach faultAt takes leaves gives localsAfter)
theorem QS{c:aX}{r:Reach}{x:Instr}:(! .B0 .de [.str "ret",.qx])=(near c r x).isSome:=by
 cases x with
 |truth b=>cases b<;>kernel_rfl
 |op o=>cases o<;>kernel_rfl
 |_=>kernel_rfl
theorem Q2{c:aX}{C n i:Nat}{r:Reach}{x:Instr}(h: .mk C n i r x=none):xj c x= .a/\uF C .cp x= .a/\ .ci<= .b8/\ .DX .l0 n (.z+k)= .a:=by obtain⟨h1,h2,h3,h4⟩:=EA h;exact⟨yz.mpr h1,yz.mpr h2,by omega,yz.mpr h4⟩
theorem near_is{c:aX}{C:Nat}{r y:Reach}{x:Instr}(R:uF C .cp x= .a)(V: .ci<= .b8)(h:near c r x= .d3):(.b8:Int)-(.ci:Nat)+(.xZ:Nat)=(y.height:Nat)/\ .rg+uC x=(y.locals:Nat):=by
 have key:∀{x:Instr} {y:Reach},.ci<= .b8->some (⟨.b8- .ci+ .xZ,.GP x⟩:Reach)= .d3-> .rg+uC x=(.GP x:Nat)->(.b8:Int)-(.ci:Nat)+(.xZ:Nat)=(y.height:Nat)/\ .rg+uC x=(y.locals:Nat):=λV e h2=>by injection e with e;subst e;exact⟨.Eu _ (.m (_-_+_)),h2⟩
 cases x with
 |ret=>cases h
 |skip n=>cases h
 |free n=>have h1:=cq (show .f5 .cp (C+n)= .a from R);exact .JA V h (.rg+ - .Z=(.gE .cp n))
 |bind=>exact .JA V h (.rg+1=(.lr .cp))
 |part n=>exact .JA V h (.rg+2=(.m (.cp+2)))
 |_=>exact key V h (Int.add_zero _)
theorem NB{x:Instr}{n:Nat}(h: .l0= .jZ): .xZ=0:=by cases x<;>first|rfl|cases h
def Wj(T: .b)(L: .g):Sp:=λvs H Q _=>∃(p u tl:Addr) (c:aX) (b:cM) (C:Nat) (a:RT) (at_:Nat) (x:Instr) (r:Reach),vs=[.aK,.gV]/\ .e9 H a.1 a.2/\(.ey)[at_]? = .aa/\ .mK at_= .bL/\ .mk C .ak at_ r x=none/\∀H',.fC u tl-> .e9 H' (gK c .kU at_ r x).1 (gK c .kU at_ r x).2-> .bN
theorem Kc{p:Addr}{a b c B j V:Int}(h1:a=B)(h2:b=j)(h3:c=V):(.mW [.aK,.int a,.fV,.int c])=[.aK,.int B,.pY,.int V]:=by subst h1 h2 h3;rfl
theorem R_(T: .b)(L: .g): .pk P w K T.tN.f T.tN.fd ["passage","at"] (Wj T L):=by
 refine T.tN.F.az ["passage","at","instruction","taken","height","places"] .f;obtain⟨p,u,tl,c,b,C,a,at_,x,r,rfl,ps,hxa,hra,N,q⟩:=h;obtain⟨dp,bl,li,ixs,hp,I,hli,o⟩:=ps.obj;obtain⟨rs,R,e⟩:=ps.ri;have htl:=ps.lE;obtain⟨l1,l2,l3⟩:=ps.len;rw[374,T,.vN T];have icl:=.dG;have nw:=.fP;have j:at_< .ak:=.dD hxa;obtain⟨v,hv,hiaF⟩:=dP o hxa;have d:=hiaF.out;rw[211,hli];have hget:a.1[at_]? =some .bL:=by rw[<-hra,i4,.jE];rfl
 obtain⟨rv,hrv,l,rfl,hta⟩:=dP e hget;obtain⟨nf1,nf2,nf3,nf4⟩:=Q2 N;have hfn:∀k,x= .fn k->k< .az:=by rintro k rfl;have h1:(k==0|| .ws c k)= .a:=nf1;rw[pM]at h1;have:=cq h1.2;omega
 rw[6,⟨.dZ .jd (.en (T.cA (.pK T.oC (A6 T) M W 2 .i)) (.aC 4 nd (.e1 c9 fN (.fN .jd) .a3 (.ce T.tL (R8 T) M W 2)) (.aC 5 nd (.fN .jd) (Z (.pA (aU HG .gF (dE (bj bq bq)) Y) (c5 .F cl T.qQ (Hu T L) M W (cG (aL c9 .e aq) .aF (aL c9 (pv 5) (.ce T.tS (Sk T) M W 2)))) a0) (.i3 (aU mS .gF (jl Y T.pA.g) Y) (c5 .F cl T.qQ (Hu T L) M W (cG (.qs T.qv (Hk T) .p) .aF (pv 5))) a0)))))⟩,⟨.mJ,.vM T,sv,_,Y,li,.eK gli hv,?_⟩,⟨.ek,_,dp,.h,hp,cl,.DW T,zF,v,bl,x,c,Y,d,I.out,hfn,λm t U V=> ?_⟩];have hp1:=U _ _ hp;have hrl1:=U _ _ R;have hta1:=U _ _ hta;rw[44,⟨t,.nr V,?_⟩];rw[bh,BG];rw[0,⟨.n4,hp1,cl,nr,.mI hrl1 hrv,l,_,.mU hta1,.aR,.fK,v,x,Y,.k5 d,.pM⟩,⟨.n4,hp1,cl,nr,.mI hrl1 hrv,l,_,.mU hta1,Y,?_⟩];obtain⟨ok,i,A,val,rfl,hi,X⟩:=id d;have hiF:aD L H i= .bX .AY A (iA (.str .de) (.int (f6 x)) val):=c0 hi FD;refine⟨.lj,U _ _ hi,icl,nw,a_,aY,λt2 ht2=> ?_⟩;generalize eH2:upd m t2 _=H2;obtain⟨B,k2⟩:=bH eH2 ht2;have f:=.gG U;rw[44,⟨t2,.lv k2,Y,.aJ⟩];rw[159,λH3:Hp=>cz u tl H H3/\ .e9 H3 (.kU).1 (.kU).2]
 case a=>
  intro rest;refine .mX (near c r x).isSome QS .a2
  ·obtain⟨y,g⟩:=vS.mp z;obtain⟨F,D⟩:=near_is nf2 nf3 g;refine⟨.cn,dp,_,Y,f _ _ hp,DF,.b2,.jn,_,x,Y,d.same f,.o,p,u,tl,c,b,C,a.1,a.2,.dM,y,?_,ps.same f,by omega,λH3 b3 ps3=> ?_⟩
   ·exact Kc (by omega) F D
   ·rw[251,rest H3 ⟨(ae.fu f).trans b3,?_⟩,.kU=fZ a .dM y,by unfold d6;rw[g],s,ps3]
  ·rw[251,rest H2 ⟨ae.fu f,?_⟩,.kU=a,by
    unfold d6
    cases G:near c r x with
    |none=>rfl
    |some y=>rw[22,G],s,ps.same f]
 case b=>
  rintro H3 ⟨b3,ps3⟩;have kp:=b3.kp R htl ps.out.1 ps.out.2;have hia3:=(hiaF.same kp).out;have hi3:=.X (kp _ _ hiF);rw[44,⟨.lj,hi3,icl,nw,a_,T.pA.a,.nr T.pA.k.sq,Y,.aJ⟩];refine .mX .Jz FY .a2
  ·obtain⟨n,G⟩:=vS.mp z;obtain⟨dp3,bl3,li3,ixs3,hp3,_⟩:=ps3.obj;have hj: .dM+n< .ak:=by rw[G]at nf4;have:=cq (show .eM .ak (.dM+n)= .a from nf4);omega
   have l3':=ps3.len.1;have e4:=Gv G;have S:=NB G;refine⟨.cn,dp3,_,Y,hp3,DF,.j,at_,_,x,Y,hia3,.ek,u,tl,c,b,C,_,_,.dM+n,⟨.b8- .ci,.cp⟩,?_,ps3,by omega,λH4 b4 ps4=> ?_⟩
   ·rw[304,Kc (by rw[e4];omega) ?_ Y,S,_=(.gE .b8 .ci)]
   ·rw[251,q H4 (b3.trans b4) ?_,gK c .kU at_ r x=fZ .kU (.dM+n) ⟨.b8- .ci,.cp⟩,by unfold gK;rw[G],s,ps4]
  ·rw[251,q H3 b3 ?_,gK c .kU at_ r x= .kU,by
    unfold gK
    cases G:leaves x with
    |none=>rfl
    |some y=>rw[22,G],s,ps3]
end
section
open Vaunih (Instr Reach faultAt takes leaves checkFrom)
def VS(T: .b)(L: .g):Sp:=λvs H Q _=>∃(p u tl:Addr) (c:aX) (b:cM) (C:Nat) (a:RT),vs= .iL/\ .e9 H a.1 a.2/\Pass c C .ey 0 a/\(∀H' i k t,.fC u tl-> .xW c C .ak C [] .ey= .error (i,k)->H' t= .aE [.a5 i,.a5 k]-> .eW t)/\(∀H' rs (a:RT),.fC u tl-> .xW c C .ak C [] .ey= .oz-> .aA rs .ak-> .e9 H' a.1 a.2->(∀j,j< .ak-> .kq=rs[j]?)-> .bN)
theorem Hl(T: .b)(L: .g): .gI T.qw.f T.qw.fd ["passage"] (VS T L):=by
 refine T.qw.F.az ["passage","count","at","fault"] .f;obtain⟨p,u,tl,c,b,C,a,rfl,ps,pass0,qe,qo⟩:=h;obtain⟨dp,bl,li,ixs,hp,I,hli,o⟩:=ps.obj;rw[374,T,.vN T];rw[250];rw[211,hli];have hil:=b_ o;have l3:=.bA ps.len;rw[275,⟨.eX .i7 (.bC (ik ef Y (pa Y jc (ao .e)) (eo 2 nd) (.en (.eU T.tG (RL T L) .F .p) (.uT (.dd (aU jj .a3 aq) (dE (.lh 2 .a3))) (.lw T.tN (R_ T L) .F .p)))) (hA (.n1 .jd) f7 (dE (bj .e aq))))⟩,⟨.mJ,.vM T,sv,li,.dB gli,?_⟩];rw[<-hil];rw[0,⟨.j,.ga,?_⟩,uh (.i6 (.fC u tl) (∃(a:RT) (f S: .dH),σ=[.I p,.qb .ak,f,S]/\ .e9 H' a.1 a.2/\Pass c C .ey i a)) ⟨cz.refl H,a,.h,ps,pass0⟩ ?_ ?_]
 ·rintro i σ H' hi ⟨j,B,f,S,rfl,A,n⟩;have hi':i< .ak:=by omega
  have q: .a1 .ey= .i5 .ey:=bS hi';generalize b.code[i]=x at q;have e0:(0:Int)+ .er= .er:=CW _;rw[89,e0,⟨.ek,u,tl,c,b,C,B.1,B.2,i,x,Y,A,q,λm U=> ?_⟩,⟨.cs⟩];generalize G:mv c C b.code.length i x (B.2.getD i false) (B.1.getD i none)=k;refine .mX (! decide (k=0)) ?_ .a2
  ·congr 1;exact .oI ⟨.qy (by injection h with h;omega) (by subst h;rfl)⟩
  ·have hne:k≠0:=cq (by simpa using z);rw[0,⟨.j,aY,.nH⟩,qe _ i k t (.oW j (U.upd V)) ?_ aB];rw[32,G,n.fault q (.I4 hne)]
  ·have h0:k=0:=bQ (by simpa using z);obtain⟨r,hr',N,pass2⟩:=n.next q (G.trans h0);rw[2,⟨.ek,u,tl,c,b,C,B,i,x,r,Y,.k5 A,q,hr',N,λX b2 ps2=> ?_⟩,⟨.b0 j (ae.fu U) b2,.cS,ps2,pass2⟩]
 ·rintro σ H' ⟨j,B,f,S,rfl,A,n⟩;rw[203,(.yb .ak)= .ak]
  rw[en]at n;obtain⟨dp',bl',li',ixs',hp',_⟩:=A.obj;obtain⟨rs,R,e⟩:=A.ri;obtain⟨l1,l2,_⟩:=A.len;rw[183,B.1[.ak]? =some (.ng B .ak),i4,.jE]
  obtain⟨v,hv,hra⟩:=dP e g;obtain⟨y,F,D,s⟩:=n.finish;refine⟨.cn,_,dp',.h,hp',cl,nr,.mI R hv,.ac⟩;generalize B.1.getD b.code.length none=d at hra F
  cases d with
  |none=>cases hra;exact aR (qo H' y B j F D A s)
  |some r=>obtain⟨l,rfl,hta⟩:=hra;rw[4,⟨_,Y,aY,λt V=>qe _ .ak 9 t (.oW j (.n9 H' V)) F aB⟩]
end
end FC
namespace FC
open Vaunih (Instr txt instr instrs take small keptText selfText Block Toks powerText fractionText weightText)
theorem rx{A:Type}{e:Nat}{f: .fd ax A}{ts:Toks}{a:A}{s:Toks}(h: .ir f ts= .cg a s): .aG s= .lO:=by
 unfold take at h
 cases ts with
 |nil=>cases h
 |cons x r=>
  obtain⟨w,p⟩:=x;dsimp only at h
  cases N:f w with
  |none=>rw[3,N]
  |some b=>rw[3,N];rfl
theorem lz{A B:Type}{x: .l8 A}{f:A->B}{y:B}(h: .lU x= .ok y):∃a,x= .ok a/\y=f a:=by
 cases x with
 |error e=>cases h
 |ok a=>rw[94,⟨a,Y,Y⟩]
theorem wN{e:Nat}{w:ax}{p:Nat}{r:Toks}{i:Instr}{s:Toks}(h: .iq w p= .cg i s): .K s .cQ:=by
 unfold instr at h;split at h
 ·rw[94,.y]
 ·obtain⟨⟨a,b⟩,h1,h2⟩:=lz h;cases h2;rw[100,rx h1,.K b _]
 ·split at h
  ·cases h1:take e fractionText r with
   |error q=>rw[3,h1]
   |ok x=>obtain⟨q,U⟩:=x;rw[h1]at h;obtain⟨⟨a,b⟩,h2,h3⟩:=lz h;cases h3;have:=rx h1;rw[100,rx h2,.K b _]
  ·split at h
   ·obtain⟨⟨a,b⟩,h1,h2⟩:=lz h;cases h2;rw[100,rx h1,.K b _]
   ·cases h
theorem mD(e n k:Nat)(x: .fa)(r:Toks): .tk (n+1) k (x::r)= .s9 x.1 .bs (.cg [] (x::r)) (.sD k (.error x.2) (match instr e x.1 x.2 r with
  | .error q=>.dq
  | .ok (i,s)=>(match instrs e n (k-1) s with
   | .error q=>.dq
   | .ok (l,u)=>.cg (i::l) u))):=by
 obtain⟨w,p⟩:=x
 rfl
theorem FJ{e:Nat}:∀{n m k:Nat} {ts:Toks},.lO<n-> .lO<m-> .tk n k ts= .tk m k ts
 |0,_,_,_,h,_=>by omega
 |_+1,0,_,_,_,h=>by omega
 |n+1,m+1,k,[],_,_=>rfl
 |n+1,m+1,k,x::r,h1,h2=>by
  rw[mD,mD]
  rw[bp]at h1 h2
  cases hi:instr e x.1 x.2 r with
  |error q=>rfl
  |ok y=>
   obtain⟨i,s⟩:=y
   have R:=wN hi
   rw[78,FJ (n:=n) (m:=m) (by omega) (by omega)]
theorem FK{e:Nat}:∀{n k:Nat} {ts:Toks} {l: .dk} {v:Toks},.tk n k ts= .cg l v-> .K v .lO/\ .K l k
 |0,_,ts,l,v,h=>by cases h;exact⟨.y,.ab⟩
 |n+1,k,[],l,v,h=>by cases h;exact⟨.y,.ab⟩
 |n+1,k,x::r,l,v,h=>by
  rw[135,mD]
  ·rw[94,⟨.y,.ab⟩]
  ·split at h
   ·cases h
   ·rename_i G
    cases hi:instr e x.1 x.2 r with
    |error q=>rw[3,hi]
    |ok y=>
     obtain⟨i,s⟩:=y
     rw[73,hi]
     have R:=wN hi
     cases h2:instrs e n (k-1) s with
     |error q=>rw[115]
     |ok z=>
      obtain⟨l',u⟩:=z
      rw[115]
      have:=FK h2
      rw[13,bp,bp,⟨.ga⟩]
def pd(done: .dk)(x: .xL .dk): .xL .dk:=.ix x (done++y.1,y.2)
def fx(e k:Nat)(ts:Toks): .xL .dk:=.tk (.aG ts) k ts
theorem OP(e k:Nat):fx e k []= .cg [] []:=rfl
theorem OM(e k:Nat){x: .fa}{r:Toks}(h:x.1= .bs):fx e k (x::r)= .cg [] (x::r):=by unfold fx;rw[mD,af h]
theorem OO(e:Nat){x: .fa}{r:Toks}(h:x.1≠ .bs):fx e 0 (x::r)= .error x.2:=by unfold fx;rw[mD,.dP,.M]
theorem ON(e k:Nat){x: .fa}{r:Toks}{q:Nat}(h:x.1≠ .bs)(hi: .iq x.1 x.2= .dq):fx e (k+1) (x::r)= .dq:=by unfold fx;rw[mD,.dP,.gJ,hi]
theorem OQ(e k:Nat){x: .fa}{r s:Toks}{i:Instr}(h:x.1≠ .bs)(hi: .iq x.1 x.2= .cg i s):fx e (k+1) (x::r)=pd [i] (fx e k s):=by
 unfold fx pd;have R:=wN hi;rw[mD,.dP,.gJ,hi];dsimp only;rw[bp,zl,FJ (n:=.cv) (m:=.aG s) (by omega) (by omega)]
 cases instrs e (s.length+1) k s with
 |error q=>rfl
 |ok y=>obtain⟨l,u⟩:=y;rfl
theorem Uz{a b: .dk}{x: .xL .dk}:pd a (pd b x)=pd (a++b) x:=by
 cases x with
 |error q=>rfl
 |ok y=>rw[37,.AU (a++(b++y.1)) y.2,.AU (a++b++y.1) y.2,d8]
def fK(e:Nat)(first:Bool)(k:Nat)(ts:Toks): .xL Block:=match ts with
 |[]=>.se
 |x::r=>.EH (x.1≠ .bs∨k=0) x.2 (match take e keptText r with
  | .error q=>.dq
  | .ok (kept,s)=>(match take e (selfText first) s with
   | .error q=>.dq
   | .ok (self,u)=>(match fx e 300 u with
    | .error q=>.dq
    | .ok (l,v)=>.cg ⟨kept,self,l⟩ v)))
theorem sZ{e k:Nat}{first:Bool}{ts v:Toks}{b:Block}(h:fK e first k ts= .cg b v):v.length< .lO:=by
 unfold fK at h
 cases ts with
 |nil=>cases h
 |cons x r=>
  rw[278]
  ·cases h
  ·cases h1:take e keptText r with
   |error q=>rw[3,h1]
   |ok y=>
    obtain⟨kept,s⟩:=y;rw[73,h1]
    cases h2:take e (selfText first) s with
    |error q=>rw[115]
    |ok z=>
     obtain⟨self,u⟩:=z;rw[73,h2]
     cases h3:fx e 300 u with
     |error q=>rw[3,h3]
     |ok a=>obtain⟨l,p⟩:=a;rw[3,h3];have:=rx h1;have:=rx h2;have:=(FK h3).1;rw[84]
theorem s_(e n k:Nat)(first:Bool)(x: .fa)(r:Toks): .BI (n+1) first k (x::r)=match fK e first k (x::r)with
  | .error q=>.dq
  | .ok (b,v)=>(match Vaunih.blocks e n false (k-1) v with
   | .error q=>.dq
   | .ok c=>.ok (b::c)):=by
 obtain⟨w,p⟩:=x
 unfold fK
 show(if w≠ .bs∨k=0 then Except.error p else match take e keptText r with
   | .error q=>.dq
   | .ok (kept,s)=>(match take e (selfText first) s with
    | .error q=>.dq
    | .ok (self,u)=>(match instrs e (u.length+1) Vaunih.MOSTINSTRS u with
     | .error q=>.dq
     | .ok (l,v)=>(match Vaunih.blocks e n false (k-1) v with
      | .error q=>.dq
      | .ok c=>.ok ({kept:=kept,self:=self,code:=l}::c)))))=_
 dsimp only
 split
 ·rfl
 ·cases take e keptText r with
  |error q=>rfl
  |ok y=>
   obtain⟨kept,s⟩:=y
   dsimp only
   cases take e (selfText first) s with
   |error q=>rfl
   |ok z=>
    obtain⟨self,u⟩:=z
    dsimp only
    show(match fx e 300 u with| .error q=>_| .ok (l,v)=>_)=_
    cases fx e 300 u with
    |error q=>rfl
    |ok a=>rfl
theorem zX{e:Nat}:∀{n m k:Nat} {first:Bool} {ts:Toks},.lO<n-> .lO<m-> .BI n first k ts= .BI m first k ts
 |0,_,_,_,_,h,_=>by omega
 |_+1,0,_,_,_,_,h=>by omega
 |n+1,m+1,k,first,[],_,_=>rfl
 |n+1,m+1,k,first,x::r,h1,h2=>by
  rw[s_,s_]
  rw[bp]at h1 h2
  cases S:fK e first k (x::r)with
  |error q=>rfl
  |ok y=>
   obtain⟨b,v⟩:=y
   rw[129,sZ S,bp]
   rw[78,.Gs n m]
def kh(e k:Nat)(ts:Toks): .l8 .nY:=.BI (.aG ts) .a k ts
theorem El(e k:Nat):kh e k []= .ok []:=rfl
theorem Ek(e k:Nat){x: .fa}{r:Toks}{q:Nat}(h:fK e .a k (x::r)= .dq):kh e k (x::r)= .dq:=by unfold kh;rw[s_,h]
theorem Em(e k:Nat){x: .fa}{r v:Toks}{b:Block}(h:fK e .a k (x::r)= .cg b v):kh e k (x::r)= .nl (kh e (k-1) v) (b::c):=by unfold kh;rw[129,sZ h,bp];rw[s_,h];rw[302,bp,.Gs .cv (.aG v)];cases Vaunih.blocks e (v.length+1) false (k-1) v<;>rfl
theorem IJ(t:ax):Vaunih.readCode t= .EH (6000< .C) .C (match fK t.length true 60 (Vaunih.tokensFrom 0 [] t)with
  | .error q=>.dq
  | .ok (b,v)=>.nl (kh .C 59 v) (b::c)):=by
 unfold Vaunih.readCode
 show(.jI (6000< .C) (Vaunih.blocks .C (.aG (.AT [] t)) true 60 (.AT [] t)))=_
 split
 ·rfl
 ·cases k:Vaunih.tokensFrom 0 [] t with
  |nil=>rfl
  |cons x r=>
   rw[s_]
   cases h:fK t.length true 60 (x::r)with
   |error q=>rfl
   |ok y=>
    obtain⟨b,v⟩:=y
    rw[129,sZ h,bp]
    dsimp only
    unfold kh
    rw[bp,.Gs .cv (.aG v)]
    cases Vaunih.blocks t.length (v.length+1) false (60-1) v<;>rfl
end FC
namespace FC
open PySem PySem.Spec PyProof.Rows L2
variable{P:Program}{w:World}{K:ag}{mg: .d}{base:Heap}
section
open Vaunih (Instr txt Block nat)
def eK: .cd-> .bI
 | .num q wt=>[.xa,.tf,nat wt]
 | .truth b=>[.jk .Fm .Fl]
 | .nil=>[txt "nil"]
 | .get i=>[txt "get",.dJ]
 | .bind=>[txt "bind"]
 | .free n=>[txt "free",nat n]
 | .fn b=>[.xh,nat b]
 | .call d=>[txt "call",nat d]
 | .fold d=>[txt "fold",nat d]
 | .ret=>[txt "ret"]
 | .skip n=>[txt "skip",nat n]
 | .unless n=>[txt "unless",nat n]
 | .part n=>[txt "part",nat n]
 | .pair=>[txt "pair"]
 | .fst=>[txt "fst"]
 | .snd=>[txt "snd"]
 | .cons=>[txt "cons"]
 | .op o=>[txt o.word]
 | .pow n=>[.tn,Vaunia.shownInt n]
 | .root=>[txt "root"]
def eG(ws: .bI):ax:=ws.flatMap λt=>32::t
theorem VF(x:Instr):Vaunih.shownInstr x=eG (eK x):=by
 have h2:∀{a b:ax},eG [a,b]=32::(a++32::b):=λ{a b}=>.wt (.lN a (.lN b [])) _ cC
 have h1:∀{a:ax},eG [a]=32::a:=λ{a}=>.i8 (.lN a []) _ cC
 cases x with
 |num q wt=>rw[46,txt " num "++(.tf++(32::nat wt))= .lN .xa (.lN .tf (.lN (nat wt) [])),cC]
 |truth b=>cases b<;>rfl
 |op o=>rw[37,32::txt o.word,eG [txt o.word],h1]
 |get i=>rw[86,txt " get "++ .dJ= .qq "get" .dJ]
 |free i=>rw[86,txt " free "++ .dJ= .qq "free" .dJ]
 |fn i=>rw[86,txt " fn "++ .dJ=eG [.xh,.dJ]]
 |call i=>rw[86,txt " call "++ .dJ= .qq "call" .dJ]
 |fold i=>rw[86,txt " fold "++ .dJ= .qq "fold" .dJ]
 |skip i=>rw[86,txt " skip "++ .dJ= .qq "skip" .dJ]
 |«unless» i=>rw[86,txt " unless "++ .dJ= .qq "unless" .dJ]
 |part i=>rw[86,txt " part "++ .dJ= .qq "part" .dJ]
 |pow i=>rw[86,txt " pow "++ .AP=eG [.tn,.AP]]
 |_=>rfl
def fF(b:Block): .bI:=[.bs,.lM,.lL]++ .qp eK
theorem Ay(a:ax):∀l: .bI,.qm (a::l)=a++eG l
 |[]=>.i8 a (a++[]) cC
 |b::r=>by
  rw[46,a++32:: .qm (b::r)=a++eG (b::r),Ay b r]
theorem wk(a b: .bI):eG (a++b)=eG a++eG b:=pV ..
theorem Jc(b:Block):32::Vaunih.shownBlock b=eG (fF b):=by
 unfold Vaunih.shownBlock fF;rw[wk]
 rw[207,.qp Vaunih.shownInstr=eG (.qp eK),by
  generalize b.code=l
  induction l with
  |nil=>rfl
  |cons x l j=>rw[fS,fS,wk,j,VF],this];rw[96,32::(txt "block "++(.lM++(32::(.lL++_)))),(.lN .bs (.lN .lM (.lN .lL [])))++_];simp only[List.cons_append,d8];rfl
theorem Jd(c: .nY): .AL= .qm (.k0 c):=by
 unfold Vaunih.shownCode
 cases c with
 |nil=>rfl
 |cons b r=>
  rw[d9,Ay,fS];have U:fF b= .bs::([.lM,.lL]++ .qp eK):=rfl;rw[U,List.cons_append,Ay,wk];rw[192,Jc b,U];have h2:Vaunih.shownBlock b= .bs++eG ([.lM,.lL]++ .qp eK):=by have h3:eG (.bs::([.lM,.lL]++ .qp eK))=32::(.bs++eG ([.lM,.lL]++ .qp eK)):=rfl;rw[h3]at h1;injection h1
  rw[h2,d8];congr 2;clear h1 h2 U
  induction r with
  |nil=>rfl
  |cons d r j=>rw[d9,fS,wk,<-j,<-Jc];rfl
end
section
open Vaunih (Instr txt Block nat)
def gA(ws: .bI): .N:=ws.map λt=>L2.V.str (bR t)
def Xj(T: .b):Sp:=.AS (vs=[i]/\ .ii i/\(∀q wt,x= .fc-> .c (jV q))/\ .ij (.c2= .a7 (.qo x)-> .dI))
theorem wX{i:Int}(h: .xc<=100000): .Fk i:=by
 rw[136,.xc]
 ·rw[F];decide
 ·rw[30,i.natAbs.log2<17,.AR (Nat.log2_lt F)]
theorem Sb(T: .b)(u:base.NoSeer)(I: .aj=none)(m:base.NoDigits): .J P w K .x 41 T.tO.f T.tO.fd ["instruction"] (Xj T):=by
 refine T.tO.F.az ["instruction","word"] .f;obtain⟨i,x,rfl,⟨C,i,A,val,rfl,c,X⟩,B,q⟩:=h;have v:=.dG;have G:=.fP;have r:=.sa;have z:=T.gi.ins.n "value";have p:=.Au;have y: .jB "str" .At:=by decide+kernel
 rw[0,⟨.eX .i (.xg .e bq (bF (cG .e (.gL T.ow (Hq T u I m) .i) (.nU wu p y .jR))) (.dd (.AA (.mV .e) (aU mS .e (jl Y T.bJ.g) Y)) (bF (bj .e (.nU wu p y .i)))) (.hV .e))⟩,⟨.lj,c,v,G,a_,?_⟩];have L:=C.lo;have f:=C.hi;have g: .Fk (f6 x):=.Fh;have fw:∀{a:Str},.qo x=(.cX a)->(.aT [.AQ]/\∀l,H l=none-> .lb l H l (.cX a)):=λ{a} e=>⟨.x5 _ l R (.xf aB)⟩;have j:∀{a b:Str},.qo x=[.gS,.str b]->(.aT [.AQ,L2.V.str b]/\∀l,H l=none-> .lb l H l [.gS,.str b]):=λ{a b} e=>⟨.x5 _ l R (.xf aB)⟩;have two:∀{k:String} {n:Nat},f6 x= .Z-> .tm=bR .gR-> .qo x=[.xe .gR,.xe (nat n)]-> .qo x=[.str .tm,.str (.Fj (f6 x))]:=λ{k n} F D s=>by rw[s,F,D,pz];rfl
 have one:∀{k:String},.tm=bR .gR-> .qo x=(.cX (bR .gR))-> .qo x=(.cX .tm):=λ{k} D s=>by rw[s,D]
 cases x with
 |num q0 wt=>obtain⟨a,t,d,rfl,⟨dn,N⟩,aw⟩:=X q0 wt Y;rw[58,⟨.f0,aR ⟨_,Y,_,Y,i,_,A,_,_,Y,c,v,z,yV,.B,q0,wt,0,Y,⟨a,t,d,Y,⟨dn,N⟩,aw⟩,?_⟩⟩,B q0 wt rfl,aR ⟨.lj,c,v,z,yV,a,_,dn,.h,N,.wD,T.gi.ex.U.T.num.n "weight",jR,_,Y,wX (by have:=aw.w2;omega),.x5 _ l R ?_⟩];rw[24,aB,pz]
 |pow k=>exact⟨.U ⟨.f0,aR (aR ⟨.iy,c,v,.k3,g,j (by rw[str_int];rfl)⟩)⟩⟩
 |get n=>exact⟨.U ⟨.U ⟨.o2 ⟨.iy,c,v,.k3,g,.o3 Y Y⟩⟩⟩⟩
 |free n=>exact⟨.U ⟨.U ⟨.o2 ⟨.iy,c,v,.k3,g,.o3 Y Y⟩⟩⟩⟩
 |fn n=>exact⟨.U ⟨.U ⟨.o2 ⟨.iy,c,v,.k3,g,.o3 Y Y⟩⟩⟩⟩
 |call n=>exact⟨.U ⟨.U ⟨.o2 ⟨.iy,c,v,.k3,g,.o3 Y Y⟩⟩⟩⟩
 |fold n=>exact⟨.U ⟨.U ⟨.o2 ⟨.iy,c,v,.k3,g,.o3 Y Y⟩⟩⟩⟩
 |skip n=>exact⟨.U ⟨.U ⟨.o2 ⟨.iy,c,v,.k3,g,.o3 Y Y⟩⟩⟩⟩
 |«unless» n=>exact⟨.U ⟨.U ⟨.o2 ⟨.iy,c,v,.k3,g,.o3 Y Y⟩⟩⟩⟩
 |part n=>exact⟨.U ⟨.U ⟨.o2 ⟨.iy,c,v,.k3,g,.o3 Y Y⟩⟩⟩⟩
 |truth b=>cases b with
  |true=>exact⟨.U ⟨.U ⟨.dn ⟨.dp⟩⟩⟩⟩
  |false=>exact⟨.U ⟨.U ⟨.dn ⟨.dp⟩⟩⟩⟩
 |nil=>exact⟨.U ⟨.U ⟨.dn ⟨.dp⟩⟩⟩⟩
 |bind=>exact⟨.U ⟨.U ⟨.dn ⟨.dp⟩⟩⟩⟩
 |ret=>exact⟨.U ⟨.U ⟨.dn ⟨.dp⟩⟩⟩⟩
 |pair=>exact⟨.U ⟨.U ⟨.dn ⟨.dp⟩⟩⟩⟩
 |fst=>exact⟨.U ⟨.U ⟨.dn ⟨.dp⟩⟩⟩⟩
 |snd=>exact⟨.U ⟨.U ⟨.dn ⟨.dp⟩⟩⟩⟩
 |cons=>exact⟨.U ⟨.U ⟨.dn ⟨.dp⟩⟩⟩⟩
 |root=>exact⟨.U ⟨.U ⟨.dn ⟨.dp⟩⟩⟩⟩
 |op o=>cases o with
  |add=>exact⟨.U ⟨.U ⟨.dn ⟨.dp⟩⟩⟩⟩
  |sub=>exact⟨.U ⟨.U ⟨.dn ⟨.dp⟩⟩⟩⟩
  |mul=>exact⟨.U ⟨.U ⟨.dn ⟨.dp⟩⟩⟩⟩
  |div=>exact⟨.U ⟨.U ⟨.dn ⟨.dp⟩⟩⟩⟩
  |floor=>exact⟨.U ⟨.U ⟨.dn ⟨.dp⟩⟩⟩⟩
  |rest=>exact⟨.U ⟨.U ⟨.dn ⟨.dp⟩⟩⟩⟩
  |less=>exact⟨.U ⟨.U ⟨.dn ⟨.dp⟩⟩⟩⟩
  |same=>exact⟨.U ⟨.U ⟨.dn ⟨.dp⟩⟩⟩⟩
end
section
open Vaunih (Instr small take keptText selfText txt instr Block)
theorem Pr:keptText=eS 0 60:=by
 funext x;unfold keptText eS
 cases small x with
 |none=>rfl
 |some n=>show(.bJ (n<=60) n)=(.bJ (0<=n/\n<=60) n);simp
theorem Vx(first:Bool):selfText first=eS 0 (.wL first):=by
 funext x;unfold selfText eS
 cases small x with
 |none=>rfl
 |some n=>
  show(.bJ (n=0∨(n=1/\first= .a)) n)=(.bJ (0<=n/\n<=(.wL first)) n)
  have:(n=0∨(n=1/\first= .a))↔(0<=n/\n<=(.wL first)):=by
   cases first with
   |true=>simp
   |false=>simp;omega
  simp only[this]
theorem Mx:Str.ofString "block"=stx .bs:=by decide+kernel
theorem Mv:∀c∈ .bs,.e3= .bi/\ .Am:=by decide+kernel
theorem FQ(x:ax): .fR .cO ("block":Str)= .a9 x .bs:=by
 have:(.Fp=L2.V.str ("block":Str))↔x= .bs:=by
  constructor
  ·rw[157];exact(BW Mv).mp h
  ·rintro rfl;rw[Mx]
 rw[52,x,.bs]
 ·rw[bC h,bC (this.mpr h)]
 ·rw[aW h,.wP (this.mp z)]
theorem OH{L: .g}{C G r:Addr}{a b c d:L2.V}:(.nm C G (kZ a b c d)||(oM (.ins C G (kZ a b c d))&& .g0 r L))= .a:=by rfl
theorem ui{L d: .g}{H:Hp}(h:∀a∈L,a∈d):ae .ba (aD d H):=λb o e=>by
 rw[93,jL e,lj h1 ?_];rw[lG]at h2⊢;rcases h2 with h2|h2
 ·rw[14,h2]
 ·rw[bU,cR]at h2;rw[8,by rw[h2.1,bC (h _ h2.2)];rfl]
theorem de.aD{T: .b}{H:Hp}{x:Instr}{v:L2.V}{L: .g}(h: .ii v): .pe (.t3 H) v:=by obtain⟨ok,i,A,val,e,h,g⟩:=h;exact⟨ok,i,A,val,e,c0 h FD,λq wt z=>(g q wt z).aD⟩
theorem cP.kp{T: .b}{H H':Hp}{tk:Addr}{t:ax}{ts:cQ}{L: .g}(h: .jX)(s: .qc):Kp L H H':=by obtain⟨G,f,pl,j,h1,_⟩:=h;exact s.kp h1 OH
def KG(T: .b)(H:Hp)(b:Block)(v:L2.V)(H':Hp):Prop:=∃f,H f=none/\H' f≠none/\nA T (aD [f] H') b v
theorem Ph{c:Bool}{a b v:L2.V}{σ:L2.St}{H:Hp}{k:VK}(h1: .c c->a=v)(h2:c= .a->b=v)(g:k v H): .k4 (tC a σ H k) (tC b σ H k):=by
 cases c with
 |true=>rw[13,af Y,h1 rfl,g]
 |false=>rw[13,.n,h2 rfl,g]
theorem cP.some{T: .b}{H:Hp}{tk:Addr}{t:ax}{x: .fa}{r:cQ}(h:cP T H tk t (x::r)): .aY .di:=by obtain⟨G,f,pl,j,h1,h2,h3,h4,_⟩:=h;intro z;rw[z,C3]at h4;cases h4
theorem OR{T: .b}{F:Hp}{done: .dk}{vs: .N}(h: .xk T F done vs): .Fo (v= .B):=by
 induction h with
 |nil=>intro v D;cases D
 |cons h t j=>
  intro v D;rcases bu.mp D with rfl|D
  ·obtain⟨_,i,_,_,e,_⟩:=h;exact⟨i,e⟩
  ·exact j v D
theorem cP.wr{T: .b}{H H':Hp}{tk c:Addr}{t:ax}{ts:cQ}{vs: .N}(h: .jX)(f: .aY .di)(R:H c=Option.some (.lst vs))(D: .Fo (v= .B))(s: .cj c)(n:c≠tk): .hE H':=by
 obtain⟨G,d,pl,j,h1,h2,h3,h4⟩:=h
 obtain⟨x,r,W⟩:∃x r,.di=x::r:=by
  cases b:fD t with
  |nil=>rw[5,b,f]
  |cons x r=>exact⟨x,r,Y⟩
 refine⟨G,d,pl,j,s _ _ h1 n.symm,s _ _ h2 .a2,s _ _ h3 .a2,h4⟩
 ·rw[z,R,W]at h2;have e:=HO.lst.inj (eD h2);obtain⟨a,N⟩:=D (.n8 x.1) (.lJ e);cases N
 ·rw[z,R,W]at h3;have e:=HO.lst.inj (eD h3);obtain⟨a,N⟩:=D (.a5 x.2) (.lJ e);cases N
def VR(T: .b):Sp:=λvs H Q E=>∃(tk:Addr) (t:ax) (ts:cQ) (num:Nat),vs=(.f4 tk (.int num))/\ .jX/\num<=60/\iL T tk t H (fK .C (decide (num=0)) (60-num) ts) (KG T H) Q E
theorem JT{e lo hi:Nat}{ts s:cQ}{n:Nat}(h: .ir (eS lo hi) ts= .cg n s):n<=hi:=by
 cases ts with
 |nil=>cases h
 |cons z r=>
  cases D:eS lo hi z.1 with
  |none=>rw[3,ng D]
  |some W=>rw[210,nj D,.kW (xT D)]
theorem Hy(T: .b)(hN:base.NoSeer)(I: .aj=none): .J P w K .x 43 T.qC.f T.qC.fd ["tokens","number"] (VR T):=by
 refine T.qC.F.az ["tokens","number","made_with","itself","instructions"] .f;obtain⟨tk,t,ts,num,rfl,l,hnum,g⟩:=h;obtain⟨G,fs,hi1,hi2,hi3,hi4⟩:=l.ins;rw[0,⟨_,.eo (bb (c5 .F .eN T.kq (qW T) M.m W (ao (.AV (.t7 T.kr (qX T)) bq (fO gO .e (T.bE "MOST_BLOCKS" 60)))))) 2 nd (.nt T.mm (xq T) M.m W aq (T.bE "MOST_MADE_WITH" 60)) (.en (.nt T.mm (xq T) M.m W aq (.wB .e aq aq)) (.aC 4 nd .ib (.wH ef (.vY (.nC (.t7 T.oR (AX T))) jj (.t7 T.kr (qX T)) bq) (Z (.pA (.wi (T.cA .aF) "MOST_INSTRUCTIONS" 300) (.qv .eN T.kq (qW T) W iV) a0) (.ql iJ iK ib .aF (.ce T.tZ (Sy T hN I) M W 0))) (cS T.block (Rl T.block) M.m W (cG .p .a3 .aF))))),?_⟩,⟨.dW,G,fs,Y,hi1,hi4,.dW,G,fs,Y,hi1,hi3,.qd,Y,l,?_⟩]
 cases ts with
 |nil=>exact g
 |cons x r=>
 have f:=l.some;rw[7,⟨.aJ⟩,FQ];unfold fK at g;dsimp only at g;have bad:(x.1≠ .bs∨60-num=0)->gj T tk x.2 H E:=λh=>by rw[af h]at g;exact g
 by_cases S:x.1= .bs
 case neg=>rw[1,aW S,aj ⟨tk,t,x,r,.a,Y,l,(.n).mpr (bad (.inl S))⟩]
 rw[9,bC S,aR ⟨.b2,tk,t,x,r,_,Y,l,?_⟩];by_cases hk:num<60
 case neg=>rw[1,.g2,(.n).mpr (bad (.inr (by omega)))]
 rw[.jY];rw[.dj (.ts z (z S) (λz=>by omega)),Pr,Vx]at g;rw[0,.fM Y λm U ta1=> ?_,⟨_,Y,tk,t,r,0,60,Y,ta1,?_⟩]
 cases F:take t.length (eS 0 60) r with
 |error q=>rw[27,F,.tr U]
 |ok y=>
 obtain⟨kept,s0⟩:=y;rw[F]at g;dsimp only at g;have hkept:=JT F;rintro X v B ta2 rfl;obtain⟨hi,hhi⟩:∃hi:Nat,hi=(.wL (decide (num=0))):=⟨_,Y⟩;refine⟨.j,.aR,Ph (v:=.a5 hi) .a2 .a2 ?_⟩
 ·have:num=0:=.wT z
  rw[bC this,.M]at hhi;rw[19,hhi]
 ·have:num≠0:=λh=>by have:=cq z;exact this (by rw[h];rfl)
  rw[aW this,.n]at hhi;rw[19,hhi]
 refine⟨tk,t,s0,0,hi,Y,ta2,?_⟩;rw[<-hhi]at g
 cases D:take t.length (eS 0 hi) s0 with
 |error q=>rw[27,D,.tr (.gG U)]
 |ok y=>
 obtain⟨self,u⟩:=y;rw[D]at g;dsimp only at g;have hself:self<=1:=cn (JT D) (by rw[hhi];split<;>omega);rintro V v C ta3 rfl;rw[0,⟨.ab,λil s=> ?_⟩,cJ s λH4 A k4=> ?_];have b4: .qu H4:=(.b0 U B C).gC A
 have hilH:H il=none:=by
  rcases hh:H il with _|o
  ·rfl
  ·obtain⟨dx3,fs3,q3,_⟩:=ta3.ins;have ne:il≠tk:=λz=>by rw[z,q3]at s;cases s
   rw[(.b0 U B C) _ _ hh ne]at s;cases s
 generalize hall:fx t.length 300 u=whole at g
 rw[164,∀(k:Hp) (done: .dk) (vs: .N) (ts:cQ),.qu k-> .hE k->k il= .a7 vs-> .xk T (aD [] k) done vs-> .g3<=300->whole= .cg done ts->
   ∀p d,k p=none->k d=none->d≠p->BJ T.block.c (.aK::([.int kept,.int self,.ref il]++[])) (.eL (upd k d (.own p)) p T.block.c d []) (λu X=>u= .au/\ .bV p X) E,by
  intro k done vs ts b5 ta5 e hp5 hd5 ew
  rw[108,ew,Qs λH6 bo db c hb6=> ?_]
  have hl6:=c _ _ e
  refine g H6 (.ref bo) (b5.gC c) (ta5.same c) ⟨il,hilH,by rw[hl6];exact nofun,bo,db,il,vs,Y,c0 hb6 OD,Fb hl6 (pZ il),.g4 hp5 ((z.same c.kp).same (ui (by intro a N;cases N))),hkept,hself,hd5⟩,⟨λj σ H'=>∃(ts:cQ) (done: .dk) (vs: .N),j= .lO/\σ=[.I tk,.ig num,.ig kept,.ig self,.I il]/\ .qc/\ .hE H'/\H' il= .a7 vs/\ .xk T (aD [] H') done vs/\ .g3<=300/\whole=pd done (fx .C (300- .g3) ts),⟨_,u,[],[],Y,Y,b4,ta3.same A,k4,.nil,.ab,?_⟩,?_⟩]
 ·rw[<-hall];show fx .C 300 u=pd [] (fx .C 300 u);cases fx t.length 300 u<;>rfl
 rintro j σ k ⟨ts,done,vs,rfl,rfl,b5,ta5,e,hp5,hd5,ew⟩;obtain⟨dx5,fs5,R,L,q3,q4⟩:=ta5.ins;have hvl:=b_ hp5;refine⟨.dW,dx5,fs5,Y,R,L,.qd,Y,ta5,.ac⟩
 cases ts with
 |nil=>rw[OP]at ew;rw[7,aj (aj ⟨.jn,fin k done vs [] b5 ta5 e hp5 hd5 ?_⟩),ew];rw[25,.AU (done++[]) _,cC]
 |cons z r5=>
  rw[7,aR ⟨.dW,dx5,fs5,Y,R,q3,tk,t,_,Y,ta5,.aJ⟩,FQ];by_cases hz:z.1= .bs
  ·rw[bC hz];rw[OM _ _ hz]at ew;rw[7,aj ⟨.jn,fin k done vs (z::r5) b5 ta5 e hp5 hd5 ?_⟩,ew];rw[25,.AU (done++[]) _,cC]
  ·rw[89,aW hz,aR ⟨_,.q2⟩,⟨_,Y,il,.dB e,.aJ⟩];by_cases hfull: .g3=300
   ·rw[70,by rw[<-hvl,hfull];rfl,⟨.dW,dx5,fs5,Y,R,q4,tk,t,z,r5,.a,Y,ta5,.zG .n⟩];rw[hfull,lT,OO _ hz]at ew;rw[27,ew,.tr b5]
   ·rw[64,aa (λzz=>hfull (.wT zz))];have hk5:300- .g3=(300-(.g3+1))+1:=by omega
    refine⟨.ln ⟨.bP e⟩,.dW,t,z,r5,Y,ta5,?_⟩
    cases ei:instr t.length z.1 z.2 r5 with
    |error q=>rw[hk5,ON _ _ hz ei]at ew;rw[27,ew,.tr b5]
    |ok y=>
     obtain⟨i,c⟩:=y;rw[hk5,OQ _ _ hz ei,Uz]at ew;have hlen:=wN ei;intro H6 v b6 ta6 hins;have nil_:il≠tk:=.al e R;have hrefs:=OR hp5;have hl6:=b6 _ _ e nil_;have kp6:Kp [] k H6:=ta5.kp b6;rw[63,⟨il,vs,v,Y,Y,hl6,.nI⟩,.Fn];have kp7:Kp [] H6 H7:=w7.kp hl6 (by rfl);obtain⟨dx6,fs6,r1,_⟩:=ta6.ins;refine⟨.az,.o4,c,done++[i],vs++[v],Y,Y,λb o h n=>w7 _ _ (b6 _ _ (b5 _ _ h n) n) (.aN hilH),?_,k7,.nD (.g4 hp5 ((z.same kp6).same kp7)) (hins.aD.same kp7),.wJ (.g3+1<=300),?_⟩
     ·exact ta6.wr f hl6 hrefs w7 nil_
     ·rw[1,bL,ew]
end
section
open Vaunih (Instr txt Block nat)
def su(c:aX):Prop:=∀b∈c,∀x∈b.code,∀q wt,x=Instr.num q wt-> .cV .g1/\ .cV .an
theorem Fy:(10:Nat)^100<= .F3:=.F2
theorem VE{q:ft}(h: .cV .g1/\ .cV .an): .c (jV q):=by unfold jV;rw[bU,cR,cR];exact⟨cY h.1 Fy,cY h.2 Fy⟩
theorem AN{n:Nat}(h:n<=999): .xb (nat n):=.wS 3 (by omega)
theorem Ja{i:Int}{k:Nat}(h: .xc<10^k)(G:1<=k): .K .AP (k+1):=by
 have:=n6 h G;rw[288]
 ·rw[84]
 ·omega
theorem yf{x:Instr}(ok:pS x)(j:∀q wt,x= .fc->(.cV .g1/\ .cV .an)/\ .nV): .xb (eK x)/\ .AN (eK x) .C:=by
 have f:=ok.hi;have L:=ok.lo;have one:∀{a:ax},.cZ<=202-> .xb [a]/\ .AN [a] .C:=λ{a} h=>⟨by show 1<=3;decide,λt V=>by cases cX.mp V;exact h⟩
 have two:∀{a b:ax},.cZ<=202-> .AM b-> .xb [a,b]/\ .AN [a,b] .C:=λ{a b} h k=>⟨by show 2<=3;decide,λt V=>by
  rcases bu.mp V with rfl|V
  ·exact h
  ·rw[287,k]⟩
 have B:∀{n:Nat},.Z<=999-> .AM (nat n):=λ{n} h=>.qn .Fi
 cases x with
 |num q wt=>
  obtain⟨⟨h1,h2⟩,h3⟩:=j q wt Y;refine⟨.y,.nH⟩;rcases bu.mp V with rfl|V
  ·exact(show .AM .xa by decide)
  ·rcases bu.mp V with rfl|V
   ·unfold Vaunia.shownQ;have l1:=Ja h1 (by decide);have l2:=n6 h2 (by decide);split
    ·omega
    ·rw[98,bL,bp]
   ·rw[287,B (by omega)]
 |truth b=>cases b<;>exact .k2
 |get n=>rw[85,B f]
 |free n=>rw[85,B f]
 |fn n=>rw[85,B f]
 |call n=>rw[85,B f]
 |fold n=>rw[85,B f]
 |skip n=>rw[85,B f]
 |«unless» n=>rw[85,B f]
 |part n=>rw[85,B f]
 |pow k=>rw[163,-9<=k,L,ok.pw k Y];rw[85,.qn (Ja (k:=1) (i:=k) (by omega) (by decide))]
 |op o=>cases o<;>exact .k2
 |nil=>exact .k2
 |bind=>exact .k2
 |ret=>exact .k2
 |pair=>exact .k2
 |fst=>exact .k2
 |snd=>exact .k2
 |cons=>exact .k2
 |root=>exact .k2
end
section
open Vaunih (Instr txt Block nat)
structure yS(b:Block):Prop where
 kept: .li<=60
 self:b.self<=1
 len: .AO
 ins:∀x∈b.code,pS x/\∀q wt,x= .fc->(.cV .g1/\ .cV .an)/\ .nV
theorem Ii{α β:Type}{R: .nG}{xs: .av}{ys: .lA}(h: .pZ):∀x∈xs,∃y,R x y:=by
 induction h with
 |nil=>rw[280]
 |cons h t j=>
  rw[279]
  ·exact⟨_,h⟩
  ·exact j x W
theorem dQ.good{T: .b}{F:Hp}{c:aX}{v:L2.V}(h: .fJ F v)(G:su c):∀b∈c,yS b:=by obtain⟨l,bs,e,R,d,h1,h2⟩:=h;intro b S;obtain⟨y,a,s,t,xs,p,g,m,o,f,k,n⟩:=Ii d b S;refine⟨f,k,n,.zr⟩;obtain⟨z,ok,i,A,val,r,hz,D⟩:=Ii o x W;refine⟨ok,λq wt j=>⟨G b S x W q wt j,?_⟩⟩;obtain⟨_,_,_,_,_,aw⟩:=D q wt j;exact aw.w2
theorem qG{α β:Type}{f:α-> .lA}{m:Nat}: .x9 ((∀x∈l,.K (f x) m)-> .K (l.flatMap f) (.cw*m))
 |[],_=>.ab
 |x::l,h=>by
  rw[fS,bL,bp,Dj,vO]
  rw[97,h x .aS,qG λy g=>.k1 y g]
  omega
theorem yS.words{b:Block}(h:yS b):(fF b).length<=903/\ .AN (fF b) .C:=by
 have R:=qG λx W=>(yf (h.ins x W).1 (h.ins x W).2).1;have h3:=h.len;refine⟨?_,.nH⟩
 ·unfold fF;rw[bL];rw[12,3+_<=903]
 ·rcases gV.mp V with V|V
  ·have G:=h.kept;have L:=h.self;rcases bu.mp V with rfl|V
   ·exact(show .AM .bs by decide)
   ·rcases bu.mp V with rfl|V
    ·exact .qn .Fi
    ·rw[287,.qn .Fi]
  ·obtain⟨x,W,V⟩:=zi.mp V;exact(yf (h.ins x W).1 (h.ins x W).2).2 t V
theorem Pk:∀ws: .bI,.Fa (" ":Str) ws bR=bR (.qm ws):=by
 intro ws;apply kM;rw[285,blank_eq,fo,pq];show iQ [32] (ws.map λt=>.gQ t)=_
 induction ws with
 |nil=>rfl
 |cons a r j=>
  cases r with
  |nil=>rfl
  |cons b r=>rw[95,(.gQ a)++([32]++iQ [32] ((b::r).map λt=>.gQ t))= .gQ (a++32:: .qm (b::r)),j,fT]
def V4(T: .b)(L: .g):Sp:=λvs H Q _=>∃(bl:L2.V) (c:aX),vs=[bl]/\ .nB/\su c/\∀H',.R-> .te .AL H'
theorem RG(T: .b)(L: .g)(hN:base.NoSeer)(hP: .aj=none)(hD:base.NoDigits): .J P w K .x 42 T.tE.f T.tE.fd ["blocks"] (V4 T L):=by
 refine T.tE.F.az ["blocks","words","block","instruction"] .f;obtain⟨bl,c,rfl,I,N,q⟩:=h;have good:=I.good N;obtain⟨l,bs,rfl,R,d,hc1,hc2⟩:=I;have gstr:=.Au;have bstr: .jB "str" .At:=by decide+kernel
 refine⟨.eX .ib (.bC (ik ef Y (mW .F) (eo 2 nd) (Z (bb (.nh sy sA uE .e (bF (cG bq (.nU wu gstr bstr .gF) (.nU wu gstr bstr .gF))))) (O (ik ef Y (mW .gF) (eo 3 nd) (.ql sy sA uE .e (.ce T.tO (Sb T hN hP hD) M W 3)))))) (Bh bq .e))⟩;have n:=b_ d;have bcl:=.sP;have gl:=.X R;have accLen:∀i,(.k0 (.d9 c)).length<=54180:=λi=>by rw[286,.d9 c,fF,903,.si (.AI b (C_ S)),eX];have h2:min i .az*903<=60*903:=zt _ (by omega);omega
 rw[20,⟨.ab,λwl hwl=> ?_⟩,cJ hwl .sU,⟨_,Y,l,Y,⟨.jz (U _ _ gl)⟩,?_⟩,.AK bs (.i6 .R ((∃u v: .dH,σ=[.gH,.I wl,u,v])/\H' wl= .a7 (gA (.k0 (.d9 c))))) ⟨U,⟨none,none,Y⟩,k1⟩ (.AJ h _ _ gl) ?_ ?_]
 ·rintro i x σ H' hxi ⟨s',⟨u,v,rfl⟩,hw⟩;have hi:i< .az:=by have:=.dD hxi;omega
  have hci: .a1 c= .i5 c:=bS hi;obtain⟨y,g,hblk⟩:=dP d hci;rw[161,hxi];have hgood:=good (c[i]) (lO hci);have hnumb:=N (c[i]) (lO hci);have etk: .k0 (.nO c i)= .k0 (.d9 c)++fF (c[i]):=.Fe hci pV (_++(fF (c[i])++[])=_) cC
  generalize (c[i]:Block)=b at hblk hgood hnumb etk;obtain⟨ba,a,li,ixs,rfl,hba,hli,hins,kk1,kk2,kk3⟩:=hblk;have gba:=.X hba;rw[211,hli];have a1:=accLen i;have a2:=accLen .z;rw[etk,bL]at a2;generalize (c.take i).flatMap fF=acc at hw etk a1 a2;rw[6,⟨.id ⟨.bP hw⟩,ba,_,a,.h,.dU gba,bcl,.x8 T,rF,_,Y,.Fh,_,Y,ba,_,a,.h,.dU gba,bcl,.EE T,yy,_,Y,.Fh,aY,λt ht=> ?_⟩,cJ ht λX s2 k=> ?_,⟨wl,t,.o,s2 _ _ hw,k,.ad⟩]
  ·unfold gA;rw[bh,br];rw[36,.iu+3]
  refine bc λH3 G k3=> ?_;have C: .aB H3:=.Ao _ _ (s2 _ _ (.dU h)) hwl;have k3':H3 wl= .a7 (gA (acc++[.bs,.lM,.lL])):=by rw[k3,pz,pz];unfold gA;rw[fT,show Str.ofString "block"=bR .bs by decide+kernel];rfl
  refine⟨_,Y,ba,_,a,.h,C _ _ gba,bcl,.zQ T,vh,li,Y,⟨.jz (C _ _ gli)⟩,?_⟩;have s:=b_ hins;refine ug (xs:=ixs) (λj σ F=>.aB F/\(∃v: .dH,σ=[.gH,.I wl,.I ba,v])/\F wl= .a7 (gA (acc++[.bs,.lM,.lL]++ .Ff b j eK))) ⟨C,⟨v,Y⟩,.Fg k3' _ (some (HO.lst (gA (_++[])))) cC⟩ (λj σ F _ h=>.AJ h _ _ gli) ?_ ?_
  ·rintro j z σ H4 hzj ⟨A,⟨v4,rfl⟩,hw4⟩;have D:j< .ak:=by have:=.dD hzj;omega
   have hcj:(.ey)[j]? = .sc .ey j:=bS D;obtain⟨y,g,hia⟩:=dP hins hcj;rw[161,hzj];have hm:=lO hcj;have aw:=hgood.ins _ hm;have hnx:=hnumb _ hm;have ejk: .Ff b (j+1) eK= .Ff b j eK++eK ((.ey)[j]):=.Fe hcj pV (_++(eK ((.ey)[j])++[])=_) cC
   generalize b.code[j]=x at hia aw hnx ejk;rw[0,⟨.id ⟨.bP hw4⟩,z,x,Y,hia.out.same A,λq0 wt e=>VE (hnx q0 wt e),λH5 l5 p hl5=> ?_⟩,⟨wl,l5,.o,p _ _ hw4,hl5,.ad⟩]
   ·unfold gA;rw[bh,bh,br,bL,bL];rw[286,b.code.take j,eK,3,λy g=>(yf (hgood.ins y (C_ g)).1 (hgood.ins y (C_ g)).2).1,eX];have h2:=(yf aw.1 aw.2).1;rw[36,.iu+3+_+_]
   rw[0,bc λr w6 k6=> ?_,⟨λb o h=>w6 _ _ (p _ _ (A _ _ h)) (.aN hwl),⟨_,Y⟩,?_⟩];rw[k6,ejk,<-d8];unfold gA;rw[fT (l₂:=eK x)]
  ·rintro σ H4 ⟨A,⟨v4,rfl⟩,hw4⟩;refine⟨A,⟨.h⟩,?_⟩;rw[hw4,<-s,iD,etk,d8];rfl
 ·rintro σ H' ⟨s',⟨u,v,rfl⟩,hw⟩;rw[<-n,iD]at hw;have a1:=accLen .az;rw[iD]at a1;rw[10,gA (.k0 c),.vR ((.k0 c).map bR),by unfold gA;rw[fo];rfl]
  rw[e]at hw;refine⟨⟨_,Y⟩,_,Y,_,wl,.ex,.pE hw,.ad⟩
  ·rw[192,StrLaws.sumLen_le (B:=202) ((.k0 c).map bR) λy g=>by obtain⟨t,ht,rfl⟩:=iC.mp g;obtain⟨b,S,ht⟩:=zi.mp ht;rw[lD];exact(.AI b S).2 t ht,bh];rw[bh];have h2: .Fd:=by kernel_rfl
   rw[28,h2]
  ·rw[Pk,<-Jd];exact q H' s'
end
def qr(pl ln pt:L2.V): .lG:=aO "parts" pt (aO "length" ln (aO "pieces" pl []))
section
variable{pl ln pt v:L2.V}
theorem D0: .O (qr pl ln pt) ("pieces":Str) pl:=by kernel_rfl
theorem DY: .O (qr pl ln pt) ("length":Str) ln:=by kernel_rfl
theorem DZ: .O (qr pl ln pt) ("parts":Str) pt:=by kernel_rfl
theorem lW{m:Str}(h:m="count_parts"∨m="write"∨m="whole"): .cy (qr pl ln pt) m:=by rcases h with rfl|rfl|rfl<;>kernel_rfl
theorem DX:(qr pl ln pt).length=3:=by kernel_rfl
end
structure fJ(T: .b)(H:Hp)(tg pl:Addr)(ps: .bI)(pt:Nat):Prop where
 obj:∃dt,H tg= .bX .Dy dt (qr .ih (.a5 .eJ) (.a5 pt))
 lst:H pl= .jv ps (λt=>.xe t)
 bZ: .K ps .eJ
 short: .eJ<=8000
 least:pt<=2000
theorem fJ.same{T: .b}{H H':Hp}{c pl:Addr}{ps: .bI}{pt:Nat}(h: .oX H)(s: .R): .oX H':=⟨.HD h (s _ _ z),s _ _ .eD,h.bZ,h.short,h.least⟩
def vn(T: .b)(c pl:Addr)(H:Hp)(E:XK):Prop:=∀H',.rT c-> .wY T H'
def V7(T: .b):Sp:=λvs H Q E=>∃(c pl:Addr) (ps: .bI) (pt more:Nat),vs=(.jQ .bQ more)/\ .oX H/\(pt+more<=2000->∀H',.rT c->fJ T H' c pl ps (pt+more)-> .bN)/\(¬pt+more<=2000->vn T c pl H E)
theorem AZ(T: .b): .pk P w K T.oP.f T.oP.fd ["self","more"] (V7 T):=by
 refine T.oP.F.az ["self","more"] .f;obtain⟨c,pl,ps,pt,more,rfl,l,R,L⟩:=h;rw[364,T];have np:=T.telling.n "parts";rw[6,⟨_,Z (.pX .e qJ) (O (.wC ic .i "MOST_PARTS" 2000 (rg W Y T.gc.L.x Y .wV))),?_⟩,⟨.fA,_,I,.mP,cl,np,DZ,.b2,I,_,h1,.gN DX⟩,bc .jW];have b2:cz c pl H X:=.IT;rw[246,⟨.fA,_,I,.h,k,cl,np,DZ,.eP⟩,2000<pt+more,?_,.a2]
 ·exact .oI ⟨.p0,.p0⟩
 ·exact L (.wr z) X b2
 ·have hz:=cq z;exact R (by omega) X b2 ⟨⟨I,k⟩,.t0 _ _ l.lst l.lst h1,l.bZ,l.short,by omega⟩
def Xl(T: .b):Sp:=λvs H Q E=>∃(c pl:Addr) (ps: .bI) (pt:Nat) (t:ax),vs=[.bQ,.xe t]/\ .oX H/\ .aY t/\ .C<=1000000/\(.eJ+ .C<=8000->∀H',.rT c->fJ T H' c pl (ps++[t]) pt-> .bN)/\(¬ .eJ+ .C<=8000->vn T c pl H E)
theorem A7(T: .b): .pk P w K T.oQ.f T.oQ.fd ["self","piece"] (Xl T):=by
 refine T.oQ.F.az ["self","piece"] .f;obtain⟨c,pl,ps,pt,t,rfl,l,f,d,R,L⟩:=h;rw[364,T];have nl:=T.telling.n "length";have a:=.al l.lst h1;rw[0,⟨_,.i1 (.pX (T.lC .e) qJ) (.wC ic .i "MOST_BYTES_telling" 8000 (rg W Y T.gc.L.x Y .wV)) (.ql iJ iK ib .i .e),?_⟩,⟨.fA,_,I,.mP,cl,nl,DY,.j,.sz lD,.o,I,_,h1,.gN DX⟩];rw[10,(.m .eJ)+(.EY (bR t)),.m (.eJ+ .C),.Hr]
 rw[9,e,bc .jW];have b2:cz c pl H X:=.IT;rw[246,⟨.fA,_,I,.h,k,cl,nl,DY,.eP⟩,8000< .eJ+ .C,?_,.a2]
 ·exact .oI ⟨.p0,.p0⟩
 ·exact L (.wr z) X b2
 ·have hz:=cq z;have y:=w2 _ _ l.lst a;refine⟨.fA,_,I,.h,k,cl,.IS T,D0,.inl ⟨.bP y⟩,_,Y,pl,.o,y,.ad⟩
  ·have:=l.bZ;rw[98,bh,br]
  rw[145,bc λb G D=> ?_,.IK (ps++[t]) (.eJ+ .C),by simp]
  have V:=List.length_pos_iff.mpr f;have g:=l.bZ;refine R (by omega) b (b2.trans (SameBut.Es G)) ⟨⟨I,?_⟩,.ad,by omega,l.least⟩
  ·rw[1,n,G _ _ k a.symm]
  ·rw[24,D,fT]
  ·rw[n,bL];rw[36,_+1]
theorem join_none:∀ts: .bI,.Fa ("":Str) ts bR=bR ts.flatten:=by
 intro ts;apply kM;have F:(Str.cps ("":Str)).toList=[]:=by kernel_rfl
 rw[285,F,fo,pq];show iQ [] (ts.map λt=>.gQ t)=_
 induction ts with
 |nil=>rfl
 |cons a r j=>
  cases r with
  |nil=>rw[96,.z0 a .bi,.z0 (a++[]) .bi]
  |cons b r=>rw[95,(.z0 a .bi)++([]++iQ [] ((b::r).map λt=>.z0 t .bi))= .z0 (a++(b::r).flatten) .bi,j,fT]
def Xh(T: .b):Sp:=λvs H Q _=>∃(c pl:Addr) (ps: .bI) (pt:Nat),vs=[.bQ]/\ .oX H/\ .te ps.flatten H
theorem HA(T: .b): .t9 T.qR.f T.qR.fd (Xh T):=by
 refine T.qR.F.az ["self"] .f;obtain⟨c,pl,ps,pt,rfl,l,q⟩:=h;obtain⟨I,h1⟩:=l.obj;refine⟨.ax (Bh bq .i)⟩;rw[261,.qe λt=>L2.V.str (bR t),.jF (.qe bR),fo]
 rw[129,l.lst,e];refine⟨⟨_,Y⟩,.fA,_,I,.mP,T.telling.cl,.IS T,D0,_,pl,.ex,.pE R,.ad⟩
 ·have h2:("":Str).length=0:=by kernel_rfl
  rw[h2,Nat.mul_zero,fo];have D:(.rc ps ((λx:Str=>.gU)∘bR))= .eJ:=by rw[List.length_flatten];congr 1;apply C8;intro t _;exact lD t
  rw[23,l.short]
 ·rw[1,join_none,q]
def Xc(T: .b):Sp:=λvs H Q _=>∃(p dp:Addr),vs= .iL/\H p= .oZ .Dy []/\∀H' pl,.cj p->H pl=none->fJ T H' p pl [] 0-> .bN
theorem Hi(T: .b): .t9 T.telling.f T.telling.fd (Xc T):=by
 refine T.telling.F.az ["self"] .f;obtain⟨p,dp,rfl,hp,q⟩:=h;rw[153,T];rw[0,⟨_,.f7 .ib aq aq,?_⟩,⟨.ab,λpl l=> ?_⟩];generalize a:upd H pl _=H1;rw[83,a,l];rw[20,⟨.kO,U _ _ hp,cl,.IS T,by decide,?_⟩,bc λX w2 d=> ?_,⟨.kO,d,cl,T.telling.n "length",.lf⟩,bc λV G N=> ?_];rw[63,⟨.kO,N,cl,T.telling.n "parts",.A1⟩,λc L A=> ?_];rw[201,pl≠p,(by rw[z,hp]at l;cases l)]
 have b:=.b0 w2 G L;exact q c pl (.Ep U b) l ⟨⟨dp,A⟩,b _ _ f np,.y,.fw⟩
section
open Vaunih (txt shownValue shortNumbers)
theorem ah.or{CX:fG}{k:Nat}{f:Addr}{fd:FuncData}{ps: .H}{sp d:Sp}(F: .J P w K CX k f fd ps sp)(G: .J P w K CX k f fd ps d): .J P w K CX k f fd ps (λvs H Q E=>sp vs H Q E∨d vs H Q E):=⟨λvs H Q E h=>h.elim (F.len vs H Q E) (G.len vs H Q E),λA outer s H args us vs Q E M e b r h=>h.elim (F.run A .a0 s H args us vs Q E M e b r) (G.run A .a0 s H args us vs Q E M e b r)⟩
def i9: .N-> .N
 |[]=>[]
 |e::r=>e:: .hi [.str ", ",x]
theorem wz(l: .N)(x:L2.V):i9 (l++[x])= .sD .cw [x] (i9 l++[.str ", ",x]):=by
 cases l with
 |nil=>rfl
 |cons e r=>rw[aa .o4];rw[46,e::(r++[x]).flatMap _=_,pV]
theorem Ac(l: .N): .K (i9 l) (2* .cw)/\((i9 l).length=0↔ .cw=0):=by
 cases l with
 |nil=>exact⟨.y,vt⟩
 |cons e r=>
  have:∀r: .N,.aA (.hi [L2.V.str ", ",x]) (2* .cQ):=λr=>by
   induction r with
   |nil=>rfl
   |cons y r j=>rw[fS,bL,j];rw[12,2+2* .cQ=2* .cv]
  have F: .aA (i9 (e::r)) (2* .cQ+1):=.i8 (.aG (.hi [L2.V.str ", ",x])) _ this
  rw[98,F,bp]
def Js:Sp:=.G6 .N (vs= .cW/\H a= .fY/\ .a8<=2000/\ .ij (H l=none-> .c2= .yZ us-> .dI))
theorem S6(T: .b): .IR T.jK.f T.jK.fd Js:=by
 refine T.jK.F.az ["values","row","value"] .f;obtain⟨a,us,rfl,N,d,q⟩:=h;rw[68,⟨.eX .ib (.bC (ik ef Y (mW .F) (eo 2 nd) (.uT (.pA (.x1 ic .e aq) (.nh iJ iK ib .e bq) a0) (fA eY iJ iK ib .e (.bz 2)))) .e)⟩,⟨.ab,λl R=> ?_⟩,cJ R λm U f=> ?_,⟨_,Y,a,Y,⟨.jz (U _ _ N)⟩,?_⟩,.AK us (.i6 .R ((∃v: .dH,σ=[.I a,.gH,v])/\ .c2= .yZ .oY)) ⟨U,⟨_,Y⟩,f⟩ (.AJ h _ _ N) ?_ ?_]
 ·rintro i x σ H' W ⟨s',⟨v,rfl⟩,s⟩;rw[162,W];rw[183,.nO us i= .oY++[x],iE,W]
  obtain⟨t,C⟩:=Ac .oY;have c: .aA .oY i:=.A5
  rw[246,⟨_,Y,l,.ti s⟩,i≠0,?_,.a2]
  ·exact .oI ⟨.DB c,.DB c⟩
  ·rw[68,⟨.ln ⟨.bP s⟩,l,.o,s,.nI⟩,bc .jW,⟨.id ⟨.bP k⟩,l,.o,k,.IP br (_+1<_),?_⟩,bc .DA,⟨.Ao _ _ (w2 _ _ (.dU h) (.aN R)) R,⟨_,Y⟩,?_⟩];rw[D,g,wz,aa (by rw[c];exact bQ z),d8];rfl
  ·have hz:i=0:=KN.mp (cq z);rw[6,⟨.id ⟨.bP s⟩,l,.o,s,.nI⟩,bc .jW,⟨λb o h=>w2 _ _ (.dU h) (.aN R),⟨_,Y⟩,?_⟩];rw[k,g,wz,af (.os c),hz];rfl
 ·rintro σ H' ⟨s',⟨v,rfl⟩,s⟩;rw[iD]at s;exact⟨_,Y,q H' l s' R s⟩
def Jt:Sp:=.G6 .N (vs= .cW/\H a= .jS/\ .a8<=2000/\ .ij (H l=none-> .c2= .yZ us-> .dI))
theorem S7(T: .b): .IR T.jK.f T.jK.fd Jt:=by
 refine T.jK.F.az ["values","row","value"] .f;obtain⟨a,us,rfl,N,d,q⟩:=h;rw[68,⟨.eX .ib (.bC (ik ef Y (Ul .F) (eo 2 nd) (.uT (.pA (.x1 ic .e aq) (.nh iJ iK ib .e bq) a0) (fA eY iJ iK ib .e (.bz 2)))) .e)⟩,⟨.ab,λl R=> ?_⟩,cJ R λm U f=> ?_,⟨_,Y,a,Y,⟨_,aM.of (U _ _ N)⟩,?_⟩,NU (xs:=us) (.i6 .R ((∃v: .dH,σ=[.I a,.gH,v])/\ .c2= .yZ .oY)) ⟨U,⟨_,Y⟩,f⟩ (λi σ H' _ h=>aM.of (h.1 _ _ N)) ?_ ?_]
 ·rintro i x σ H' W ⟨s',⟨v,rfl⟩,s⟩;rw[162,W];rw[183,.nO us i= .oY++[x],iE,W]
  obtain⟨t,C⟩:=Ac .oY;have c: .aA .oY i:=.A5
  rw[246,⟨_,Y,l,.ti s⟩,i≠0,?_,.a2]
  ·exact .oI ⟨.DB c,.DB c⟩
  ·rw[68,⟨.ln ⟨.bP s⟩,l,.o,s,.nI⟩,bc .jW,⟨.id ⟨.bP k⟩,l,.o,k,.IP br (_+1<_),?_⟩,bc .DA,⟨.Ao _ _ (w2 _ _ (.dU h) (.aN R)) R,⟨_,Y⟩,?_⟩];rw[D,g,wz,aa (by rw[c];exact bQ z),d8];rfl
  ·have hz:i=0:=KN.mp (cq z);rw[6,⟨.id ⟨.bP s⟩,l,.o,s,.nI⟩,bc .jW,⟨λb o h=>w2 _ _ (.dU h) (.aN R),⟨_,Y⟩,?_⟩];rw[k,g,wz,af (.os c),hz];rfl
 ·rintro σ H' ⟨s',⟨v,rfl⟩,s⟩;rw[iD]at s;exact⟨_,Y,q H' l s' R s⟩
def Jr:Sp:=λvs H Q E=>Js vs H Q E∨Jt vs H Q E
theorem HB(T: .b): .IR T.jK.f T.jK.fd Jr:=ah.or (S6 T) (S7 T)
def y3(T: .b)(F:Hp)(n:Nat): .bk Itm L2.V
 | .t s,v=>v= .xe s
 | .v x,v=>.jN F x
theorem EK:(", ":Str)=bR .jp:=by decide+kernel
theorem EL{T: .b}{F:Hp}{n:Nat}{xs: .af}{us: .N}(h: .nX F n xs):Paired (y3 T F n) (gq xs) (i9 us):=by
 cases h with
 |nil=>rw[71]
 |cons h t=>
  refine .cons h ?_;clear h;rename_i l1 l2;show Paired _ (l1.flatMap _) (l2.flatMap _)
  induction t with
  |nil=>rw[71]
  |cons h t j=>rw[13,fS,fS,.cons (dZ .py EK) (.cons h j)]
end
section
open Vaunih (Instr Reach checkBlock codeFault localsAtStart)
theorem mH{H:Hp}{p d:Addr}{v C:HO}(np:H p=none)(nd:H d=none): .aB (upd (upd H d v) p C):=λb o h=>by rw[.jm h np,.jm h nd];exact h
theorem AL{H m X V:Hp}{p u tl:Addr}(U: .aB m)(np:H p=none)(b2: .zY m X)(A:m u=none)(j:m tl=none)(s:cz u tl X V): .aB V:=λb o h=>s b o (b2 b o (U b o h) (.aN np)) (aN (U b o h) A) (aN (U b o h) j)
theorem wW{L: .g}{H H':Hp}(W: .sY a)(s: .R):∀a∈L,H' a≠none:=λa N z=>by
 cases h:H a with
 |none=>exact W a N h
 |some o=>rw[22,s _ _ h]
def V3(T: .b)(L: .g):Sp:=λvs H Q _=>∃(bl:L2.V) (c:aX),vs=[bl]/\ .nB/\(.sY a)/\(∀H' i j k t,.R-> .mj=some (i,j,k)->H' t= .aE [.a5 i,.a5 j,.a5 k]-> .eW t)/\(∀H',.R-> .mj=none-> .bN)
theorem RF(T: .b)(L: .g): .J P w K .x 5 T.tD.f T.tD.fd ["blocks"] (V3 T L):=by
 refine T.tD.F.az ["blocks","number","fault"] .f;obtain⟨bl,c,rfl,I,hL,x,G⟩:=h;rw[250];obtain⟨l,bs,rfl,R,d,y,g⟩:=id I;have r:=.X R;have n:=b_ d;rw[6,⟨_,.bC (ik ef Y (pa Y jc (ao .zO)) (eo 1 nd) (.aC 2 nd (.gL T.qw (Hl T L) (.qt T.bW.iS (Hh T L) Y T.bW.g T.bW.F.b (bj .F .e))) (O (.dd (gz (uP .p)) (dE (cG .e (.fN .p) (.fN .p))))))) f7,?_⟩,⟨_,Y,l,.dB r,_,Y,.ga,?_⟩,uh (.i6 .R ((∃(v1 f: .dH),σ=[.gH,v1,f])/\∀j,j<i->∀b,c[j]? = .ki->∃rs,.oA j b= .oz)) ⟨.gX,⟨.h⟩,λj h=>.BW (Nat.not_lt_zero _)⟩ ?_ ?_]
 ·rintro i σ H' hi ⟨s',⟨v1,f,rfl⟩,hd⟩;have z:i< .az:=by omega
  have q: .a1 c= .i5 c:=bS z;generalize c[i]=b at q;have F:(0:Int)+ .er= .er:=CW _;rw[9,F,⟨.j,λp dp np v nep=> ?_⟩];have U:ae H' (.eL (upd H' dp (.own p)) p T.bW.c dp []):=mH np v;rw[0,⟨p,dp,_,i,c,b,Y,aB,I.same (s'.trans U).kp,q,wW hL (s'.trans U),λX u tl b2 A n2 B=>⟨Y,?_⟩⟩,⟨p,u,tl,c,b,_,(_,_),Y,B,Pass.start,λH3 i2 k t s e V=> ?_,λH3 rs a s e hrs _ _=> ?_⟩]
  ·rw[293,s',AL U np b2 A n2 s,⟨.j,aR ⟨.j,t,_,.mU V,.aR,t,_,.mU V,Y,aY,λt2 o=> ?_⟩⟩,x _ i i2 k t2 (C.upd o) (MV q hd e) aB]
  ·rw[185,s',AL U np b2 A n2 s];refine⟨.j,aj ⟨C,⟨.h⟩,λj D b' m=> ?_⟩⟩;by_cases N:j<i
   ·exact hd j N b' m
   ·rw[160,j=i,by omega];rw[q]at m;cases m;exact⟨rs,e⟩
 ·rintro σ H' ⟨s',⟨v1,f,rfl⟩,hd⟩;refine G H' s' (MT λj b S=>hd j ?_ b S);rw[23,.dD S]
def Wl(T: .b)(L: .g):Sp:=λvs H Q _=>∃(bl:L2.V) (c:aX) (y:Nat) (b:cM) (rs: .ft),vs=(.jQ bl y)/\ .nB/\(.sY a)/\c[y]? = .ki/\ .oA y b= .oz/\ .ij (.c2= .ip (.uN rs)-> .dI)
theorem RC(T: .b)(L: .g): .J P w K .x 5 T.tx.f T.tx.fd ["blocks","number"] (Wl T L):=by
 refine T.tx.F.az ["blocks","number","passage","heights","at"] .f;obtain⟨bl,c,nb,b,rs,rfl,I,hL,S,hrs,q⟩:=h;rw[374,T,.vN T];rw[250];rw[0,⟨.dZ (.qt T.bW.iS (Hh T L) Y T.bW.g T.bW.F.b (bj .F .e)) (.eo (bb (.ce T.qw (Hl T L) M W 2)) 3 nd .ib (.bC (ik ef Y (pa Y jc (ao (T.cA .gF))) (eo 4 nd) (.ql sy sA QP .a3 (bz c7 .gF .aF))) .a3))⟩,⟨.j,λp dp np ndp nep=> ?_⟩];rw[366,.jt dp p p T.bW.c dp,mH np ndp,⟨p,dp,_,nb,c,b,Y,aB,I.same U.kp,S,wW hL U,λX u tl b2 n1 j psg=>⟨Y,?_⟩⟩,⟨.cn,u,tl,c,b,_,(_,_),Y,psg,Pass.start,λH3 i2 k t b3 e V=> ?_,λH3 G a b3 e d psg3 hg=> ?_⟩]
 ·rw[226,.oA nb b= .error (i2,k),e,hrs]
 rw[226,.oA nb b= .ok G,e,hrs];have C:=AL U np b2 n1 j b3;rw[0,⟨.ab,λR hhl=> ?_⟩,cJ hhl λH4 A B=> ?_];have N:=psg3.same A;obtain⟨dp4,bl4,li4,ixs4,hp4,_,hli4,hins4⟩:=N.obj;obtain⟨rv4,hrl4,hrv4⟩:=N.ri;have s:=b_ hins4;obtain⟨L1,L2',L3⟩:=N.len;have gli4:=.X hli4;rw[0,⟨.cn,_,dp4,.h,hp4,cl,.vM T,sv,li4,.dB gli4,_,Y,.ga,?_⟩,uh (.i6 (.f2 H3) ((∃(v4: .dH),σ=[some bl,.ig nb,.I p,.I R,v4])/\H' R= .ip (.uN (.d9 rs)))) ⟨A,⟨_,Y⟩,B⟩ ?_ ?_]
 ·rintro i σ H' hi ⟨s',⟨v4,rfl⟩,n⟩;have z:i< .ak:=by omega
  rw[208,(0:Int)+ .er= .er,CW _,F];have psg':=psg3.same s';obtain⟨dp',bl',li',ixs',hp',_⟩:=psg'.obj;obtain⟨rv,hrl,hrv⟩:=psg'.ri;have hri: .a1 rs= .i5 rs:=.jE;have x:=hg i z;rw[hri]at x;generalize rs[i]=r at hri x;have hget: .a1 a.1=some .bL:=by have:=psg'.len.1;rw[<-x,i4,.jE];rfl
  obtain⟨v,D,ta,rfl,hta⟩:=dP hrv hget;have etk: .uN (.nO rs i)= .uN (.d9 rs)++m7 r:=by rw[iE,hri,pV];rfl
  refine⟨.ln ⟨.bP n⟩,.cn,_,dp',.h,hp',cl,nr,.mI hrl D,R,ta,.o,n,hta,.ad⟩
  ·rw[bh,br];rw[286,.d9 rs,m7,2,λy _=>.y,eX];rw[36,_+2]
  rw[0,bc λH5 w5 g=> ?_,⟨λb o h=>w5 _ _ (.dU h) (.aN hhl),⟨_,Y⟩,?_⟩];rw[g,etk,fT];rfl
 ·rintro σ H' ⟨s',⟨v4,rfl⟩,n⟩;rw[203,(.yb ixs4.length)=rs.length]
  rw[en,iD]at n;exact⟨_,Y,q H' R (C.trans s') n⟩
end
section
open Vaunih (txt shownValue shortNumbers)
def pb: .c1 VV
 | .num _ _=>true
 | .truth _=>true
 | .func _ _=>true
 |_=>.a
def WN(T: .b):Sp:=λvs H Q E=>∃(v:L2.V) (x:VV) (n:Nat),vs=[v]/\ .jN H x/\ .c (pb x)/\(.c .kp-> .te .d5 H)/\(.kp= .a-> .wY T H)
theorem Su(T: .b)(u:base.NoSeer)(I: .aj=none)(m:base.NoDigits): .J P w K .x 41 T.tW.f T.tW.fd ["value"] (WN T):=by
 refine T.tW.F.az ["value"] .f;obtain⟨v,x,n,rfl,D,l,R,f⟩:=h;refine⟨_,.xg .i bq (.ce T.ow (Hq T u I m) M W 0) (.ld .i bq (hA (eJ .i) bq bq)) bq,?_⟩;obtain⟨a,C,G,fs,S,N,cl,na,d⟩:=D.kind;subst S;refine⟨.cR,N,cl,na,d,.aJ⟩
 cases x with
 |num q wt=>
  rw[47,⟨_,Y,_,q,wt,n,Y,D,?_⟩];by_cases L: .c (jV q)
  ·rw[1,af L,R L]
  ·rw[1,aa L,f (yz.mpr L)]
 |truth b=>
  obtain⟨B,dx',e,h'⟩:=D;cases e;rw[18,⟨.cR,N,cl,na,d,.n7 ⟨_,Y,a,_,.yY,h',.EK,T.gi.truth.n "holds",D6,.ac⟩⟩];have c:=R Y
  cases b with
  |true=>
   rw[365,.IQ .Gw,("true":Str),by decide+kernel,e];exact aR c
  |false=>
   rw[365,.IQ .BJ,("false":Str),by decide+kernel,e];rw[4,c]
 |func b kept=>have c:=R Y;rw[365,.IQ (.lz b),("fn":Str),(by decide+kernel:bR .xh=("fn":Str)),e];rw[4,⟨.cR,N,cl,na,d,.aR,aj c⟩]
 |nil=>cases l
 |cons _ _=>cases l
 |pair _ _=>cases l
theorem fr_but{F H H':Hp}{a b:Addr}(s: .dh H)(A:F a=none)(j:F b=none)(t: .fC a b): .f2 F:=λx o h=>t x o (s x o h) (.aN A) (.aN j)
theorem fJ.old{T: .b}{H H':Hp}{c pl:Addr}{ps A: .bI}{pt e:Nat}(l: .oX H)(i:fJ T H' c pl A e)(b: .rT c){x:Addr}(h: .b4=none):H x=none:=by
 cases W:H x with
 |none=>rfl
 |some o=>
  exfalso;by_cases F:x=c
  ·subst F;obtain⟨I,z⟩:=i.obj;rw[3,z]
  ·by_cases D:x=pl
   ·subst D;rw[3,i.lst]
   ·rw[3,b _ _ W F D]
def WH(T: .b):Sp:=λvs H Q E=>∃(v:L2.V) (c pl:Addr) (ps: .bI) (pt n:Nat) (x:VV) (F:Hp),vs=[v,.bQ]/\ .oX H/\ .dh H/\F c=none/\F pl=none/\ .jN F x/\(.mM x∨∃a b,x= .cG)/\(pt+m8 x<=2000->∀H' l us,.rT c->H l=none-> .c2= .fY->fJ T H' c pl ps (pt+m8 x)->Paired (y3 T F n) (gP x) us-> .dI)/\(¬pt+m8 x<=2000->vn T c pl H E)
theorem A_{x:VV}(h: .mM x):gP x=[.um]++gq x.list++[.ul]/\m8 x=x.list.length:=by cases x<;>first|exact⟨Y,Y⟩|cases h
theorem Vr:("[":Str)=bR [91]:=by decide+kernel
theorem Vs:("]":Str)=bR [93]:=by decide+kernel
theorem Vp:("(":Str)=bR [40]:=by decide+kernel
theorem Vq:(")":Str)=bR [41]:=by decide+kernel
theorem So(T: .b): .gI T.tV.f T.tV.fd ["value","telling"] (WH T):=by
 refine T.tV.F.az ["value","telling"] .f;obtain⟨v,c,pl,ps,pt,n,x,F,rfl,l,sF,n1,j,hv,s,q1,L⟩:=h;rw[364,T];refine⟨_,.hU (aQ (.mV .i) (.bC (bb (c5 .e cl T.oP (AZ T) M.m W (ao .i))) (.e1 mR mR (.hV bq) (aJ T.jK (HB T) M.m W (ao (.ce T.gi.so.values (S4 T.gi.so) M W 0))) (.hV bq))) a0) (bb (c5 .e cl T.oP (AZ T) M.m W (ao aq))) (bF (oZ bq .i bq .i bq)),?_⟩;obtain⟨a,C,G,fs,S,haF,vcl,na,lk⟩:=hv.kind;subst S;refine⟨.cR,sF _ _ haF,vcl,na,lk,.aJ⟩;rcases s with R|⟨x1,x2,rfl⟩
 ·obtain⟨e1,D⟩:=A_ R;rw[e1,D]at q1;rw[D]at L;obtain⟨a',us,ea,hch,b⟩:=bw.chain hv R;cases ea;obtain⟨dx',f',o',hsz⟩:=hch.size;have d:=b_ b;have ek:kindS x="list":=by cases x<;>first|rfl|cases R
  rw[9,ek,aR ⟨.fA,I,.mY,lW .ao,_,Y,a,_,.yY,sF _ _ hsz,.zX T T "size",nB,c,pl,ps,pt,.a8,Y,l,λr m b1 i=> ?_,λhgt=>L (by omega)⟩];have sF1:=fr_but sF n1 j b1;refine⟨aY,.Hu⟩;generalize U:upd m l1 _=X;rw[339,bH U u,⟨_,Y,a,us,Y,hch.same (sF1.trans B),by rw[br];omega,λV l3 s3 hl3=> ?_⟩,.inl ⟨l3,us,Y,hl3,by omega,λq l4 A n4 hl4=> ?_⟩];have t:=(Ac us).1;rw[6,⟨l1,l4,.o,A _ _ (s3 _ _ k),hl4,.zH br (1+_) _,λl5 e=> ?_⟩,cJ e λH5 p k5=> ?_,⟨aY,λl6 z=> ?_⟩];generalize eH6:upd H5 l6 _=H6;obtain⟨s6,k6⟩:=bH eH6 z;rw[0,⟨l5,l6,.o,s6 _ _ k5,k6,.IP br (1+_+1<=_),.Hq⟩,cJ hl7 .Hp];have s16:ae m H6:=.b0 (.b0 B s3 A) p s6;have s17:ae m H7:=s16.trans s7;have o:=i.same s16;refine q1 (by omega) H7 l7 _ (.oW b1 s17) (l.old o (.oW b1 s16) hl7) k7 ?_ ?_
  ·rw[1,d,i.same s17]
  ·exact .nD (ie (.dE (dZ .py Vr)) (EL b)) (dZ .py Vs)
 ·obtain⟨a',dx',f,g,ea,hpr,N,y⟩:=hv;cases ea;have hprH:=sF _ _ hpr;rw[18,⟨_,Y,c,I,_,Y,h1,lW .ao,c,pl,ps,pt,2,Y,l,λr m b1 i=> ?_,L⟩];have hpr1:=fr_but sF n1 j b1 _ _ hpr;have aJ:=.EJ;rw[35,⟨_,Y,a,_,.yY,hpr1,aJ,T.gi.pair.n "first",DD,_,Y,a,_,.yY,hpr1,aJ,T.gi.pair.n "second",DE,aY,.Hu⟩,cJ u λX B k=> ?_,q1 r X l1 _ (.oW b1 B) (l.old i b1 u) k (i.same B) (.cons (dZ .py Vp) (.cons N (.cons (dZ .py EK) (.pS y (dZ .py Vq)))))]
end
section
open Vaunih (txt shownValue shownValues shortNumbers)
def iw:Itm->Nat
 | .t _=>1
 | .v _=>2
def hq(l: .d4):Nat:=.rc l iw
theorem wQ(l r: .d4):hq (l++r)=hq l+hq r:=by unfold hq;rw[fT,Dg]
theorem wR:∀l: .d4,.K l (hq l)
 |[]=>.y
 |i::l=>by
  have:=wR l
  have h1:1<=iw i:=by
   cases i with
   |t s=>exact aI 1
   |v x=>exact(by decide:1<=2)
  rw[12,.aG l<=iw i+hq l]
theorem FR(l: .af):hq (gq l)<=3* .cw:=by
 rw[225,.af,hq (.hi [.iW,.v x])=3* .cQ,by
  induction r with
  |nil=>rfl
  |cons y r j=>rw[fS,wQ,j];rw[12,1+(2+0)+3* .cQ=3* .cv]]
 cases l with
 |nil=>exact .y
 |cons e r=>rw[61,2+hq (.hi [.iW,.v x])<=3* .cv,key];omega
def xl: .ap Itm
 | .t s=>.aY s/\s.length<=100
 | .v _=>True
theorem G_(l: .af):∀i∈gq l,xl i:=by
 cases l with
 |nil=>intro i hi;cases hi
 |cons e r=>
  intro i hi;rcases bu.mp hi with rfl|hi
  ·exact .bo
  ·obtain⟨y,_,g⟩:=zi.mp hi;rcases bu.mp g with rfl|g
   ·exact⟨.fw⟩
   ·cases cX.mp g;exact .bo
theorem Rk{x:VV}(h: .mM x∨∃a b,x= .cG):∀i∈gP x,xl i:=by
 rcases h with h|⟨a,b,rfl⟩
 ·rw[(A_ h).1];intro i hi;rcases gV.mp hi with hi|hi
  ·rcases gV.mp hi with hi|hi
   ·cases cX.mp hi;exact⟨.fw⟩
   ·exact G_ _ i hi
  ·cases cX.mp hi;exact⟨.fw⟩
 ·intro i hi;rw[10,gP .cG,[.t [40],.v a,.iW,.v b,.t [41]],rfl];rw[e]at hi;simp only[bu,vH,xw]at hi;rcases hi with rfl|rfl|rfl|rfl|rfl
  ·exact⟨.fw⟩
  ·exact .bo
  ·exact⟨.fw⟩
  ·exact .bo
  ·exact⟨.fw⟩
theorem T1{F:Hp}{C:VC}{n:Nat}{x:VV}{v:L2.V}(d: .fX x v)(h: .mM x∨∃a b,x= .cG):texts (gP x)= .d5/\m8 x+eh (gP x)=pN x-1/\gQ (gP x)= .kp/\gd (gP x)<wt x/\hq (gP x)<=2+4*m8 x:=by
 rcases h with h|⟨a,b,rfl⟩
 ·have e:=bw.ofList d h;obtain⟨c,D⟩:=A_ h;obtain⟨h1,h2,h3,h4⟩:=TY (es:=x.list);rw[c,D];refine⟨.IO h1 e,.IO h2 e,.IO h3 e,Nat.lt_of_lt_of_eq h4 (by rw[<-e]),?_⟩;rw[wQ,wQ];rw[100,FR x.list,1+_+1<=_]
 ·obtain⟨h1,h2,h3,h4⟩:=TZ (a:=a) (b:=b);exact⟨.sm,by show 1+(2+(1+(2+(1+0))))<=2+4*2;decide⟩
theorem Ur(x:VV): .c (pb x)∨(.mM x∨∃a b,x= .cG):=by
 cases x with
 |num _ _=>exact .ao
 |truth _=>exact .ao
 |func _ _=>exact .ao
 |nil=>rw[8,.ao]
 |cons _ _=>rw[8,.ao]
 |pair a b=>rw[141,⟨a,b,Y⟩]
theorem Ng(n:Nat): .aY (Vaunia.decimal n):=by unfold Vaunia.decimal;intro h;exact Nat.toDigits_ne_nil (vG.mp h)
theorem Jb(z:Int): .aY (Vaunia.shownInt z):=by
 rw[288]
 ·intro h;cases h
 ·exact Ng _
theorem Us{x:VV}(h: .c (pb x))(L: .c .kp): .aY .d5/\(.d5).length<=1000000/\pN x=1/\wt x=1:=by
 cases x with
 |num q wt=>
  have j: .g1<10^1000/\ .an<10^1000:=by have h1: .c (.f5 .g1 (10^1000)&& .f5 .an (10^1000)):=L;rw[bU,cR,cR]at h1;exact h1
  have d1:=.wS 1000 j.1;have d2:=.wS 1000 j.2
  have U:(.Ar).length<=1001:=by
   rw[288]
   ·rw[84]
   ·omega
  refine⟨.ad,Y,Y⟩
  ·show .aY .tf;unfold Vaunia.shownQ;split
   ·exact Jb _
   ·intro h;exact Jb _ (List.append_eq_nil_iff.mp h).1
  ·show .K .tf _;unfold Vaunia.shownQ;split
   ·omega
   ·rw[98,bL,bp]
 |truth b=>cases b<;>exact⟨.fw,Y,Y⟩
 |func _ _=>exact⟨(by decide: .aY .xh),(by decide:(.xh).length<=1000000),Y,Y⟩
 |nil=>cases h
 |cons _ _=>cases h
 |pair _ _=>cases h
theorem NM{len pt:Nat}{s:Vaunih.Text}{r: .d4}: .uk pt (.t s::r)↔fits (.gm len s) pt r:=by unfold fits;show .xV len (s++ .ko)/\pt+(0+eh r)<=2000/\ .c (true&&gQ r)↔_;rw[bL,iG,jv,Nat.add_assoc]
theorem NN{len pt k:Nat}{x:VV}{o r: .d4}(h1:texts o= .d5)(h2:k+eh o=pN x-1)(h3:gQ o= .kp): .uk pt (.v x::r)↔ .uk (pt+k) (o++r):=by unfold fits;rw[u5,qZ,xP,h1,h3];show .xV len (.d5++ .ko)/\pt+((pN x-1)+eh r)<=2000/\ .c (.kp&&gQ r)↔_;rw[<-h2,.xm (pt+(k+eh o+eh r)) (pt+k+(eh o+eh r))]
theorem NL{len pt:Nat}{x:VV}{r: .d4}(h1: .c .kp)(h2:pN x=1): .uk pt (.v x::r)↔fits (.gm len .d5) pt r:=by unfold fits;show .xV len (.d5++ .ko)/\pt+((pN x-1)+eh r)<=2000/\ .c (.kp&&gQ r)↔_;rw[h1,h2,bL,lT,iG,jv,Nat.add_assoc]
theorem bw.Q1{T: .b}{F:Hp}{n:Nat}{x:VV}{v:L2.V}(h: .jN F x): .zW (v= .B) (F a= .hY fs/\eL K C/\nL K C):=by
 cases x with
 |num q wt=>obtain⟨a,t,d,rfl,⟨G,h⟩,_⟩:=h;exact⟨a,_,.bF,h,.wD,T.G6⟩
 |truth b=>obtain⟨a,G,rfl,h⟩:=h;exact⟨a,_,.bF,h,.EK,T.G8⟩
 |nil=>obtain⟨a,G,rfl,h⟩:=h;exact⟨a,_,.bF,h,.Ej,T.AS⟩
 |cons y l=>obtain⟨_,a,G,f,o,rfl,h,_⟩:=h;exact⟨a,_,.bF,h,.Ej,T.AS⟩
 |pair y z=>obtain⟨a,G,f,g,rfl,h,_⟩:=h;exact⟨a,_,.bF,h,.EJ,T.G7⟩
 |func b k=>obtain⟨_,a,G,t,us,rfl,h,_⟩:=h;exact⟨a,_,.bF,h,.EG,T.G5⟩
theorem T2{x:VV}: .B0 (kindS x) [.FY,.str "pair"]= ! pb x:=by cases x<;>kernel_rfl
end
section
open Vaunih (txt shownValue shownValues shortNumbers)
def jH(len pt:Nat)(xs: .af):Prop:=pt+dD xs<=2000/\ .xV len .IN/\ .gO xs .Ec
theorem Ex{len pt:Nat}{xs: .af}:jH len pt xs↔ .uk (pt+ .r) (gq xs):=by
 unfold jH fits;rw[Ae,EM];have:=Ad xs;constructor
 ·rintro⟨h1,h2,h3⟩;exact⟨h2,by omega,h3⟩
 ·rintro⟨h1,h2,h3⟩;exact⟨by omega,h1,h3⟩
def Xm(T: .b):Sp:=λvs H Q E=>∃(a c pl:Addr) (ps: .bI) (pt n:Nat) (xs: .af) (us: .N) (F:Hp),vs=[.B,.bQ]/\ .oX H/\ .dh H/\F c=none/\F pl=none/\(H a= .fY∨H a= .jS)/\a≠pl/\ .nX F n xs/\(jH .eJ pt xs->∀H' A,.rT c->fJ T H' c pl A (pt+dD xs)->A.flatten=ps.flatten++ .IN-> .bN)/\(¬jH .eJ pt xs->vn T c pl H E)
theorem MW{H:Hp}{a:Addr}{us: .N}{Q:VK}{E:XK}(h:H a= .fY∨H a= .jS)(R: .a8<=2000)(k: .ij (H l=none-> .c2= .yZ us-> .dI)):Jr .cW H Q E:=.ts h (.inl ⟨a,us,Y,z,R,k⟩) (.C9 ⟨a,us,Y,z,R,k⟩)
theorem rev_last{α:Type}{x:α}{l: .av}:(x::l).reverse[(x::l).reverse.length-1]? = .aa/\(x::l).reverse.dropLast=l.reverse:=by
 rw[177,kW]
 ·rw[bL];show(.wu l [x])[l.reverse.length+1-1]? =_;rw[zl,ze .y,lT];rfl
 ·exact List.dropLast_concat
theorem A8(T: .b)(u:base.NoSeer)(I: .aj=none)(hD:base.NoDigits): .J P w K .x 42 T.oD.f T.oD.fd ["values","telling"] (Xm T):=by
 refine T.oD.F.az ["values","telling","waiting","piece"] .f;obtain⟨a,c,pl,ps,pt,n,xs,us,F,rfl,ta,sF,n1,n2,N,hapl,hvs,R,q2⟩:=h;obtain⟨dt,h1⟩:=ta.obj;rw[153,T];have d:=b_ hvs
 have hatg:a≠c:=by
  rcases N with N|N
  ·exact .al N h1
  ·exact .al N h1
 rw[6,⟨_,.eo (bb (c5 .e cl T.oP (AZ T) M.m W (ao .zO))) 2 nd (Bi Y rfl .A3 Y .EN (ao (.ce T.jK (HB T) M.m W 0))) (O (mZ ef (.x1 ic .p aq) (.en (Bd eY LD LF GQ .p) (.i3 (eJ (.wW ME "isinstance" (.im "isinstance" (.ps "isinstance")) (.lh 3 (T7 (v:=.ty "str") Y .Au (.im "str" .At) Y)))) (c5 .e cl T.oQ (A7 T) M.m W (.bz 3)) (.i3 (aU mS .ep (dE (bj bq bq)) Y) (.nh sy sA uE .p (Bi Y rfl .A3 Y .EN (ao (.pK T.tV (So T) M.m W 3 .e)))) (.bB (c5 .e cl T.oQ (A7 T) M.m W (ao (.ce T.tW (Su T u I hD) M W 3))))))))),?_⟩,⟨.fA,dt,.mY,lW .ao,_,Y,a,us,Y,.ts N (.pE z) (.C9 (aM.of z)),?_⟩,⟨c,pl,ps,pt,.a8,Y,ta,λhle m b1 ta1=> ?_,λhgt=>q2 λz=>hgt ?_⟩]
 case refine_2=>rw[23,(Ex.mp z).2.1]
 have ha1:m a= .fY∨m a= .jS:=N.imp (λz=>b1 _ _ z hatg hapl) (λz=>b1 _ _ z hatg hapl);have sF1:=fr_but sF n1 n2 b1;rw[0,⟨_,Y,MW ha1 (by omega) λX l2 s2 m2 y=>⟨l2,_,Y,ay.of y,λf hwl=> ?_⟩⟩,cJ hwl λV s3 k3=> ?_];have s13:ae m V:=s2.trans s3;have ta3:=ta1.same s13;have ta2:=ta1.same s2;have hwH:H f=none:=ta.old ta2 (.oW b1 s2) hwl;have hwtg:f≠c:=λz=>by subst z;rw[h1]at hwH;cases hwH
 have hwpl:f≠pl:=λz=>by subst z;rw[ta.lst]at hwH;cases hwH
 have hwF:F f=none:=by
  cases hz:F f with
  |none=>rfl
  |some o=>rw[sF _ _ hz]at hwH;cases hwH
 have eC:=Ex (len:=.eJ) (pt:=pt) (xs:=xs);have eP:=Ad xs;refine⟨λj σ H'=>∃(g: .d4) (us': .N) (A: .bI) (e:Nat) (S: .dH),j=gd g/\σ=[.I a,.I c,.I f,S]/\ .rT c/\fJ T H' c pl A e/\H' f= .a7 us'.reverse/\Paired (y3 T F n) g us'/\(jH .eJ pt xs↔fits .IM e g)/\A.flatten++texts g=ps.flatten++ .IN/\e+eh g=pt+dD xs/\hq g<=4*e/\∀i∈g,xl i,⟨_,gq xs,i9 us,ps,pt+ .a8,.ex,.oW b1 s13,ta3,k3,EL hvs,by rw[eC,d],by rw[Ae],.pr,G_ xs⟩,?_⟩
 ·rw[23,FR xs]
 rintro j σ H' ⟨g,us',A,e,S,rfl,rfl,b',ta',hw',hit,hfit,htx,hpt,hiw,aw⟩;have s:=b_ hit;have sF':=fr_but sF n1 n2 b';have hl8:=wR g;have hle':=ta'.least;obtain⟨dt',h1'⟩:=ta'.obj;refine⟨_,Y,f,.ti hw'⟩
 cases hit with
 |nil=>rw[18,?_];have B:jH .eJ pt xs:=hfit.mpr ⟨by have:=ta'.short;show _+0<=_;omega,.BO (e+0) _,Y⟩;have e1:e=pt+dD xs:=hpt;rw[e1]at ta';rw[117,R B H' A b' ta' ?_,htx,(cC _).symm]
 | @cons it v r us'' hv M=>
  rw[70,.F5 cR dy,?_];obtain⟨r1,r2⟩:=rev_last (x:=v) (l:=us'');have hokit:=aw it .aS;have hokr:∀i∈r,xl i:=λi hi=>aw i (.aH hi);have hiw':iw it+hq r<=4*e:=hiw;rw[0,⟨_,.q2⟩,⟨.ln ⟨.bP hw'⟩,f,.o,hw',r1,?_⟩];rw[9,r2,bc λq w4 k4=> ?_];have b4:cz c pl H q:=λx o h m1 m2=>w4 _ _ (b' x o h m1 m2) (.aN hwH);have sF4:=fr_but sF n1 n2 b4;have ta4:fJ T q c pl A e:=⟨⟨dt',w4 _ _ h1' hwtg.symm⟩,w4 _ _ ta'.lst hwpl.symm,ta'.bZ,ta'.short,ta'.least⟩;have h14:=w4 _ _ h1' hwtg.symm
  cases it with
  |t s0=>
   cases hv;rw[0,⟨_,Y,.cT,true,Y,gX.str _,.n7 ?_⟩,⟨.fA,dt',_,Y,h14,lW .xl,.fA,pl,A,e,s0,Y,ta4,hokit.1,by have:=hokit.2;omega,λhle k b5 ta5=> ?_,λhgt k b5=>.vr (hgt ?_) k (b4.trans b5)⟩]
   ·refine⟨gd r,.GZ _ (1+gd r),r,us'',A++[s0],e,.ex,b4.trans b5,ta5,b5 _ _ k4 hwtg hwpl,M,.tU,hokr⟩
    ·rw[hfit,NM,se,bL];simp
    ·rw[<-htx,se,d8];rw[96,_++((s0++[])++ .ko),_++(s0++ .ko)]
    ·rw[<-hpt];rw[37,_,e+(0+eh r),iG]
    ·rw[30,1+hq r<=4*e,hiw']
   ·have h2:=(.Dz).1;have D: .aA (texts (Itm.t s0::r)) (.EB s0 .ko):=by show .aA (s0++ .ko) _;rw[bL]
    rw[324,D]
  |v x=>
   have hvx: .jN F x:=hv;obtain⟨va,C,G,fs,ev,hva,vcl,ns⟩:=hvx.Q1;obtain⟨va',C',dx',fs',ev',hva',vcl',na',lk'⟩:=hvx.kind;subst ev;cases ev';rw[0,⟨_,Y,.cT,.a,Y,gX.ins (sF4 _ _ hva) vcl ns.h1 ns.h2 ns.h3 ns.h4,ns.h5,_,Y,.jM⟩,⟨_,Y,va,_,.yY,sF4 _ _ hva',vcl',na',lk',aY,λt5 ht5=> ?_⟩];generalize U:upd q t5 _=k;obtain⟨p,k5⟩:=bH U ht5;have b5:cz c pl H k:=.oW b4 p;have sF5:=sF4.trans p;have ta5:=ta4.same p;have hw5:=p _ _ k4;rw[44,⟨t5,.lv k5,Y,.aJ⟩];refine .mX (! pb x) T2 .a2
   ·have hsort: .mM x∨∃a b,x= .cG:=by
     rcases Ur x with h|h
     ·rw[22,h]
     ·exact h
    obtain⟨o1,o2,o3,o4,o5⟩:=T1 hvx hsort;have fv:=NN (len:=.IM) (pt:=e) (r:=r) o1 o2 o3;refine⟨.ln ⟨.bP hw5⟩,.j,_,c,pl,A,e,n,x,F,Y,ta5,sF5,n1,n2,hvx,hsort,λhle H6 l6 os b6 m6 hl6 ta6 hos=> ?_,λhgt H6 b6=>.vr (hgt ?_) H6 (b5.trans b6)⟩
    ·rw[0,⟨l6,os,Y,ay.of hl6,.Hq⟩,cJ hl7 .Hp];have hw6:H6 f= .a7 us''.reverse:=b6 _ _ hw5 hwtg hwpl;have hol:=b_ hos;have ho8:=wR (gP x);have hr8:=wR r;have hrl:=b_ M;have hiw2:2+hq r<=4*e:=hiw';refine⟨f,l7,.o,s7 _ _ hw6,k7,.ad⟩
     ·rw[113,dy,dy,br]
     refine bc λH8 w8 k8=> ?_;have b7:cz c pl H H7:=.b0 b5 b6 (ae.fu s7);have b8:cz c pl H H8:=λx o h m1 m2=>w8 _ _ (b7 x o h m1 m2) (.aN hwH);have ta7:=ta6.same s7;obtain⟨dt7,h17⟩:=ta7.obj;have ta8:fJ T H8 c pl A (e+m8 x):=⟨⟨dt7,w8 _ _ h17 hwtg.symm⟩,w8 _ _ ta7.lst hwpl.symm,ta7.bZ,ta7.short,ta7.least⟩;refine⟨gd (gP x++r),?_,gP x++r,os++us'',A,e+m8 x,.ex,b8,ta8,?_,ie hos M,.tU,?_⟩
     ·rw[yl];rw[12,_<wt x+gd r]
     ·rw[k8,List.reverse_append]
     ·rw[hfit,fv]
     ·rw[13,u5,o1,htx]
     ·rw[qZ,<-hpt];rw[12,_=e+((pN x-1)+eh r)]
     ·rw[28,wQ]
     ·intro i hi;rcases gV.mp hi with hi|hi
      ·exact Rk hsort i hi
      ·exact hokr i hi
    ·have h2:=(fv.mp .Dz).2.1;rw[324,qZ]
   ·have hpl: .c (pb x):=by cases hp:pb x with
     |true=>rfl
     |false=>rw[22,hp]
    refine⟨.fA,dt',_,Y,p _ _ h14,lW .xl,_,Y,_,x,n,Y,hvx.same sF5,hpl,λL=> ?_,λL=>q2 .a2 k b5⟩
    ·obtain⟨p1,p2,p3,p4⟩:=Us hpl L;have fp:=NL (len:=.IM) (pt:=e) (r:=r) L p3;refine⟨c,pl,A,e,.d5,Y,ta5,p1,p2,λhle H6 b6 ta6=> ?_,λhgt H6 b6=>.vr (hgt ?_) H6 (b5.trans b6)⟩
     ·refine⟨gd r,.GZ _ (wt x+gd r),r,us'',A++[.d5],e,.ex,b5.trans b6,ta6,b6 _ _ hw5 hwtg hwpl,M,.tU,hokr⟩
      ·rw[hfit,fp,se,bL];simp
      ·rw[<-htx,se,d8];rw[96,_++((.d5++[])++ .ko),_++(.d5++ .ko)]
      ·rw[<-hpt];rw[12,_=e+((pN x-1)+eh r)]
      ·rw[30,2+hq r<=4*e,hiw']
     ·have h2:=(fp.mp .Dz).1;omega
    ·have h2:=.bA .Dz;have h3: .c (.kp&&gQ r):=h2;rw[L]at h3;cases h3
end
section
open Vaunih (txt shownValue shownValues shortNumbers tellable)
theorem fW{F H:Hp}{x:Addr}(s: .dh H)(h:H x=none):F x=none:=by
 cases hz:F x with
 |none=>rfl
 |some o=>rw[3,s _ _ hz]
def Xf(T: .b):Sp:=λvs H Q E=>∃(v:L2.V) (x:VV) (n:Nat) (F:Hp),vs=[v]/\ .dh H/\ .jN F x/\(.iV [x]/\ .vs .d5->∀H',.R-> .te .d5 H')/\(¬(.iV [x]/\ .vs .d5)->∀H',.R-> .wY T H')
theorem JV{x:VV}:jH 0 0 [x]↔ .iV [x]/\ .vs .d5:=by
 rw[JU];unfold jH;rw[10,shownValues [x],.d5,cC _];rw[173,e,iG,iG]
 ·rintro⟨a,b,c⟩;exact⟨⟨a,c⟩,b⟩
 ·rintro⟨⟨a,c⟩,b⟩;exact⟨a,b,c⟩
theorem S3(T: .b)(u:base.NoSeer)(I: .aj=none)(m:base.NoDigits): .J P w K .x 43 T.ud.f T.ud.fd ["value"] (Xf T):=by
 refine T.ud.F.az ["value","telling"] .f;obtain⟨v,x,n,F,rfl,sF,D,R,L⟩:=h;rw[153,T];rw[0,⟨.eX (uR T.telling.iS (Hi T) M.m Y T.telling.g T.telling.F.b .nil .bn) (.bC (bb (.eU T.oD (A8 T u I m) (bF (.bz 0)) .e)) (.gT cl T.qR (HA T)))⟩,λc k d p neg=> ?_];rw[245,.jt k c c .Dy k,mH d p,⟨c,k,Y,aB,λX pl b2 s l=>⟨Y,?_⟩⟩];have s2: .jP:=λb o h=>b2 b o (U b o h) (.aN d);have N:H pl=none:=fW U s;refine⟨_,Y,aY,λj f=> ?_⟩;generalize r:upd X j _=H3;obtain⟨C,V⟩:=bH r f;have g:=.q3 s2;have S:=.pH l;have t:j≠pl:=.IL z l.lst
 rw[164,∀q,cz c pl H3 q-> .aB q,λq a b o h=>a b o (g b o h) (.aN d) (.aN N),⟨_,Y,j,c,pl,[],0,n,[x],_,F,Y,S,sF.trans g,fW sF d,fW sF N,.inl V,t,.dE D,λB q A a i y=> ?_,λB q a=>L (λz=>B (JV.mpr z)) q (fin q a)⟩];obtain⟨G,h4⟩:=i.obj;refine⟨.fA,.bF,h4,lW (.tx Y),c,pl,A,_,Y,i,?_⟩;rw[128,A.flatten,.d5,y.trans (cC _),e,R (JV.mp B) q (fin q a)]
def qO(ws ls: .af):ax:=.kA++ .CJ
def We(T: .b)(L: .g):Sp:=λvs H Q E=>∃(v:L2.V) (n b i d:Nat) (ls ws: .af),vs=[v]/\rP T .ba n (.pL i) v/\(.iV (ws++ls)/\ .vs (qO ws ls)->∀H',.R-> .te (qO ws ls) H')/\(¬(.iV (ws++ls)/\ .vs (qO ws ls))->∀H',.R-> .wY T H')
theorem Md{α:Type}{f: .c1 α}(l: .av):l.reverse.all f=l.all f:=List.all_reverse
theorem yb{ws ls: .af}:(jH 0 0 .nv/\ .aG .kA<=8000/\jH (.aG .kA) (dD .nv) ls)↔ .iV (ws++ls)/\ .vs (qO ws ls):=by
 rw[JU];unfold jH qO;rw[bL,bp,HL,T4,List.all_append,Md,bU];constructor
 ·rintro⟨⟨a,b,c⟩,d,e,f,g⟩;exact⟨⟨e,c,g⟩,by omega⟩
 ·rintro⟨⟨a,b,c⟩,d⟩;exact⟨⟨.ga,b⟩,.ga,by omega,c⟩
theorem Mp:("|":Str)=bR [124]:=by decide+kernel
theorem RP(T: .b)(L: .g)(hN:base.NoSeer)(I: .aj=none)(m:base.NoDigits): .J P w K .x 43 T.tJ.f T.tJ.fd ["frame"] (We T L):=by
 refine T.tJ.F.az ["frame","telling"] .f;obtain⟨v,n,b,i,d,ls,ws,rfl,⟨rest,hfr⟩,R,q2⟩:=h;rw[153,T];have t:=.f3;obtain⟨_,f,G,ro,pla,u,rs,ps,rfl,N,hro,hrs,hpla,hps,_⟩:=hfr;have sF:ae .ba H:=aV;have gf:=sF _ _ N;rw[0,⟨.eX (uR T.telling.iS (Hi T) M.m Y T.telling.g T.telling.F.b .nil .bn) (Z (bb (.eU T.oD (A8 T hN I m) .i .e)) (.hU (bb (c5 .e cl T.oQ (A7 T) M.m W (ao bq))) (bb (.eU T.oD (A8 T hN I m) .i .e)) (.gT cl T.qR (HA T))))⟩,λc dg ntg ndg neg=> ?_];rw[245,.jt dg c c .Dy dg,mH ntg ndg,⟨c,dg,Y,aB,λX pl b2 npl l=>⟨Y,?_⟩⟩];have s2: .jP:=λb o h=>b2 b o (U b o h) (.aN ntg);have F:H pl=none:=fW U npl;have n1:=fW sF ntg;have j:=fW sF F;have gro:=sF _ _ hro;have gpla:=sF _ _ hpla;have rpl:ro≠pl:=aN gro F;have ppl:pla≠pl:=aN gpla F;rw[164,∀q,cz c pl X q-> .aB q,λq a b o h=>a b o (s2 b o h) (.aN ntg) (.aN F),⟨_,Y,f,_,G,_,_,Y,s2 _ _ gf,t,.sI T,pK,_,Y,ro,c,pl,[],0,n,.nv,rs,.ba,Y,l,sF.trans s2,n1,j,.inr (s2 _ _ gro),rpl,hrs,λB V D s S eps3=> ?_,λB V s=>.vr (B (yb.mpr z).1) V (fin V s)⟩];have el3: .IK D (.kA).length:=by rw[eps3];rfl
 obtain⟨dt3,h3⟩:=S.obj;rw[iG]at S;have C:=fin V s;refine⟨.fA,dt3,_,Y,h3,lW .xl,c,pl,D,_,[124],.yW c .yX Mp,S,.fw,λr q a ta4=> ?_,λy q a=>.vr (y ?_) q (fin q (.wk a))⟩
 case refine_2=>have:=(yb.mpr z).2.1;rw[1,el3,this]
 have A:=fin q (.wk a);have el4: .IK (D++[[124]]) (.aG .kA):=by rw[se,bL,el3];rfl
 refine⟨_,Y,f,_,G,.h,A _ _ gf,t,.gD,_,Y,pla,c,pl,D++[[124]],dD .nv,n,ls,ps,.ba,Y,ta4,sF.trans A,n1,j,.inr (A _ _ gpla),ppl,hps,λg k ps5 p x eps5=> ?_,λg k p=>.vr (g ?_) k (fin k (.b0 s a p))⟩
 case refine_2=>rw[1,el4,.bA (yb.mpr z)]
 obtain⟨dt5,h5⟩:=x.obj;refine⟨.fA,dt5,_,Y,h5,lW (.tx Y),c,pl,ps5,.fb,?_⟩;rw[65,ps5.flatten=qO ws ls,by rw[eps5,se,eps3];show([]++ .kA)++([124]++[])++shownValues ls= .kA++ .CJ;rw[jC,cC,d8];rfl];rw[el4]at g;have hle': .aG .kA<=8000:=by rw[<-el3];exact r
 exact R (yb.mp ⟨B,hle',g⟩) k (fin k (.b0 s a p))
end
section
open Vaunih (Instr take txt Block)
def V2(T: .b):Sp:=λvs H Q E=>∃t:ax,vs=[.eu]/\ .gM/\(match Vaunih.readCode t with
 | .error p=>.wR .R (zP T p cls G H'->E cls G H')
 | .ok c=>∀H' bl L,.R->(∀a∈L,H a=none/\H' a≠none)-> .fJ (aD L H') (.ref bl)-> .eW bl)
theorem Mt{T: .b}{F:Hp}{done: .nY}{vs: .N}(h:Paired (nA T F) done vs): .Fo (v= .B):=by
 induction h with
 |nil=>intro v D;cases D
 |cons h t j=>
  intro v D;rcases bu.mp D with rfl|D
  ·obtain⟨a,_,_,_,e,_⟩:=h;exact⟨a,e⟩
  ·exact j v D
theorem YY(T: .b){n:Nat}{E:XK}{H:Hp}(h: .wR .R (zP T n cls G H'->E cls G H')): .aT (.mW [L2.V.int n])/\∀x,H x=none->BO K (.a4::[.br]) (upd H x (xo x (.wQ T) none true)) (λv X=>v= .au/\∃G,X x=some (xo x (.wQ T) G true)/\E (.ref T.c_.c) G (del X x)) XF:=by
 refine⟨aY,λy g=>⟨y,T.c_.c,true,n,Y,aB,T.c_.fe.cls,T.c_.at_,λG hd f=>⟨Y,.nS,.ad⟩⟩⟩
 ·rw[aC f.symm,aB]
 ·rw[aC f]at hd;refine h _ _ _ (λb o e=> ?_) ⟨Y,G,Y,by rw[hJ f,aB]⟩;rw[97,aN e g,aN e hd];rw[hJ h1,aC h2,aC h1,aC h1];exact e
theorem Uy{a b: .nY}{x: .l8 .nY}:(.nl x (b++c)).map (λc=>a++c)= .nl x ((a++b)++c):=by
 cases x with
 |error q=>rfl
 |ok y=>rw[37,.tp a (b++y),.tp (a++b) y,d8]
theorem GG{L: .g}{bl:Addr}{vs: .N}(h:bl∉L):(dm (.lst vs)||(oM (.lst vs)&& .g0 bl L))= .a:=by rw[aW h];rfl
theorem Sw(T: .b)(u:base.NoSeer)(I: .aj=none): .J P w K .x 44 T.tX.f T.tX.fd ["text"] (V2 T):=by
 refine T.tX.F.az ["text","tokens","blocks"] .f;obtain⟨t,rfl,R,g⟩:=h;refine⟨_,.eo (.wC ic .AE "MOST_BYTES_reading" 6000 (Bp W Y T.c_.fe (AW T) M.m Y T.c_.g T.c_.F.b fL (ao .AE))) 1 nd (.qt T.tokens.iS (Rr T) Y T.tokens.g T.tokens.F.b (.bz 0)) (.aC 2 nd (.hV (.qs T.qC (Hy T u I) aq)) (.wH ef (.nC (.gT .eN T.oR (AX T))) (.ql iJ iK ib .p (.qs T.qC (Hy T u I) (T.cA .p))) .p)),?_⟩;have l:=IJ t;generalize Vaunih.readCode t=whole at g l;rw[7,⟨.t6,.eP⟩,cT];by_cases hlong:6000< .C
 ·rw[af hlong]at l;rw[l]at g;rw[15,.fM .jY ⟨.t6,?_⟩,cT,YY T g]
 rw[aa hlong]at l;rw[0,.A8 .g2 ?_,⟨_,Y,λtk dtk ntk ndtk nne=>⟨tk,dtk,t,Y,aB,R,λm b1 ta1=>⟨Y,?_⟩⟩⟩];have sOf:∀{X:Hp},SameBut tk (.jt dtk tk tk .Ai dtk) X-> .jP:=λ{X} b b' o e=>by have A:=aN e ntk;exact b _ _ (by rw[aC A,.jm e ndtk];exact e) A
 have U:=sOf b1;have sBut:∀{X:Hp},SameBut tk m X-> .jP:=λ{X} b b' o e=>b _ _ (U _ _ e) (aN e ntk);have flies:∀{q:Nat} {X:Hp},.jP->(.fD (X b) True)->whole= .dq->gj T tk q X E:=λ{q X} B _ e=>by rw[e]at g;intro cls G H' b' k;exact g cls G H' (λb o h=>b' _ _ (B _ _ h) (.aN ntk)) k
 rw[48,⟨_,Y,tk,t,.di,0,Y,ta1,.ab,?_⟩,iL T tk t m (fK .C true 60 (.AT [] t)) _ _ _]
 cases F:fK t.length true 60 (Vaunih.tokensFrom 0 [] t)with
 |error q=>rw[F]at l;exact flies U (λ_ _ _=>.bo) l
 |ok y=>
 obtain⟨b0,v0⟩:=y;rw[F]at l;rw[158,.aY .di,(by rw[show .AT [] t=[]from z]at F;cases F)]
 rintro X u2 b2 ta2 ⟨li,hli1,hli2,hb2⟩;rw[0,⟨aY,λbl hbl=> ?_⟩,cJ hbl λV C D=> ?_];have B:=sBut b2;have s13:=.q3 B
 have hblH:H bl=none:=by
  rcases n:H bl with _|o
  ·rfl
  ·rw[B _ _ n]at hbl;cases hbl
 have non1:∀{a:Addr} {H':Hp},.R->H' a=none->H a=none:=λ{a H'} s h=>by
  rcases n:H a with _|o
  ·rfl
  ·rw[3,s _ _ n]
 have nlb:li≠bl:=λz=>hli2 (.tq hbl);refine⟨λj σ H'=>∃(ts:cQ) (done: .nY) (vs: .N) (L: .g),j= .lO/\σ=[.nP t,.I tk,.I bl]/\ .R/\ .hE H'/\H' bl= .a7 vs/\Paired (nA T (aD L H')) done vs/\1<= .g3/\ .g3<=60/\(∀a∈L,H a=none/\H' a≠none)/\bl∉L/\whole= .nl (kh .C (60- .g3) ts) (done++c),⟨_,v0,[b0],[u2],[li],Y,Y,s13,ta2.same C,D,.dE (hb2.same C.kp),.y,by show 1<=60;decide,.xi,λz=>nlb (cX.mp z).symm,l⟩,?_⟩
 ·cases cX.mp N;refine⟨non1 U hli1,.a2⟩;rcases n:X li with _|o
  ·exact hli2 n
  ·rw[22,C _ _ n]
 rintro j σ H5 ⟨ts,done,vs,L,rfl,rfl,p,x,hl5,hp5,hd1,hd2,hL,hbL,ew⟩;obtain⟨dx5,fs5,q1,q2,q3,q4⟩:=x.ins;have hvl:=b_ hp5;refine⟨.dW,dx5,fs5,Y,q1,q2,.qd,Y,x,.ac⟩
 cases ts with
 |nil=>
  have ew':whole= .ok done:=.Fg ew (.tp done []) _ cC
  rw[ew']at g;rw[18,⟨_,Y,g H5 bl (bl::L) p .xi ⟨bl,vs,Y,Fb hl5 .aS,.g4 hp5 (z.same (ui λa N=>.aH N)),hd2,hd1⟩⟩];rcases bu.mp N with rfl|N
  ·exact⟨hblH,by rw[hl5];exact nofun⟩
  ·exact hL a N
 |cons z r5=>
  rw[0,aR ⟨_,.q2⟩,⟨.ln ⟨.bP hl5⟩,.j,bl,.dB hl5,tk,t,z::r5,.qr,Y,x,.pr⟩];rw[.xj (¬ .qr=0),<-hvl]
  cases S:fK t.length false (60-done.length) (z::r5)with
  |error q=>rw[Ek _ _ S]at ew;exact flies p (λ_ _ _=>.bo) ew
  |ok y=>
   obtain⟨b,v⟩:=y;rw[Em _ _ S,.zl (λc:List Block=>b::c) (λc=>[b]++c),Uy]at ew;have d:=sZ S
   have hd3: .g3<60:=by
    rcases Nat.lt_or_ge done.length 60 with h|h
    ·exact h
    ·rw[show 60- .g3=0 by omega]at S;unfold fK at S;dsimp only at S;rw[212,af (.inr Y)]
   rintro r u6 b6 ta6 ⟨li6,g1,g2,hb6⟩;have nbt:=.al hl5 q1;have hl6:=b6 _ _ hl5 nbt;rw[63,⟨bl,vs,u6,Y,Y,hl6,.nI⟩,.Fn];have nl6:li6≠bl:=λz=>by rw[z,hl5]at g1;cases g1
   have hbL':bl∉li6::L:=λz=>by
    rcases bu.mp z with z|z
    ·exact nl6 .c5
    ·exact hbL z
   have kp6:Kp L H5 r:=x.kp b6;have kp7:=w7.kp hl6 (GG hbL');have up:ae (aD L r) (aD (li6::L) r):=ui λa N=>.aH N;have s7: .aB H7:=λb o h=>w7 _ _ (b6 _ _ (p _ _ h) (.aN ntk)) (.aN hblH);refine⟨v.length,d,v,done++[b],vs++[u6],li6::L,Y,Y,s7,ta6.wr f hl6 (Mt hp5) w7 nbt,k7,.nD (.g4 hp5 (((z.same kp6).same up).same kp7)) ((hb6.same (ui λa N=>.lJ (cX.mp N))).same kp7),by rw[bL];omega,.wJ (.g3+1<=60),.xi,hbL',?_⟩
   ·rcases bu.mp N with rfl|N
    ·refine⟨non1 p g1,λzz=> ?_⟩;rcases n:r a with _|o
     ·exact g2 n
     ·rw[289,w7 _ _ n nl6]
    ·obtain⟨ha1,ha2⟩:=hL a N;refine⟨ha1,λzz=> ?_⟩;have nab:a≠bl:=λe=>hbL (e▸N);rcases n:H5 a with _|o
     ·exact ha2 n
     ·by_cases nat:a=tk
      ·subst nat;obtain⟨_,_,i,_⟩:=ta6.ins;rw[289,w7 _ _ i nab]
      ·rw[289,w7 _ _ (b6 _ _ n nat) nab]
   ·rw[1,bL,ew]
end
end FC
namespace FC
open PySem
def jb(m:UInt8)(t:T8):T8:=.GF t (.s9 c m [32,m,32] [c])
def expand(t:T8):T8:=.GF t (.aq (d5 c) [32,c,32] [c])
theorem Nz(t:T8):jb 44 (jb 41 (jb 40 (jb 93 (jb 91 t))))= .ug:=by
 unfold jb expand;rw[zb,zb,zb,zb];congr 1;funext c;by_cases h1:c=91
 ·subst h1;decide
 by_cases h2:c=93
 ·subst h2;decide
 by_cases h3:c=40
 ·subst h3;decide
 by_cases h4:c=41
 ·subst h4;decide
 by_cases h5:c=44
 ·subst h5;decide
 have j:d5 c= .a:=by unfold d5;simp[h1,h2,h3,h4,h5]
 rw[j];simp[h1,h2,h3,h4,h5]
theorem JB{c:UInt8}:∀{w:T8},c∉w-> .c4 w=[w]
 |[],_=>rfl
 |d::r,h=>by
  rw[163,d≠c,λz=>h (.lJ z),JB (c:=c) (w:=r) (.BM z)]
  unfold splitBy
  rw[aa h1,h2]
theorem xV{c:UInt8}:∀{w r:T8},c∉w-> .c4 (w++c::r)=w:: .c4 r
 |[],r,_=>by show .c4 (c::r)=_;conv=>lhs;unfold splitBy;rw[af rfl]
 |d::w,r,h=>by
  rw[163,d≠c,λz=>h (.lJ z),xV (c:=c) (w:=w) (r:=r) (.BM z)]
  show .c4 (d::(w++c::r))=_
  conv=>lhs;unfold splitBy;rw[aa h1,h2]
theorem Bl:∀(t w:T8),32∉w-> .u6 32 (w++ .ug) (.zs x)=bV w t
 |[],w,h=>by
  rw[29,.u6 32 (w++[]) _= .cF,cC,JB h]
  unfold ee
  cases w<;>rfl
 |c::r,w,h=>by
  have ex:expand (c::r)=(.aq (d5 c) [32,c,32] [c])++expand r:=rfl
  have V:∀l: .uf,.Ag (w::l) x= .cF++ .Ag l x:=λl=>by
   unfold ee
   cases w<;>rfl
  have j:=Bl r [] (by simp)
  rw[jC]at j
  rw[ex]
  show _= .kn c (.cF++ .iU) (.aq (d5 c) (.cF++[c]:: .iU) (bV (w++[c]) r))
  by_cases h1:c=32
  ·subst h1
   rw[af Y,.n]
   show .u6 32 (w++32::expand r) _=_
   rw[xV h,V,j]
  ·rw[aa h1]
   by_cases h2: .ue c
   ·rw[af h2,af h2]
    show .u6 32 (w++32::([c]++32::expand r)) _=_
    rw[xV h,V,xV (by simpa usingλz=>h1 .c5),<-j]
    rfl
   ·rw[aa h2,aa h2,<-d8]
    exact Bl r (w++[c]) (by simpa using ⟨h,λz=>h1 .c5⟩)
theorem FW{m:UInt8}{f:UInt8->Nat}{s: .cY}:∀u:T8,iQ s (.nN m u λp=>.lU p)= .GF u (.s9 c m s [f c])
 |[]=>rfl
 |d::r=>by
  have j:=FW (m:=m) (f:=f) (s:=s) r
  have b: .aY (.BU r):=by
   cases r with
   |nil=>intro z;cases z
   |cons a r=>
    unfold splitBy
    split
    ·intro z;cases z
    ·split<;>(intro z;cases z)
  rw[fS,<-j]
  rw[52,d,m]
  ·rw[af h]
   rw[65,.BU (d::r)=[]:: .BU r,by conv=>lhs;unfold splitBy;rw[af h]]
   cases L:splitBy m r with
   |nil=>rw[5,L,b]
   |cons p ps=>rfl
  ·rw[.dP]
   cases L:splitBy m r with
   |nil=>rw[5,L,b]
   |cons p ps=>
    rw[65,.BU (d::r)=(d::p)::ps,by conv=>lhs;unfold splitBy;rw[aa h,L]]
    cases ps with
    |nil=>rfl
    |cons q g=>rfl
theorem Vj{m:UInt8}(G: .fG m= .hG)(a: .BT){z:Str}(hz: .iw z [32,.hG,32])(u:T8):Txt.replace (stx u) (.gy .hG) z=stx (jb m u):=by
 rw[StrLaws.replace_one,BR G a];apply kM;have D:=join_list z (.nN m u stx);have F:Txt.join z (.nN m u stx)=Str.join z (.nN m u stx):=DW _ _;rw[F]at D;rw[D,fo,hz,kN];have h2:=FW (m:=m) (f:=λc=>.e3) (s:=[32,.hG,32]) u;refine h2.trans ?_;unfold eH jb;rw[List.map_flatMap];congr 1;funext c;rw[52,c,m]
 ·rw[af h,af h];rw[46,_=[sgn 32,.fG m,sgn 32],G]
 ·rw[24,.dP,.dP]
end FC
namespace FC
open PySem PySem.Spec PyProof.Rows L2
variable{P:Program}{w:World}{K:ag}{mg: .d}{base:Heap}
def jA(ol q:L2.V): .lG:=aO "wanting" q (aO "opened" ol [])
def qg(mk c:L2.V): .lG:=aO "inside" c (aO "mark" mk [])
section
variable{a b v:L2.V}
theorem rV: .O (jA a b) ("opened":Str) a:=by kernel_rfl
theorem vu: .O (jA a b) ("wanting":Str) b:=by kernel_rfl
theorem eA{m:Str}(h:m∈(["must","innermost","take_bracket","take_value","take_comma","take_end","take_list_end","take_pair_end","take_word","take"]: .H)): .cy (jA a b) m:=by simp only[bu,vH,xw]at h;rcases h with rfl|rfl|rfl|rfl|rfl|rfl|rfl|rfl|rfl|rfl<;>kernel_rfl
theorem IC:aO "wanting" v (jA a b)=jA a v:=by kernel_rfl
theorem yU:(jA a b).length=2:=by kernel_rfl
theorem Dx: .O (qg a b) ("mark":Str) a:=by kernel_rfl
theorem zB: .O (qg a b) ("inside":Str) b:=by kernel_rfl
theorem OF{C G:Addr}: .nm C G (jA a b)= .a:=by kernel_rfl
end
def jh(m:UInt8):Str:=if m=0 then "" else(.gy .hG)
def vl(T: .b)(H:Hp)(n:Nat)(x:Ent)(e: .rW):Prop:=∃l us,H e.1= .bX .vw l (qg (.DH x.1) (.ref e.2))/\H e.2= .fY/\ .nX (aD [] H) n x.2
structure cI(T: .b)(F H:Hp)(n:Nat)(ip ol:Addr)(es: .e8)(s:IS)(k:Nat):Prop where
 obj:∃di,H ip= .bX T.cy.c di (jA (.ref ol) (.bl .ox))
 lst:H ol= .a7 (.vv es e.1)
 ents:Paired (vl T H n) s.cH es
 mO:(es.map λe=>e.2).Nodup
 lA:ol∉es.map λe=>e.2
 f1:F ip=none
 f2:F ol=none
 f3:∀e∈es,F e.2=none
 sF: .dh H
 bZ:∀x∈s.cH,.K x.2 k
 deep:s.cH.length<=41
 most:k<=20000
theorem cI.same{T: .b}{F H H':Hp}{n:Nat}{j ol:Addr}{es: .e8}{s:IS}{k:Nat}(h: .kP)(t: .R):cI T F H' n j ol es s k:=⟨.HD h (t _ _ z),t _ _ .eD,Paired.gr h.ents λ_ _ ⟨l,us,a,b,c⟩=>⟨l,us,t _ _ a,t _ _ b,c.same t.kp⟩,.z1,.DI,h.sF.trans t,h.bZ,h.deep,h.most⟩
def CG(T: .b)(F:Hp)(E:XK):Prop:=∀H',.f2 F-> .sA T.jS.c H'
def Wz(T: .b):Sp:=λvs H Q E=>∃(v:L2.V) (b:Bool),vs=[v,.ev]/\(.fj-> .ea H)/\(b= .a-> .sA T.jS.c H)
theorem qY(T: .b): .pk P w K T.ko.f T.ko.fd ["self","right"] (Wz T):=by
 refine T.ko.F.az ["self","right"] .f;obtain⟨v,b,rfl,R,L⟩:=h;rw[0,⟨_,O (.cP (.nC .e) (rg W Y T.jS.x Y T.jS.g)),?_⟩,⟨.j,?_⟩]
 cases b with
 |true=>rw[4,R Y]
 |false=>exact aR (L Y)
def Wo(T: .b):Sp:=λvs H Q _=>∃(F:Hp) (n:Nat) (j ol:Addr) (e: .rW) (es: .e8) (s:IS) (k:Nat),vs=(.c3 j)/\cI T F H n j ol (e::es) s k/\ .bV e.1 H
theorem Qc{e: .rW}{es: .e8}:(.vv (e::es) e.1)[es.length]? = .I e.1:=by rw[d9,kW,ze (by rw[dy,bh];exact .y),dy,bh,lT];rfl
theorem Hv(T: .b): .t9 T.qP.f T.qP.fd (Wo T):=by
 refine T.qP.F.az ["self"] .f;obtain⟨F,n,j,ol,e,es,s,k,rfl,t,q⟩:=h;rw[119];have no:=.DG T;rw[0,⟨.ax (.nk (aL fN .i7 aq))⟩,⟨.rV,no,rV,.rV,no,rV,ol,.dB t.lst,.o,ol,_,.pC t.lst,?_,q⟩];have c:(.cr (.vv (e::es) e.1))-1=(.EY es):=.F5 dy bh
 rw[1,c,bG Qc]
def WG(T: .b):Sp:=λvs H Q _=>∃(p dp:Addr) (mk:L2.V),vs=[.aK,mk]/\H p= .oZ .vw []/\∀H' c,.cj p->H c=none->H' p= .oZ .vw (qg mk .bQ)->H' c= .a7 []-> .bN
theorem Hf(T: .b): .cb T.opened.f T.opened.fd ["self","mark"] (WG T):=by
 refine T.opened.F.az ["self","mark"] .f;obtain⟨p,dp,mk,rfl,hp,q⟩:=h;have cl:=.IZ;rw[20,⟨_,.wK .e .ib,?_⟩,⟨.ek,_,dp,_,Y,hp,cl,T.opened.n "mark",.wG⟩,bc λm w1 l=> ?_,⟨.ab,λc s=> ?_⟩];generalize U:upd m c _=H2;rw[339,bH U s,⟨.kO,B _ _ l,cl,.IY T,.lf⟩,bc λV G N=> ?_];rw[201,c≠p,(by rw[z,l]at s;cases s)]
 have u:H c=none:=by
  cases hz:H c with
  |none=>rfl
  |some o=>rw[w1 _ _ hz np]at s;cases s
 exact q V c ((w1.gC B).trans G) u N (G _ _ k np)
def Wq(T: .b)(n:Nat):Sp:=λvs H Q _=>∃(F:Hp) (p dp:Addr),vs= .iL/\H p= .oZ T.cy.c []/\ .dh H/\F p=none/\∀H' ol e,cI T F H' n p ol [e] ⟨[(0,[])],true⟩ 0-> .bN
theorem Ro(T: .b)(n:Nat): .et T.cy.f T.cy.fd ["self"] (Wq T n):=by
 refine T.cy.F.az ["self"] .f;obtain⟨F,p,dp,rfl,hp,sF,np,q⟩:=h;rw[133,T.cy.cl,⟨_,.wK (.hV (.qt T.opened.iS (Hf T) Y T.opened.g T.opened.F.b (ao bq))) iV,?_⟩,λo fV no I m=> ?_];rw[245,.jt fV o o .vw fV,mH no I,⟨o,fV,_,Y,aB,λX c b2 u d hil=>⟨Y,?_⟩⟩];have B: .jP:=λb x h=>b2 b x (U b x h) (.aN no);refine⟨aY,λol f=> ?_⟩;generalize r:upd X ol _=H3;rw[238,r,f];have N:=C _ _ (B _ _ hp);rw[20,⟨.kO,N,cl,.DG T,.wG⟩,bc λH4 L A=> ?_,⟨.kO,A,cl,.z3 T,.lf⟩,bc λk w5 p5=> ?_];have i:=L.trans w5;have t:=.q3 B;have op:o≠p:=λz=>by rw[z,hp]at no;cases no
 have G:c≠p:=λz=>by rw[z]at u;rw[U _ _ hp]at u;cases u
 have R:ol≠p:=.IL z (B _ _ hp)
 have l:ol≠c:=.IL z hil
 have S:∀{x:Addr},H x=none->F x=none:=λ{x} h=>by
  cases hz:F x with
  |none=>rfl
  |some y=>rw[3,sF _ _ hz]
 have V:∀{x:Addr} {j:Hp},.aB j->j x=none->H x=none:=λ{x j} s h=>by
  cases hz:H x with
  |none=>rfl
  |some y=>rw[3,s _ _ hz]
 refine q k ol (o,c) ⟨⟨dp,p5⟩,i _ _ D R,.dE ⟨fV,[],i _ _ (C _ _ d) op,i _ _ (C _ _ hil) G,.nil⟩,by simp,by simpa using l,np,S (V B f),.ad,?_,by show 1<=41;decide,by decide⟩
 ·intro e g;cases cX.mp g;exact S (V U u)
 ·intro b x h;have h1:=t _ _ (sF _ _ h);exact i _ _ h1 (.aN np)
 ·intro x W;cases cX.mp W;exact .y
theorem vl.fr{T: .b}{H H':Hp}{n:Nat}{x:Ent}{e: .rW}(h:vl T H n x e)(k:Kp [] H H')(h1:∀o,H e.1= .l->H' e.1= .l)(h2:∀o,H e.2= .l->H' e.2= .l):vl T H' n x e:=by obtain⟨l,us,a,b,c⟩:=h;exact⟨l,us,h1 _ a,h2 _ b,c.same k⟩
theorem HJ{a b c d:L2.V}{C g G dx':Addr}:HO.ins C G (qg a b)≠HO.ins g dx' (jA c d):=λz=>by
 injection z with _ _ z;have h:=dZ (λl=>l.lookup ("mark":Str)) z;have e: .cy (jA c d) ("mark":Str):=by kernel_rfl
 rw[Dx,e]at h;cases h
theorem Ij{α β:Type}{R: .nG}{xs: .av}{ys: .lA}(h: .pZ):∀y∈ys,∃x,x∈xs/\R x y:=by
 induction h with
 |nil=>intro y g;cases g
 |cons h t j=>
  rw[247]
  ·exact⟨_,.aS,h⟩
  ·obtain⟨x,a,b⟩:=j y g;exact⟨x,.aH a,b⟩
theorem Bn{α β:Type}{R S: .nG}{xs: .av}{ys: .lA}(h: .pZ)(f:∀x y,y∈ys->R x y->S x y):Paired S xs ys:=by
 induction h with
 |nil=>rw[71]
 |cons h t j=>rw[62,f _ _ .aS h,j λx y g=>f x y (.aH g)]
section
variable{T: .b}{F H H':Hp}{n:Nat}{ip ol:Addr}{es: .e8}{s:IS}{k:Nat}
theorem cI.wants(h:cI T F H n ip ol es s k){b:Bool}{A:Addr}(t: .cj ip)(h':H' ip= .bX T.cy.c A (jA (.ref ol) .ev)):cI T F H' n ip ol es ⟨s.cH,b⟩ k:=by obtain⟨d0,f⟩:=h.obj;rw[109,[],H',.Hw f OF,⟨⟨A,h'⟩,t _ _ .eD (.al .eD f),Paired.gr h.ents λx e g=> ?_,.z1,.DI,λb o S=>t _ _ (h.sF _ _ S) (aN S h.f1),h.bZ,h.deep,h.most⟩];obtain⟨l,us,a,b,c⟩:=id g;exact g.fr kp (.hJ (bx a f HJ)) (.DJ b f)
theorem cI.adds{e: .rW}{m:UInt8}{vs: .af}{r: .mg}{q:Bool}(h:cI T F H n ip ol (e::es) ⟨(m,vs)::r,q⟩ k){x:VV}{v:L2.V}{us: .N}(D: .jN (aD [] H) x)(C:H e.2= .fY)(t: .cj e.2)(h':H' e.2= .a7 (us++[v]))(G: .rU k):cI T F H' n ip ol (e::es) ⟨(m,vs++[x])::r,q⟩ (k+1):=by
 obtain⟨d0,E⟩:=h.obj;rw[43,[],H',t.kp C Y];have I:=h.mO;rw[d9,p_]at I;have f:=h.lA;rw[d9,bu]at f
 cases h.ents with
 |cons L M=>
  obtain⟨l,A,a,b,c⟩:=L;rw[C]at b;cases b;refine⟨⟨d0,t _ _ E (.al E C)⟩,t _ _ .eD (λz=>f (.inl z)),.cons ⟨l,_,t _ _ a (.al a C),h',.nD (.aZ c) (.aZ D)⟩ ?_,.z1,.DI,λb o S=>t _ _ (h.sF _ _ S) (aN S (h.f3 e .aS)),?_,h.deep,G⟩
  ·refine Bn M λy Q j p=> ?_;obtain⟨u,i,B,N,V⟩:=id p;rw[117,p.fr kp (.DJ B C) (.hJ (λz=>I.1 ?_)),z,C9 j]
  ·rw[247]
   ·have:=h.bZ (m,vs) .aS;rw[61,.K (vs++[x]) _,bL];have R: .K vs k:=this;rw[36,_+1]
   ·exact Nat.le_succ_of_le (h.bZ y (.aH g))
theorem cI.opens(h:cI T F H n ip ol es s k){e: .rW}{m:UInt8}{l:Addr}(a:H e.1= .bX .vw l (qg (.DH m) (.ref e.2)))(b:H e.2= .a7 [])(q:F e.2=none)(G:e.2≠ol)(c:e.2∉es.map λe=>e.2)(t: .cj ol)
  (h':H' ol= .a7 ((.vv es e.1)++(.c3 e.1)))(hd: .C2 s):cI T F H' n ip ol (e::es) ⟨(m,[])::s.cH,.ox⟩ k:=by
 obtain⟨d0,f⟩:=h.obj
 rw[109,[],H',t.kp .eD Y,⟨⟨d0,t _ _ f (.al f .eD)⟩,by rw[h',d9,kW],.cons ⟨l,[],t _ _ a (.al a .eD),t _ _ b G,.nil⟩ ?_,.ad,h.f1,h.f2,?_,λb o S=>t _ _ (h.sF _ _ S) (aN S h.f2),.ad,h.most⟩]
 ·refine Bn h.ents λy M j p=> ?_
  obtain⟨u,i,B,r,V⟩:=id p
  rw[117,p.fr kp (.DJ B .eD) (.hJ (λz=>h.lA ?_)),z,C9 j]
 ·rw[13,d9,p_,⟨c,h.mO⟩]
 ·rw[d9,bu]
  rintro(z|z)
  ·exact G .c5
  ·exact h.lA z
 ·rw[247]
  ·exact q
  ·exact h.f3 y g
 ·rw[247]
  ·exact .ab
  ·exact h.bZ y g
 ·rw[12,s.cH.length+1<=41]
theorem cI.ends{e: .rW}{x:Ent}{r: .mg}{q:Bool}(h:cI T F H n ip ol (e::es) ⟨x::r,q⟩ k)(t: .cj ol)(h':H' ol= .a7 (.vv es e.1)):cI T F H' n ip ol es ⟨r,q⟩ k/\∃us,H' e.2= .fY/\ .nX (aD [] H') n x.2:=by
 obtain⟨d0,m⟩:=h.obj;rw[43,[],H',t.kp .eD Y];have G:=h.mO;rw[d9,p_]at G;have f:=h.lA;rw[d9,bu]at f
 cases h.ents with
 |cons v M=>
  obtain⟨l,us,a,b,c⟩:=v;refine⟨⟨⟨d0,t _ _ m (.al m .eD)⟩,h',?_,G.2,λz=>f (.inr z),h.f1,h.f2,λy g=>h.f3 y (.aH g),λb o S=>t _ _ (h.sF _ _ S) (aN S h.f2),λy g=>h.bZ y (.aH g),?_,h.most⟩,us,t _ _ b (λz=>f (.inl .c5)),.aZ c⟩
  ·refine Bn M λy C j p=> ?_;obtain⟨u,i,B,A,V⟩:=id p;rw[117,p.fr kp (.DJ B .eD) (.hJ (λz=>f (.inr ?_))),z,C9 j]
  ·have:=h.deep;show .cQ<=41;have D: .cv<=41:=this;omega
end
def kc(T: .b)(F:Hp)(n:Nat)(j ol:Addr)(k:Nat)(r: .xU)(Q:VK)(E:XK):Prop:=(∀s',r=some s'->∀H' g,cI T F H' n j ol g s' k-> .bN)/\(r=none->CG T F E)
theorem cI.mono{T: .b}{F H:Hp}{n:Nat}{a ol:Addr}{es: .e8}{s:IS}{k U:Nat}(h:cI T F H n a ol es s k)(G:k<=U)(j:U<=20000):cI T F H n a ol es s U:=⟨h.obj,.eD,h.ents,.z1,.DI,h.sF,λx W=>cn (h.bZ x W) G,h.deep,j⟩
def VU(T: .b)(n:Nat):Sp:=λvs H Q E=>∃(F:Hp) (j ol:Addr) (es: .e8) (s:IS) (k:Nat) (m:UInt8),vs=(.f4 j (.DH m))/\ .kP/\kc T F n j ol k (ki m s) Q E
theorem SQ(T: .b)(n:Nat): .et T.uv.f T.uv.fd ["self","mark"] (VU T n):=by
 refine T.uv.F.az ["self","mark"] .f;obtain⟨F,j,ol,es,st,k,m,rfl,t,R,L⟩:=h;rw[119];have no:=.DG T;have s:=.z3 T;have v:=b_ t.ents;rw[0,⟨_,Z (.vu cl T M W (lB .i (kF (fO iU .i7 (T.bE "MOST_OPEN" 40))))) (.ql iJ iK ib .i (.qt T.opened.iS (Hf T) Y T.opened.g T.opened.F.b (ao .e))),?_⟩,⟨.cN,A,.kQ,.rV,s,vu,.ac⟩];have bad:¬(.c st.want/\ .C2 st)-> .sA T.jS.c H:=λh=>L .dP H t.sF;rw[6,eR Y .a2 (λz=>⟨_,.a,Y,.du,(λ_=>bad λh=>by rw[h.1]at z;cases z)⟩),⟨.rV,no,rV,ol,.dB t.lst,.pM⟩,⟨.h,λp=> ?_,λp=>bad λh=> ?_⟩]
 case refine_2=>rw[106,cq p,dy,bh];omega
 have r: .C2 st:=by have:=bQ p;rw[dy,bh]at this;omega
 refine⟨.rV,no,rV,.inl ⟨.bP t.lst⟩,_,Y,λo fV C I neo=> ?_⟩;rw[245,.jt fV o o .vw fV,mH C I,⟨o,fV,_,Y,aB,λX c b2 u d N=>⟨Y,?_⟩⟩];have B: .jP:=λb x h=>b2 b x (U b x h) (.aN C);have i:=t.same B
 have f:H c=none:=by
  cases hz:H c with
  |none=>rfl
  |some y=>rw[U _ _ hz]at u;cases u
 rw[63,⟨ol,.o,i.lst,by rw[dy,bh,br];omega,?_⟩,.DA]
 have q:F c=none:=by
  cases hz:F c with
  |none=>rfl
  |some y=>rw[t.sF _ _ hz]at f;cases f
 refine R _ (af ⟨z,r⟩) V ((o,c)::es) (i.opens (e:=(o,c)) d N q .a2 .a2 G D r)
 ·have a:c=ol:=z;rw[a,t.lst]at f;cases f
 ·obtain⟨e,g,a⟩:=iC.mp z;obtain⟨x,_,l,us,_,S,_⟩:=Ij t.ents e g;have z2:e.2=c:=a;rw[239,z2,f]
def Xa(T: .b)(n:Nat):Sp:=λvs H Q E=>∃(F:Hp) (j ol:Addr) (es: .e8) (s:IS) (k:Nat) (x:VV) (v:L2.V),vs=(.f4 j v)/\ .kP/\ .aY s.cH/\ .jN (aD [] H) x/\ .rU k/\kc T F n j ol (k+1) (kO x s) Q E
theorem xr(T: .b)(n:Nat): .et T.mG.f T.mG.fd ["self","value"] (Xa T n):=by
 refine T.mG.F.az ["self","value"] .f;obtain⟨F,j,ol,es,⟨cH,q⟩,k,x,v,rfl,t,f,B,G,R,L⟩:=h;rw[119];rw[319,.z3 T,⟨_,.i1 (.vu cl T M W .i) (bb (.nh iJ iK ib (J (.pg cl T.qP (Hv T))) .e)) (.hT iV),?_⟩,⟨.cN,A,.kQ,.rV,s,vu,_,q,Y,.a2,λz=>L (aa (λh=>by rw[z]at h;cases h)) H t.sF⟩];have S:kO x ⟨cH,q⟩=some ⟨D9 x cH,.a⟩:=af z
 cases cH with
 |nil=>rw[16,f]
 |cons y r=>
  obtain⟨m,vs⟩:=y
  cases es with
  |nil=>cases t.ents
  |cons e es=>
   have o:=t.ents
   cases o with
   |cons g p=>
    obtain⟨l,us,a,b,c⟩:=g;have N:=b_ c;have u:=t.bZ (m,vs) .aS;refine⟨.cN,A,.kQ,F,n,j,ol,e,es,_,k,Y,t,e.1,_,l,.h,a,.IZ,.IY T,zB,.inl ⟨.bP b⟩,_,Y,e.2,us,.ex,b,.ad⟩
    ·have e1: .K vs k:=u;have D: .aA vs .a8:=N;rw[28,br]
    refine bc .uK;rw[367,t.adds B b w2 C G];rw[7,⟨.cN,_,d,_,Y,h2,cl,s,.gN yU⟩,IC];rw[2,bc λV U I=> ?_,R _ S V _ (i.wants U I)]
def V5(T: .b)(n:Nat):Sp:=.IX .e8 (vs=(.c3 j)/\ .kP/\kc T F n j ol k (.bJ (.ox= .a) ⟨s.cH,true⟩) Q E)
theorem SR(T: .b)(n:Nat): .et T.uw.f T.uw.fd ["self"] (V5 T n):=by
 refine T.uw.F.az ["self"] .f;obtain⟨F,j,ol,es,st,k,rfl,t,R,L⟩:=h;rw[119];rw[319,.z3 T,⟨_,Z (.vu cl T M W (Bk .i)) (.hT iV),?_⟩,⟨.cN,A,.kQ,.rV,s,vu,_,Y,.h,.a2,λz=>L (aa (λh=>by rw[h]at z;cases z)) H t.sF⟩];have U:st.want= .a:=by cases hz:st.want with|false=>rfl|true=>rw[hz]at z;cases z
 rw[7,⟨.cN,_,A,.mY,cl,s,.gN yU⟩,IC];rw[2,bc .DA,R _ (af U) V _ (t.wants G D)]
section
open Vaunih (txt atomValue ofList fractionText)
theorem QK{a b:UInt8}: .fR (jh a) (jh b)= .a9 a b:=by
 apply iN.mpr;constructor
 ·rw[157];have h2: .iw (jh a) (jh b).cps.toList:=.Ak
  have e:∀c:UInt8,.iw (jh c) (.sD c [] [.bi]):=λc=>by
   unfold jh;split
   ·kernel_rfl
   ·rfl
  rw[e,e]at h2;by_cases N:a=0<;>by_cases S:b=0
  ·rw[N,S]
  ·rw[af N,aa S]at h2;cases h2
  ·rw[aa N,af S]at h2;cases h2
  ·rw[aa N,aa S]at h2;injection h2 with h2;exact UInt8.toNat_inj.mp h2
 ·rintro rfl;rfl
def V_(T: .b)(n:Nat):Sp:=λvs H Q E=>∃(F:Hp) (j ol:Addr) (es: .e8) (s:IS) (k:Nat) (m:UInt8),vs=(.f4 j (.DH m))/\ .kP/\ .aY s.cH/\(∀xs s',dJ m s= .ar xs s'->∀H' g c us,cI T F H' n j ol g s' k->H' c= .fY-> .nX (aD [] H') n xs-> .eW c)/\(dJ m s=none->CG T F E)
theorem A4(T: .b)(n:Nat): .et T.oO.f T.oO.fd ["self","mark"] (V_ T n):=by
 refine T.oO.F.az ["self","mark","ended"] .f;obtain⟨F,ip,ol,es,⟨cH,q⟩,k,m,rfl,t,f,R,L⟩:=h;rw[119];have u:=.IZ;have no:=.DG T;have s:=.z3 T;have U:=T.opened.n "mark";have ni:=.IY T;refine⟨.dZ (.pg cl T.qP (Hv T)) (Z (.vu cl T M W (.AV .gF .e (HW (Bk .i) (kF (.ji (T.cA .gF) aq))))) (.zB (bb (Bd eY LD LF GQ .i)) iV (.dz .gF)))⟩
 cases cH with
 |nil=>rw[16,f]
 |cons y r=>
  obtain⟨m',xs⟩:=y
  cases es with
  |nil=>cases t.ents
  |cons e es=>
   have o:=t.ents
   cases o with
   |cons g hre=>
    obtain⟨l,us,a,b,c⟩:=g;have N:=b_ c;have v:dJ m ⟨(m',xs)::r,q⟩= .bJ (m'=m/\(q= .a∨xs=[])) (xs,⟨r,true⟩):=rfl;rw[0,⟨_,Y,ip,A,.kQ,F,n,ip,ol,e,es,_,k,Y,t,?_⟩,⟨_,Y,ip,A,.kQ,_,Y,e.1,_,l,.h,a,u,U,Dx,.cs⟩];have bad:=λh=>L (by rw[v,.dP]) H t.sF;rw[159,λh:Hp=>H=h/\m'=m/\(q= .a∨xs=[])]
    case a=>
     intro rest;refine eR QK .a2 (λz=>⟨_,.a,Y,.du,λ_=>bad λh=>cq z h.1⟩);have j:=bQ z;rw[6,⟨_,Y,ip,.eV,h1,cl,s,vu,.j,?_⟩,eR Y (λz2=>⟨_,true,Y,λ_=>rest H ⟨Y,j,.inl (by simpa using z2)⟩,λp=>(by cases p)⟩) (λz2=> ?_),⟨_,Y,e.1,_,l,.h,a,u,ni,zB,e.2,us,Y,.pE b,Y,?_⟩];have hwn: .c q:=by simpa using z2
     have d: .t8 (.m .a8) 0= .a9 xs []:=by
      apply iN.mpr;have e1: .r= .a8:=N;constructor
      ·rw[157];exact vF.mp (by omega)
      ·rintro rfl;have: .a8=0:=e1.symm;rw[19,this]
     refine⟨.h,λp=>rest H ⟨Y,j,.inr (bQ (d.symm.trans p))⟩,λp=>bad λh=> ?_⟩;rw[d]at p;rcases h.2 with h|h
     ·rw[3,hwn]
     ·exact cq p h
    case b=>
     rintro H0 ⟨e0,B⟩;subst e0;have S:dJ m ⟨(m',xs)::r,q⟩= .ar xs ⟨r,true⟩:=by rw[v,af B]
     obtain⟨i,D⟩:=rev_last;refine⟨_,Y,ip,.eV,h1,cl,no,rV,.inl ⟨.bP t.lst⟩,ol,.o,t.lst,i,?_⟩;have r2':((e::es).map λe=>L2.V.ref e.1).reverse.dropLast=(.vv es e.1):=D;rw[9,r2',bc .EP];obtain⟨ia2,us2,C,I⟩:=t.ends w2 k2;obtain⟨di2,h2⟩:=ia2.obj;rw[63,⟨_,Y,ip,_,di2,_,Y,h2,cl,s,.gN yU⟩,λV G k3=> ?_];have x:=ia2.wants G k3;have a3:=G _ _ (.t0 _ _ a a t.lst) (bx a h1 HJ);refine⟨_,Y,e.1,_,l,.h,a3,u,ni,zB,?_⟩;have kp:Kp [] X V:=G.kp h2 (by rfl);exact R _ _ S V es e.2 us2 x (G _ _ C (.al C h2)) .jC
def bot(s:IS):Prop:=∃x,s.cH.getLast? =some (0,x)
theorem nX{s:IS}(h:bot s): .aY s.cH:=λz=>by obtain⟨x,h⟩:=h;rw[z]at h;cases h
theorem wo{m:UInt8}{s s':IS}{xs: .af}(h:bot s)(j: .iB)(e:dJ m s= .ar xs s'):bot s':=by
 obtain⟨x,h⟩:=h;obtain⟨cH,q⟩:=s
 cases cH with
 |nil=>cases h
 |cons y r=>
  obtain⟨M,vs⟩:=y;have v:dJ m ⟨(M,vs)::r,q⟩= .bJ (M=m/\(q= .a∨vs=[])) (vs,⟨r,true⟩):=rfl;rw[v]at e;split at e
  ·rename_i B;cases e
   cases r with
   |nil=>cases h;rw[5,B.1.symm,j]
   |cons y r=>exact⟨x,h⟩
  ·cases e
def Wt(T: .b)(n:Nat):Sp:=.IX .e8 (vs=(.c3 j)/\ .kP/\bot s/\ .rU k/\kc T F n j ol (k+1) (.w2 91 s λx=>kO (ofList x.1) x.2) Q E)
theorem GI:jh 91=("[":Str):=by decide+kernel
theorem GH:jh 40=("(":Str):=by decide+kernel
theorem SS(T: .b)(n:Nat): .J P w K .x 5 T.ux.f T.ux.fd ["self"] (Wt T n):=by refine T.ux.F.az ["self","inside"] .f;obtain⟨F,j,ol,es,st,k,rfl,t,S,G,R,L⟩:=h;rw[119];rw[0,⟨.eX (.qv cl T.oO (A4 T n) W bq) (.bB (.qv cl T.mG (xr T n) W (.gL T.gi.so.of (RD T n) .e)))⟩,⟨_,Y,j,A,_,Y,h1,.l5,F,j,ol,es,st,k,91,.yW j .yX GI.symm,t,nX S,λxs s' e X a f us i s b=> ?_,λe=>L .Ix⟩];rw[e]at R L;obtain⟨d,h2⟩:=i.obj;rw[2,⟨.cN,d,.vt,f,xs,us,Y,s,bY.out b,λV c C B=> ?_⟩,⟨F,j,ol,a,s',k,ofList xs,_,Y,.pH i,nX (.DD S e),B.aD,G,R,L⟩]
def WJ(T: .b)(n:Nat):Sp:=.IX .e8 (vs=(.c3 j)/\ .kP/\bot s/\ .rU k/\kc T F n j ol (k+1) (.w2 40 s uN) Q E)
theorem T5{xs: .af}{s:IS}(h: .r≠2):uN (xs,s)=none:=by
 match xs,h with
 |[],_=>rfl
 |[_],_=>rfl
 |[_,_],h=>rw[16,h]
 |_::_::_::_,_=>rfl
theorem SU(T: .b)(n:Nat): .J P w K .x 5 T.uy.f T.uy.fd ["self"] (WJ T n):=by
 refine T.uy.F.az ["self","inside"] .f;obtain⟨F,j,ol,es,st,k,rfl,t,S,G,R,L⟩:=h;rw[119];rw[0,⟨.eX (.qv cl T.oO (A4 T n) W bq) (.uT (.vu cl T M.m W (.ji (T.cA .e) aq)) (.qv cl T.mG (xr T n) W (cS T.gi.pair (Hg T.gi.pair) M.m W (bj (bz c7 .e aq) (bz c7 .e aq)))))⟩,⟨_,Y,j,A,_,Y,h1,.l5,F,j,ol,es,st,k,40,.yW j .yX GH.symm,t,nX S,λxs s' e X a c us i s b=> ?_,λe=>L .Ix⟩];rw[e]at R L;obtain⟨d,h2⟩:=i.obj;have N:=b_ b;refine⟨.cN,d,.vt,c,us,Y,.pE s,Y,.h,.a2,λz=>L (T5 λh=> ?_) X i.sF⟩
 case refine_2=>have:=cq z;exact this (by rw[<-N,h];rfl)
 have y: .a8=2:=.wT z
 cases b with
 |nil=>cases y
 |cons v1 b=>
  cases b with
  |nil=>cases y
  |cons f b=>
   cases b with
   |cons g b=>simp at y
   |nil=>rw[0,⟨.cN,d,.vt,c,_,.pC s,.aR,c,_,.pC s,Y,?_⟩,λp dp np v D=>⟨p,dp,.h,.nA⟩];generalize r:upd (upd (upd X dp _) p _) p _=H3;obtain⟨C,hp⟩:=mK r np v;exact⟨F,j,ol,a,s',k,.pair _ _,_,Y,.pH i,nX (.DD S e),⟨p,dp,.h,c0 hp FE,bw.same v1 C.kp,bw.same f C.kp⟩,G,R,L⟩
end
section
open Vaunih (txt atomValue ofList fractionText)
theorem true_iff{t:ax}:("true":Str)= .bG↔t= .Fm:=wg (by decide)
theorem NA{t:ax}:("false":Str)= .bG↔t= .Fl:=wg (by decide)
theorem Yu{t:ax}: .tt .eu [.str "true",.str "false"]=(.a9 t .Fm|| .a9 t .Fl):=by have h:=wL (s:=.bG) ["true","false"];refine(show .tt .eu [.str "true",.str "false"]= .g0 .bG (["true","false"]: .H)from h).trans ?_;rw[j3,lG,cR,cR,cR,bu,cX,<-true_iff,<-NA];exact⟨.qy (h.imp yI yI) (h.imp yI yI)⟩
def Xi(T: .b)(n:Nat):Sp:=λvs H Q E=>∃(F:Hp) (j ol:Addr) (es: .e8) (s:IS) (k:Nat) (t:ax),vs=(.f4 j .eu)/\ .kP/\bot s/\ .rU k/\ .AC/\kc T F n j ol (k+1) (.GI t λv=>kO v s) Q E
theorem SV(T: .b)(n:Nat)(u:base.NoSeer)(I: .aj=none)(m:base.NoDigits): .J P w K .x 41 T.uz.f T.uz.fd ["self","word"] (Xi T n):=by
 refine T.uz.F.az ["self","word","number"] .f;obtain⟨F,j,ol,es,st,k,t,rfl,y,S,G,V,R,L⟩:=h;rw[133,T.cy.cl,⟨_,.i3 (aU mS .e (dE (bj bq bq)) Y) (.qv cl T.mG (xr T n) W (cS T.gi.truth (uJ T.gi.truth) M.m W (ao (.ji .e bq)))) (.aC 2 nd (.qs T.mj (A1 T n u I) (T.bE "INPUT_WEIGHT" 1)) (.uT (.vu cl T M.m W (xy (uP .p))) (c5 .F cl T.mG (xr T n) M.m W (.bz 2)))),?_⟩,⟨.pV ?_⟩];generalize a:upd H t1 _=H1;rw[83,a,A];have c:=.k5 y;obtain⟨l,e⟩:=c.obj;rw[0,⟨t1,.lv f,Y,.aJ⟩,.uP Yu]
 ·have key:∀b:Bool,.fR .bG "true"=b->atomValue t=some .DF:=λb S=>by
   rw[lG,cR,cR]at z;rcases z with rfl|rfl
   ·rw[207,.fj,by rw[<-S];decide+kernel,this];decide+kernel
   ·rw[207,b= .a,by rw[<-S];decide+kernel,this];decide+kernel
  refine⟨.cN,l,_,Y,e,.l5,_,Y,Y,?_⟩;generalize s:decide (L2.V.str (stx t)=L2.V.str "true")=b;have g:=key b s;refineλp dp np v D=>⟨p,dp,_,Y,.nA⟩;generalize r:upd (upd (upd H1 dp _) p _) p _=H3;obtain⟨C,hp⟩:=mK r np v;rw[g]at R L;exact⟨F,j,ol,es,st,k,.DF,_,Y,.pH c,nX S,⟨p,dp,Y,c0 hp FF⟩,G,R,L⟩
 ·rw[pM]at z;have g:atomValue t=(.F6).map λq=>.jw 1:=by unfold atomValue;rw[.oH z.1,.oH z.2]
  rw[g]at R L;refine⟨_,Y,t,1,Y,.y,by decide,V,?_⟩
  cases N:fractionText t with
  |none=>intro X B;rw[367,c.same B];exact⟨.cN,d,.vt,_,.a,Y,.du,λ_=>L (by rw[N];rfl) X i.sF⟩
  |some q=>intro X x B o;rw[367,c.same B];rw[N]at R L;rw[2,⟨.cN,d,.vt,_,true,Y,λ_=> ?_,.du⟩,⟨.cN,d,.vt,F,j,ol,es,st,k,.jw 1,_,Y,i,nX S,o.aD,G,R,L⟩]
theorem AJ{m:UInt8}(G: .fG m= .hG)(a: .BT){t:ax}: .bG=stx [m]↔t=[m]:=BW λc B=>by cases cX.mp B;exact⟨G,a⟩
theorem Ku:("[":Str)=stx [91]:=by decide+kernel
theorem Y1:("]":Str)=stx [93]:=by decide+kernel
theorem Kt:("(":Str)=stx [40]:=by decide+kernel
theorem YZ:(")":Str)=stx [41]:=by decide+kernel
theorem Y0:(",":Str)=stx [44]:=by decide+kernel
theorem AI{m:UInt8}(G: .fG m= .hG)(a: .BT){k:Str}(e:k=stx [m]){t:ax}: .fR .bG k= .a9 t [m]:=by
 apply iN.mpr;rw[177,e]
 ·rw[157];exact(AJ G a).mp h
 ·rintro rfl;rfl
theorem TX{t:ax}: .tt .eu [.str "[",.str "("]=(.a9 t [91]|| .a9 t [40]):=by have h:=wL (s:=.bG) ["[","("];refine(show .tt .eu [.str "[",.str "("]= .g0 .bG (["[","("]: .H)from h).trans ?_;rw[j3,lG,cR,cR,cR,bu,cX,Ku,Kt,AJ (by decide) (by decide),AJ (by decide) (by decide)]
def W8(T: .b)(n:Nat):Sp:=λvs H Q E=>∃(F:Hp) (j ol:Addr) (es: .e8) (s:IS) (k:Nat) (t:ax),vs=(.f4 j .eu)/\ .kP/\bot s/\ .rU k/\ .AC/\kc T F n j ol (k+1) (stepI t s) Q E
theorem kc.more{T: .b}{F:Hp}{n:Nat}{j ol:Addr}{k:Nat}{r: .xU}{Q:VK}{E:XK}(h:kc T F n j ol (k+1) r Q E)(G: .rU k):kc T F n j ol k r Q E:=⟨λs' e H' g t=>h.1 s' e H' g (t.mono (qb _) G),h.2⟩
theorem SO(T: .b)(n:Nat)(u:base.NoSeer)(I: .aj=none)(m:base.NoDigits): .J P w K .x 42 T.ur.f T.ur.fd ["self","piece"] (W8 T n):=by
 refine T.ur.F.az ["self","piece"] .f;obtain⟨F,j,ol,es,st,k,t,rfl,b,S,G,V,q⟩:=h;rw[133,T.cy.cl,⟨_,.i3 (aU mS .e (dE (bj bq bq)) Y) (.qv cl T.uv (SQ T n) W .e) (.i3 (.mV .e) (.pg cl T.ux (SS T n)) (.i3 (.mV .e) (.pg cl T.uy (SU T n)) (.i3 (.mV .e) (.pg cl T.uw (SR T n)) (.bB (c5 .F cl T.uz (SV T n u I m) M W (ao .e)))))),?_⟩,⟨.pV ?_⟩];generalize a:upd H t1 _=H1;rw[83,a,A];have c:=.k5 b;obtain⟨l,h1⟩:=c.obj;refine⟨t1,.lv f,Y,.aJ⟩;unfold stepI at q;refine .uP TX
 ·rw[lG,cR,cR]at z;rcases z with rfl|rfl
  ·exact⟨_,Y,j,l,_,Y,h1,.l5,_,Y,F,j,ol,es,st,k,91,.yW j .yX (Ku.symm.trans GI.symm),c,q.more G⟩
  ·exact⟨_,Y,j,l,_,Y,h1,.l5,_,Y,F,j,ol,es,st,k,40,.yW j .yX (Kt.symm.trans GH.symm),c,q.more G⟩
 rw[pM]at z;rw[.oH z.1,.oH z.2]at q;refine⟨.f0,.uP (.IW Y1)⟩
 ·rw[118,bQ z,⟨.cN,l,.kQ,F,j,ol,es,st,k,Y,c,S,G,q⟩]
 rw[.oH z]at q;refine⟨.f0,.uP (.IW YZ)⟩
 ·rw[118,bQ z,⟨.cN,l,.kQ,F,j,ol,es,st,k,Y,c,S,G,q⟩]
 rw[.oH z]at q;refine⟨.f0,.uP (.IW Y0)⟩
 ·rw[118,bQ z,⟨.cN,l,.kQ,F,j,ol,es,st,k,Y,c,q.more G⟩]
 rw[69,.oH z,⟨.cN,l,.kQ,_,Y,F,j,ol,es,st,k,t,Y,c,S,G,V,q⟩]
end
end FC
namespace L2
open PySem PySem.Spec PyProof.Rows
section
variable{X:Cx}{pins: .D}{σ:St}{H:Hp}{s:Shared}
theorem JK{M:Model}{A:Around}{E: .E}{i:Nat}{x:Str}{v:V}{u:Value}{Q: .ge}(I: .k)(hN:X.N.Nodup)(hi: .hj= .aa)(G: .eC x= .bh)(r: .cA)
  (h:∀h',.Cs i .aQ H (.je (.ag+1))->(∃m,h'.Ns .bH m/\m x= .V)-> .m7 .bH h'->Q () (.je (.ag+1))):wpAny M A (storeName .S x u) Q E s:=by
 obtain⟨m,C,R⟩:=id I.loc
 have T:(.ya== .class||(.ya== .module&& .bH != .H4))= .a:=by rw[.hl];rfl
 have hiσ:i<σ.length:=by rw[I.len];exact .dD hi
 have i8:=I.i8
 have f:∀{a:Addr} {h':Heap},(∃o,.jx a/\H a=none)-> .m7 a h'-> .rp H h':=λ{a h'} N L b ob e=>by
  obtain⟨_,_,g⟩:=N
  refine(.mp ob e).jq (λc K B q=>.dA L c ?_ q) .ux .mo
  rintro rfl
  rcases B with rfl|B
  ·rw[45,g]
  ·rw[317,g]
 refine wpAny_storeName_local G C (λh' P L=> ?_) T
 obtain⟨t,_,_,l,_⟩:=id C
 refine h _ ⟨.oF I,⟨.oE,.oE,.H3 I ?_,.Cv I I I⟩,⟨_,P,.H2⟩,.Cu,.kw,.hR,f ⟨t,l,.i0⟩ L,by simpa using I.len⟩ ⟨_,P,af Y⟩ L
 ·exact .uv L b e (.uw b o e n S W)
 ·rw[316,I,b,o,e,n,S,W,⟨sl,.uv L b e F⟩]
 ·rw[179,I,b,o,e,W,⟨o',.uv L b e F⟩]
 ·by_cases w:j=i
  ·subst w
   rw[315,hi,zg hiσ,⟨u,r,.inl ⟨G,by simp⟩⟩]
  ·rw[314,zf (eQ w),R j y v' F D e3,⟨u',U,?_⟩]
   rcases q with⟨k,e⟩|⟨k,c,e,z⟩
   ·refine .inl ⟨k,?_⟩
    have:y≠x:=λe=>w (xk hN F (e▸hi))
    simp[this,e]
   ·rw[8,⟨k,c,e,.ro z (i8 y c e)⟩]
 ·obtain⟨K,z⟩:=.j2 y c e
  exact⟨K,.ro z (i8 y c e)⟩
 ·rw[313,I,p,hp]
  exact⟨.dA L p.1 ne e,n,ne,nf,d⟩
def IL(l T N A p5 p6 p7 p8 p9 p a:Pos)(j1 j2:Nat):Stmt:=.Assign [.ut l] (.kY (.ut T) "replace" N [.w5 A,.Cr [.j1 j1 p5,.y5 p6 p7,.j1 j2 p8]] [] p) a
theorem NY{M:Model}{c t j1 j2:Nat}{p5 p6 p7 p8 p9:Pos}{m: .d}{n: .E}{d: .E}{prog:Program}{w:World}{A:Around}{env:Env}(kind: .y9 env.scope.kind)(f:env.scope.names.lookup ("mark":Str)= .bh)(a: .qB s env.locals)(j:m ("mark":Str)= .oc .bY t)
  (q:∀k v:Nat,.ag<v->n (.str .rn v) .Ct): .bx prog w A (.gd (.Cr [.j1 j1 p5,.y5 p6 p7,.j1 j2 p8])) n d s:=by
 have l1: .Fd:=by kernel_rfl
 have g: .sx (.bY:Str):=rfl
 rw[48,wpAny_JoinedStr ?_,Joins _ _ _ [.gd (.j1 j1 p5),.gd (.y5 p6 p7),.gd (.j1 j2 p8)] _ _ s]
 rw[111,wpAny_Constant_str ⟨.h,by rw[xZ,l1,br];decide,?_⟩,xZ,YV ?_,.H1 (Cd (s:=.hm) kind f a j ?_)]
 have go:∀(k:Nat),.ag<k->∀tk:Nat,∃y t',(Value.str .bY tk)= .str y t'/\ .aT (.E6 y)/\Joins .hM A d [.gd (.j1 j2 p8)] (.E6 y) (λout N=>out.length<= .W/\n (.str out N.toks) {N with toks:=N.toks+1}) .Ct:=λk G tk=>by
  refine⟨.h,by rw[nQ,l1,g,br];decide,?_⟩
  have e: .aT .rn:=by rw[nQ,nQ,l1,g,br];decide
  exact wpAny_Constant_str ⟨.h,e,e,q _ _ (sh G)⟩
 exact wpAny_formatField_str (go _ (si _) _) (go _ (sh (si _)) _) (.Fv g)
theorem Vi{l T N A p5 p6 p7 p8 p9 p a:Pos}{j1 j2:Nat}{x:Str}{c t:Nat}{m: .d}{Q: .cq Flow}(I: .k)(E:X.N.Nodup)(n:X.N[0]? =some ("text":Str))(w: .eC ("text":Str)= .bh)(f: .eC ("mark":Str)= .bh)
  (hσ:σ[0]? =some (.pa x))(G: .qB s .bH)(j:m ("mark":Str)= .oc .bY t)(V:1<=t)(S:t< .ag)(W: .gU<=4000000)(q: .eh N.endLine p.line)
  (b: .rk (.kY (.ut T) "replace" N [.w5 A,.Cr [.j1 j1 p5,.y5 p6 p7,.j1 j2 p8]] [] p) (.ut l) a.line= .kh)
  (h:∀s',.Cs 0 (.pa (.y4 x .rn)) H s'-> .ag<=s'.toks->Q .next s'):
  .dR (execs [IL l T N A p5 p6 p7 p8 p9 p a j1 j2] .S) Q:=by
 rw[6,Cg .y ?_,yg ?_,Kk (Q:=_) ?_ b]
 have kind:=.hl
 obtain⟨o,P,R⟩:=id I.loc
 have C:o=m:=P.eq_nsMap.trans G.eq_nsMap.symm
 subst C
 obtain⟨u,ru,look⟩:=R 0 "text" .iD n hσ (.inl w)
 obtain⟨K,rfl⟩:=ru
 have L:o "text"= .oc x K:=by
  rcases look with⟨_,e⟩|⟨k,_⟩
  ·exact e
  ·have U: .y8 "text"= .bh:=w
   rcases k with k|k<;>(rw[U]at k;cases k)
 have l1: .Fd:=by kernel_rfl
 have g: .sx (.bY:Str):=rfl
 have d:(.rn).length=3:=by rw[nQ,nQ,l1,g]
 generalize hz:(" ":Str)++⟨#[c]⟩++(" ":Str)=z at h d
 have i:((.bY:Str)==z)= .a:=by
  rw[lg]
  intro e
  rw[<-e,g]at d
  cases d
 rw[20,wpAny_Call_method_late Y rfl q Y (.H1 (Cd kind w P L ?_)),⟨"str",_,CC,F.slot_str_replace,F.type_str_replace,nq _ _ _,.y7,rH Y (yC (vi ?_))⟩,.H1 (Cd kind f P j ?_),vi ?_]
 rw[7,NY (M:=.y6 .a6) (p5:=p5) (p6:=p6) (p7:=p7) (p8:=p8) (p9:=p9) (j1:=j1) (j2:=j2) kind f P j λk v D=> ?_,hz]
 rw[35,yD ?_,SC.replace (eO V) (eO (lQ .ab D)) (dj (Nat.lt_trans S D)) i (by rw[d];omega) λt' U=> ?_,xY (v:=.str (.y4 x z)) (I.tok U) E n (.inl w) ⟨_,Y⟩ (λB y=>pF λr=>h B y r) (.inr w)]
end
def zD(X:Cx)(st:Stmt)(t:TS):Prop:=.y0 (.k->1<= .ag->t D σ H-> .Cf st .S (.uu X D))
def qh(X:Cx)(st: .e2)(t:TS):Prop:=.y0 (.k->1<= .ag->t D σ H-> .dR (execs st .S) (.uu X D))
section
variable{X:Cx}
theorem eF.one{st: .e2}{t:TS}(h:eF X st t):qh X st t:=λpins s σ H D I _ q=>h pins s σ H D I q
theorem Ir{st:Stmt}{rest: .e2}{t u:TS}(h1:zD X st t)(h2:qh X rest u):qh X (.cM st) (B1 t u):=by
 intro pins s σ H D I V h;refine yg (Cg V (f_ (h1 pins s σ H (.Ce D) I V h) (λf U q A=> ?_) λ_ _ z _=>z))
 cases f with
 |next=>rw[309,h2 pins U σ' H' D L A q]
 |ret v=>exact q
 |brk=>exact q
 |cont=>exact q
def h_:Str:="[](),"
theorem AK:h_.cps.size=5:=by decide+kernel
theorem QF: .c (h_.cps.all (·<128)):=by decide+kernel
theorem UB{q1 L q3 l T N A p5 p6 p7 p8 p9 p p11:Pos}{j1 j2:Nat}(hp: .Cj)(B: .dO)(u:X.N.Nodup)(F:X.N[0]? =some ("text":Str))(h1:X.N[1]? =some ("mark":Str))(k0: .eC ("text":Str)= .bh)(k1: .eC ("mark":Str)= .bh)
  (hgl:Gl X "MARKS")(j:∃t,X.mg "MARKS"= .oc h_ t)(hline: .eh N.endLine p.line)
  (hsw: .rk (.kY (.ut T) "replace" N [.w5 A,.Cr [.j1 j1 p5,.y5 p6 p7,.j1 j2 p8]] [] p) (.ut l) p11.line= .kh):
  zD X (.For (.w5 q1) (.Name "MARKS" L) [IL l T N A p5 p6 p7 p8 p9 p p11 j1 j2] [] q3) (λD σ H=>∃(g: .ed Str) (v1 f: .s6),σ=[.y3 0,v1,f]/\(∀i c,.H0= .ae->g .z= .y4 (g i) .rn)/\(∀i,i<=5->(g i).length<=4000000)/\∀v,D.nx [.y3 5,v,f] H):=by
 intro pins s σ H D I ht h
 obtain⟨g,v1,f,rfl,y,R,q⟩:=h
 obtain⟨tm,j⟩:=j
 rw[0,wpAny_For (iR I hgl j ?_) (by intro _;rfl),wpAny_pyIter_ascii QF ?_]
 have fp: .nj X H .u:=I.iO .y .hc
 generalize hit:s.heap.objs.size=it at fp
 have I2: .ej [.y3 0,v1,f] H (.BC s "str_ascii_iterator" (.E1 (.str h_ tm) 0 0)):=.ur I .ag
 have P:(.jg s "str_ascii_iterator" (.E1 (.str h_ tm) 0 0)).IsStrIter it "str_ascii_iterator" h_ tm 0:=⟨_,by rw[<-hit];exact .ee,Y,Y⟩
 obtain⟨f0,f1,f2,f3,f4,f5⟩:=id fp
 have hno:["enumerate","zip","dict_itemiterator","dict_reverseitemiterator","odict_iterator","itertools.zip_longest","itertools.pairwise"].contains "str_ascii_iterator"= .a:=by decide
 refine EI (λn s'=>∃(i:Nat) (v: .s6),i<=5/\n=5-i/\ .ej [.y3 i,v,f] H s'/\s'.heap.IsStrIter it "str_ascii_iterator" h_ tm i/\1<=s'.toks) ?_ 5 ⟨0,v1,.ab,Y,I2,P,ht⟩
 rintro n C ⟨i,v,hi,rfl,I3,st3,U⟩
 by_cases hlt:i<5
 ·have W: .H0=some (h_.cps[i]' (by rw[AK];exact hlt)):=yo _
  generalize (h_.cps[i]'(by rw[AK];exact hlt))=c at W
  refine gT hp (wpAny_pyNext_ascii_item st3 W λh' M hs'=> ?_)
  have w: .ej [.y3 i,v,f] H {C with heap:=h',toks:=C.toks+1}:=.Cq I3 (hs'.extBut b o S e) f0 f1 f3 f4 f5
  obtain⟨o,d,E,k⟩:=id M
  refine gT hp (oI (s:={C with heap:=h',toks:=C.toks+1}) d E k hno ?_)
  have Q:=w.pinned (fp:=[it]) (λb S=>by cases cX.mp S;exact fp) (λb S=>by cases cX.mp S;exact⟨o,d,.y2 k⟩)
  refine gT hp (wpAny_assign_Name (JK (v:=.jV) Q u h1 k1 ⟨_,Y⟩ λh'' K hns sb=> ?_))
  obtain⟨m,G,hmk⟩:=hns
  refine gT hp (Vi (x:=g i) K u F k0 k1 Y G hmk U (.GZ C.toks (C.toks+1+1)) (R i hi) hline hsw λs7 a r=> ?_)
  have hle':C.toks+1+1<=s7.toks:=r
  refine⟨5- .z,by omega,.z,.pa .bY,.it,.ad,by omega⟩
  ·rw[1,y i c W,a.nv]
  ·exact⟨o,(a.pin (it,o) (iB _ (iB _ (qS (pZ _) d)))).1,E,k⟩
 ·have e5:i=5:=by omega
  subst e5
  have W:h_.cps[5]? =none:=KA (.El AK)
  rw[2,gT hp (wpAny_pyNext_ascii_end (I3.ok.hd B) st3 W λh' eb=> ?_),pF ⟨_,H,.DY I3 C.toks (eb b o S e) f0 f1 f3 f4 f5,q v⟩]
end
structure rL(P:Program)(w:World)(K:ag)(mg: .d)(base:Heap)(CX:fG)(k:Nat)(f:Addr)(fd:FuncData)(ps: .H)(sp:Sp):Prop where
 len: .us H Q E vs
 run:∀(A:Around) (outer: .d6) (s:Shared) (H:Hp) (args:Args) (us: .q) (vs: .s) (Q:VK) (E:XK),cb k A->1<= .ag->lH P w K mg base A .a0 s H-> .tB s fd args us-> .h1->sp vs H Q E->
  codeAny (model P w) A (.call .ai args) (CR CX .a0 P w H s Q E) s
theorem NR{CX:fG}{P:Program}{w:World}{K:ag}{mg: .d}{base:Heap}{k:Nat}{f:Addr}{name g:Str}{h:Arguments}{body: .e2}{d:Scope}{dV kV z pm G ct oc:Value}{an od: .aU}
  {i: .u2}{N ps: .H}{sp:Sp}(lk: .O K f ⟨oc,od,.func (.fk name g h body d dV z pm an G ct),i⟩)(W: .Cp K G g)(S:nE N ps d)
  (len: .us H Q E vs)
  (a:∀(A:Around) (outer: .d6) (s:Shared) (H:Hp) (vs: .s) (Q:VK) (E:XK),.oD= .Co->cb k (A.deeper (.iZ g d f G))->sp vs H Q E->
   ∃t,qh (e_ CX P w K mg base N g d f G A .a0 s H E) body t/\t (.Cm Q) (.mn N) H):
  rL P w K mg base CX (k+1) f (.fk name g h body d dV z pm an G ct) ps sp:=by
 refine⟨len,λA outer s H args us vs Q E M ht F hb r C=> ?_⟩
 have R:=len _ _ _ _ C
 have T: .j0:=F.mod.kin.keeps (.Cn b o e)
 have m: .GY:=F.mod.nolimit.keeps (.Cn b o e)
 have l:∀y∈ .sj us,.fv y.1= .bh∨(.fv y.1= .cH/\ .c (.q8 (.sd .b7 d []) y.1)):=λ⟨n,v⟩ hy=>by
  rcases S.par n (zj hy).1 with q|q
  ·rw[14,q]
  ·rw[8,⟨q,DL _ _ _ (.inl q)⟩]
 rw[0,codeAny_call_function M.depth (T _ _ lk) Y S.co S.gen Y (LI T W) (hb _ _ _ _ ?_),Cg ht (YX S.kind l λenv he U x ht1=> ?_)]
 subst he
 refine⟨m.keeps x.toInCall.keep,codeAny_func ?_⟩
 obtain⟨t,htt,j⟩:=a A .a0 s H vs Q E F.frames (M.deeper _) C
 have I:Inv (e_ CX P w K mg base N g d f G A .a0 s H E) [] (.mn N) H U:=FO S M.hd F R r x
 refine f_ (htt [] U (.mn N) H _ I ht1 j) (λc s' L=> ?_) λe s' L=>L
 have fin:∀{σ':St} {H':Hp} {v:V} {u:Value},Inv (e_ CX P w K mg base N g d f G A .a0 s H E) [] σ' H' s'-> .cA-> .dL v->CE .a0 P w H s Q u s':=
  λ{σ' H' v u} B D q=>⟨v,H',B.os,B.bare,B.base,B.aw,D,q⟩
 cases c with
 |ret u=>
  obtain⟨v,σ',H',B,D,q⟩:=L
  exact fin B D q
 |next=>
  obtain⟨σ',H',B,q⟩:=L
  exact fin (v:=V.au) (u:=.fq) B Y q
 |brk=>
  rw[230,q]
 |cont=>
  rw[230,q]
section
variable{P:Program}{w:World}{K:ag}{mg: .d}{base:Heap}
theorem fj.Rj{x g:Str}{st:Stmt}{f:Addr}{fd:FuncData}{N ps: .H}{k:Nat}{sp:Sp}(F:fj K x g st f fd)(S:nE N ps .fu)(len: .us H Q E vs)
  (a:∀(G:Value) (A:Around) (outer: .d6) (s:Shared) (H:Hp) (vs: .s) (Q:VK) (E:XK),gI (e_ .x P w K mg base N g .fu f G A .a0 s H E) (λ_=>E)->cb k (A.deeper (.iZ g .fu f G))->sp vs H Q E->
   ∃t,qh (e_ .x P w K mg base N g .fu f G A .a0 s H E) (hI st) t/\t (.Cm Q) (.mn N) H):rL P w K mg base .x (k+1) f fd ps sp:=by
 rw[312,NR d W S len λA outer s H vs Q E n M C=>a G A .a0 s H vs Q E (Kx n) M C]
end
def Dz(X:Cx)(e:Expr)(t:TE):Prop:=.GX (.k->1<= .ag-> .gc Q-> .gv .dC s)
def DA(X:Cx)(tg iter:Expr)(N:TI):Prop:=∀(pins: .D) (s:Shared) (σ:St) (H:Hp) (R: .bT It),.k->1<= .ag->N σ H R-> .y1 iter (λv U=>.go (pyIter v) (vU X pins σ tg R) U)
section
variable{X:Cx}{CX:fG}{E:St->XK}{k:Nat}{f:Addr}{fd:FuncData}{ps: .H}{sp:Sp}{ds: .q}{dvs: .s}{x:Str}{p pos:Pos}{e tg:Expr}{es: .bK}{t:TA}
theorem Vo{pins: .D}{σ:St}{H:Hp}{s:Shared}{Q:VK}{us: .q}{vs: .s}(F:rL .a6 X.w X.K X.mg .ca CX k f fd ps sp)(M: .h7)(S: .kv)(hd: .ku)(W: .iY)
  (I: .k)(a:1<= .ag)(r: .h1)(h:sp (vs++dvs) H Q (E σ)): .Cl .ai us s:=by
 rw[171,vs++dvs,us++ds,.r5 hd]
 rw[311,.jr (us++ds),.kj,F.len _ _ _ _ h]
 refine pE (qt (F.run X.A .bv s H ⟨.fg⟩ (us++ds) (vs++dvs) Q (E σ) M a I.wC (S s us I.bT R) D h) λr s' j=> ?_)
 cases r with
 |error e=>exact W pins σ H s e s' I j
 |ok c=>
  cases c with
  |ret u=>exact I.after j
  |next=>rw[21,j]
  |brk=>rw[21,j]
  |cont=>rw[21,j]
theorem T9(F:rL .a6 X.w X.K X.mg .ca CX k f fd ps sp)(M: .h7)(y: .bR)(j: .cD= .I f)(G: .me X.K)(S: .kv)(hd: .ku)(W: .iY)
  (N: .g7)(d: .bu= .a:=by decide)(g: .fm= .fl:=by rfl)(l: .iG= .a:=by rfl):
  Dz X (.hO x p (e::es) [] pos) (u4 sp dvs E t):=by
 intro pins s σ H Q I V h
 rw[35,.oC I y j d,.u4 I G (Cg V (f_ (N pos pins s σ H _ I h) (λus U ⟨vs,m,n,r,q⟩ A=>⟨n.bT,?_⟩) λ_ _ z _=>z)) g l,Vo F M S hd W n A r q]
theorem Uh{l:Expr}{tl:TE}(c:Dz X l tl):DA X tg l (Fz X.K tl):=by
 intro pins s σ H R I V h;refine aE (c pins s σ H _ I V h) λv U ⟨x,m,n,i,d⟩=> ?_;obtain⟨a,e,⟨xs,j⟩,q⟩:=d;subst e;cases i;rw[174,n,j];rw[310,Kn .u3 ?_,⟨.L,[.L],_,_,m,Y,.ur n U.toks,J1 a _,⟨.ma⟩,.fe,q⟩,b= .L,.Ck .y n]
theorem UA{iter:Expr}{body: .e2}{wi:TI}{g:TG}{tb:TS}{pos:Pos}(hp: .Cj)(hc: .dO)(hi:DA X tg iter wi)(y:PG X tg g)(S: .rm X tb)
  (L:∀x,.Ci .S x=pure x:=by intro _;rfl):zD X (.For tg iter body [] pos) (JP wi g tb):=by
 intro pins s σ H D I V h
 refine wpAny_For (aE (hi pins s σ H _ I V h) (.GV h1 .GW)) L
 obtain⟨it,fp,tn,B,H2,e,I2,T,st2,f2,W,⟨m0,w0⟩,turn⟩:=h2
 subst e
 have q:∀{H':Hp},.kt-> .uq X H' b:=λG b S=>⟨G b S,(f2 b S).2⟩
 refine EI (λn s'=>.Ch .zh (tn i .dN/\ .kt/\W i n σ' H')) ?_ m0 ⟨0,σ,H2,I2,st2,.si (f2 b S),w0⟩
 rintro n C ⟨i,σ3,H3,z,l,fr3,w3⟩
 rcases turn i n σ3 H3 w3 with⟨stop,qn⟩|⟨go,N,hN,step⟩
 ·refine .hk (T.done X Y rfl rfl hc i pins C σ3 H3 X.xe z (q fr3) l stop) (λr A ⟨M,I4⟩=> ?_)
  subst M
  exact pF ⟨σ3,H3,I4,qn⟩
 ·refine .hk (T.item X Y rfl rfl hc i pins C σ3 H3 X.xe z (q fr3) l go) (λr A ⟨u,M,h4⟩=> ?_)
  subst M
  refine .hk h4 (λ_ s5 ⟨x,H5,Q,r5,y5,st5,fr5⟩=> ?_)
  have I5':=Q.pinned (q fr5) (T.obj _ _ st5)
  rw[0,.hk (y _ s5 σ3 H5 x u _ I5' r5 (step x H5 y5)) (λ_ c ⟨σ6,H6,I6,q6⟩=> ?_),.hk (S _ c σ6 H6 _ I6 q6) (λf R q7=> ?_)]
  have again:∀{σ7:St} {F:Hp},Inv X (pins++q_ fp s5.heap) σ7 F R->N σ7 F->∃m,m<n/\ .Ch (.ej σ' H' R) (tn i R.heap/\ .kt/\W i m σ' H'):=λ{σ7 F} a n7=>by
   obtain⟨m',j,w7⟩:=hN σ7 F n7
   refine⟨m',j,.z,σ7,F,a.nv,.GU T _ _ _ st5 (a.pin (b,o) (iB _ (iB _ (qS S e)))).1,.fe,w7⟩
   obtain⟨o,e,d⟩:=T.obj _ _ st5 b S
   exact(a.pin (b,o) (iB _ (iB _ (qS S e)))).2.1
  cases f with
  |next=>obtain⟨σ7,F,a,n7⟩:=q7;exact .Cg a
  |cont=>obtain⟨σ7,F,a,n7⟩:=q7;exact .Cg a
  |brk=>obtain⟨σ7,F,a,q7⟩:=q7;exact⟨σ7,F,a.nv,q7⟩
  |ret v=>obtain⟨x7,σ7,F,a,r7,q7⟩:=q7;exact⟨x7,σ7,F,a.nv,r7,q7⟩
def DC(X:Cx)(st:Stmt)(t:TS):Prop:=.y0 (.k->t D σ H-> .Cf st .S (λf s'=>.rl X D f s'/\(f= .next->1<=s'.toks)))
theorem UH{st:Stmt}{rest: .e2}{t u:TS}(h1:DC X st t)(h2:qh X rest u):eF X (.cM st) (B1 t u):=by
 rw[120,yg (aE (h1 pins s σ H (.Ce D) I h) λf U ⟨q,j⟩=> ?_)]
 cases f with
 |next=>rw[309,h2 pins U σ' H' D L (j Y) q]
 |ret v=>exact q
 |brk=>exact q
 |cont=>exact q
theorem UG{i:Nat}{x:Str}{e:Expr}{l:TE}{a:Pos}(u:X.N.Nodup)(hi: .hj= .aa)(G: .eC x= .bh)(g: .A e l)(L: .rk e (.mN a) .hd= .kh:=by rfl):
  DC X (.Assign [.mN a] e pos) (x5 l (uj i)):=by
 intro pins s σ H D I h
 rw[2,Kk (.mm s H _ I h λv U ⟨y,m,n,b,R⟩=> ?_) L,JK n u hi G b λh' W _ _=>⟨⟨_,m,W,R⟩,λ_=>Nat.le_add_left _ _⟩]
end
end L2
namespace FC
open PySem PySem.Spec PyProof.Rows L2
variable{P:Program}{w:World}{K:ag}{mg: .d}{base:Heap}
def w_:List UInt8:=[91,93,40,41,44]
def jJ(t:ax): .ed ax
 |0=>t
 |i+1=>jb (.DE i) (jJ t i)
theorem Ny(m:UInt8)(t:ax): .K (jb m t) (3* .C):=by
 unfold jb
 induction t with
 |nil=>exact .y
 |cons c r j=>
  rw[fS,bL,bp];split
  ·rw[36,3+_]
  ·rw[36,1+_]
theorem E4{t:ax}:∀i,.K (jJ t i) (3^i* .C)
 |0=>by rw[zx,vO];exact .y
 |i+1=>by
  rw[97,Ny (.DE i) (jJ t i),E4 (t:=t) i]
  rw[80,sr,gW (3^i) 3,sj,cn h1 (Lr 3 h2)]
theorem Nr{t:ax}(i c:Nat)(h: .H0= .ae): .z2 t .z= .y4 (.z2 t i) .rn:=by
 have key:∀(m:UInt8),.fG m= .hG-> .BT-> .DE i=m->c= .hG-> .z2 t .z= .y4 (.z2 t i) .rn:=λm G a C n=>by
  subst n;rw[Vj G a]
  ·rw[25,stx (jb (.DE i) (jJ t i)),C]
  ·have F: .iw (" ":Str) [32]:=by kernel_rfl
   show((" ":Str).cps++ #[.hG]++(" ":Str).cps).toList=_;rw[ve,ve,F];rfl
 have L:h_.cps= #[91,93,40,41,44]:=by decide+kernel
 rw[L]at h
 match i,h with
 |0,h=>exact key 91 (by decide) (by decide) Y (by cases h;rfl)
 |1,h=>exact key 93 (by decide) (by decide) Y (by cases h;rfl)
 |2,h=>exact key 40 (by decide) (by decide) Y (by cases h;rfl)
 |3,h=>exact key 41 (by decide) (by decide) Y (by cases h;rfl)
 |4,h=>exact key 44 (by decide) (by decide) Y (by cases h;rfl)
 |i+5,h=>simp at h
def WL:Sp:=.EV (vs=[.eu]/\ .C<=4000/\ .ij (H l=none-> .c2= .Aq (.gq t) (.n8 x)-> .dI))
theorem IV:nE ["text","mark","piece"] ["text"] (.td 72):=IX
theorem Ss(T: .b):rL P w K mg base .x 1 T.oy.f T.oy.fd ["text"] WL:=by
 refine T.oy.F.Rj IV (λvs H Q E h=> ?_) (λG A outer s H vs Q E W M h=> ?_)
 ·obtain⟨t,rfl,_⟩:=h;rfl
 ·obtain⟨t,rfl,R,q⟩:=h;have nd:=IV.nd;refine⟨_,Ir (UB ef Y nd Y rfl rfl rfl rfl T.Fh (by rfl) (by rfl)) (eF.one (.dz (o8 (own:=[("piece",2)]) Y nd (mW (xC .F bq)) .qa (λs H C cl fp=>eo 2 nd) (λs H C cl fp=>Iu (aU jj .p bq)) (λs H C cl fp=>.p)))),?_⟩;have p:∀i,i<=5->(jJ t i).length<=972000:=λi hi=>by have h1:=E4 (t:=t) i;have h2:3^i<=3^5:=.gA hi;have h3:3^i* .C<=3^5*4000:=nJ h2 R;exact cn h1 (.qn h3)
  refine⟨λi=>.z2 t i,.h,Nr,λi hi=> ?_,λv=> ?_⟩
  ·rw[cT];rw[23,p i hi]
  have S:jJ t 5= .ug:=Nz t;dsimp only;have I:=p 5 .y;rw[S]at I⊢;refine⟨_,Y,⟨_,Y⟩,.o,Y,.sh,λd r=> ?_⟩;generalize a:upd H d _=H1;rw[83,a,r];have F:Txt.split (stx .ug) (" ":Str)= .nN 32 .ug stx:=by rw[blank_eq];exact BR (c:=32) (by decide) (by decide) .ug
  rw[F]at f;generalize N:splitBy 32 (expand t)=ps at f;have l: .aV<=972001:=by rw[<-N];exact cn (BP _ _) (by omega)
  refine⟨d,Y,⟨.jz f⟩,.Ah⟩;rw[112,ae H1 .q9,.n9 H1 m,wU (λi H'=>.f2 H1/\∃acc,H' D= .gK/\acc=(.Ad (.Ag (.d9 ps) x) .cO)) ⟨j,_,aB,Y⟩ (.Af (h.1 _ _ f)) (λi x H' W h=> ?_) (λX h=> ?_)]
  ·rw[271,gE,gE];rw[270,W];rw[269,g];refine⟨.aR,.aJ⟩;by_cases u:z=[]
   ·rw[9,.wN x4 u,aj ⟨s',acc,k,?_⟩];rw[iE,hz,L,y9,u];rw[96,_,.Ae (_++[])]
   ·rw[9,aW (λz=>u (x4.mp z)),aR ⟨_,Y,acc,k,.ad,_,aB,?_⟩]
    ·subst L;rw[bh,br];rw[7,lQ (Lf _ _) ?_,eX];omega
    ·exact .wM e m e
    ·rw[iE,hz,L,y9,fT]
     have: .c (.Ef z):=by cases z with
      |nil=>rw[16,u]
      |cons _ _=>rfl
     rw[95,_=_++ .Ae (List.filter _ [z]),y_,af this]
  obtain⟨B,acc,k,L⟩:=h;have n:acc= .Ad (.gq t) .cO:=by have h1:=Bl t [] (by simp);rw[jC,N]at h1;rw[L,bh,bh,iD,h1]
  rw[n]at k;refine q X D (.gG U) ?_ k
  cases hz:H D with
  |none=>rfl
  |some o=>rw[U _ _ hz]at m;cases m
section
open Vaunih (inputsOf ofList)
theorem z0{v:VV}{s s':IS}(h:bot s)(e:kO v s=some s'):bot s':=by
 unfold kO at e;split at e
 ·cases e;obtain⟨x,h⟩:=h;obtain⟨cH,q⟩:=s
  cases cH with
  |nil=>cases h
  |cons y r=>
   obtain⟨m,vs⟩:=y
   cases r with
   |nil=>rw[94,⟨_,Y⟩]
   |cons z r=>exact⟨x,h⟩
 ·cases e
theorem MB{t:T8}{s s':IS}(h:bot s)(e:stepI t s=some s'):bot s':=by
 have c:∀m,ki m s=some s'->bot s':=λm e=>by
  unfold ki at e;split at e
  ·cases e;obtain⟨x,h⟩:=h;refine⟨x,?_⟩;rw[95,((m,[])::s.cH).getLast? =_,List.getLast?_cons,h]
  ·cases e
 unfold stepI at e;split at e
 ·exact c _ e
 split at e
 ·exact c _ e
 split at e
 ·obtain⟨x,h1,h2⟩:=zC.mp e;exact z0 (.DD h (show dJ 91 s= .ar x.1 x.2 from h1)) h2
 split at e
 ·obtain⟨x,h1,h2⟩:=zC.mp e;have S:=.DD h (show dJ 40 s= .ar x.1 x.2 from h1);obtain⟨xs,U⟩:=x
  match xs,h2 with
  |[a,b],h2=>exact z0 S h2
 split at e
 ·split at e
  ·rw[53,h]
  ·cases e
 ·obtain⟨v,h1,h2⟩:=zC.mp e;exact z0 h h2
theorem cI.more{T: .b}{F H:Hp}{n:Nat}{j ol:Addr}{es: .e8}{s:IS}{k:Nat}(h: .kP){l:Addr}{o:HO}(R:H l= .l)(A:l≠j)(a:l≠ol)(c:∀e∈es,l≠e.2):cI T (upd F l o) H n j ol es s k:=
 ⟨h.obj,.eD,h.ents,.z1,.bp A.symm h.f1,.bp a.symm h.f2,λe g=>.bp (c e g).symm (h.f3 e g),λb o' S=>by
  rw[17,b,l]
  ·subst e;rw[212,aB];exact R
  ·rw[142,aC e,h.sF _ _ S],h.bZ,h.deep,h.most⟩
theorem AF:∀(t w:T8),.K (bV w t) (2* .C+1)/\ .DC (bV w t) x (w.length+ .C+1)
 |[],w=>by
  show(.cF).length<=1/\ .DC .cF x (w.length+0+1)
  unfold ee
  split
  ·exact⟨.ab,(λx W=>by cases W)⟩
  ·exact⟨.y,λx W=>by cases cX.mp W;omega⟩
 |c::r,w=>by
  have g:(.cF).length<=1/\ .DC .cF x w.length:=by
   unfold ee
   split
   ·exact⟨.ab,(λx W=>by cases W)⟩
   ·exact⟨.y,λx W=>by cases cX.mp W;omega⟩
  obtain⟨f,e⟩:=AF r []
  obtain⟨j1,j2⟩:=AF r (w++[c])
  show .K (.kn c (.cF++ .iU) (.aq (d5 c) (.cF++[c]:: .iU) (bV (w++[c]) r))) (2* .cv+1)/\ .DC (.kn c (.cF++ .iU) (.aq (d5 c) (.cF++[c]:: .iU) (bV (w++[c]) r))) x (w.length+ .cv+1)
  split
  ·rw[9,bL,⟨.IV⟩]
   rcases gV.mp W with W|W
   ·rw[23,g.2 x W]
   ·rw[273,e x W,zh]
  ·split
   ·rw[bL,bp]
    refine⟨.IV⟩
    rcases gV.mp W with W|W
    ·rw[23,g.2 x W]
    ·rcases bu.mp W with rfl|W
     ·rw[12,1<=_]
     ·rw[273,e x W,zh]
   ·rw[220,⟨.IV⟩,j2 x W,bL]
    have F: .sx [c]:=rfl
    omega
def WT(T: .b)(n:Nat):Sp:=λvs H Q E=>∃t:ax,vs=[.eu]/\ .C<=1000000/\(∀xs,.BV=some xs->∀H' a us,.R->H' a= .jS-> .nX (aD [] H') n xs-> .dL .B)/\(.BV=none->∀H',.R-> .sA T.jS.c H')
theorem Sx(T: .b)(n:Nat)(u:base.NoSeer)(I: .aj=none)(m:base.NoDigits): .J P w K .x 43 T.tY.f T.tY.fd ["text"] (WT T n):=by
 refine T.tY.F.az ["text","inputs","piece"] .f;obtain⟨t,rfl,R,q1,L⟩:=h;have cl:=T.cy.cl;rw[6,⟨_,Z (.wC ic .AE "MOST_BYTES_inputs" 4000 (rg W Y T.jS.x Y T.jS.g)) (UH (UG (i:=1) nd Y rfl (uR T.cy.iS (Ro T n) M.m Y T.cy.g T.cy.F.b .nil .bn)) (Ir (UA ef Y (Uh (T9 (Ss T) M.m Y T.oy.g T.oy.F.kp T.oy.F.b .nil .bn (.bz 0))) (eo 2 nd) (.bB (c5 .e cl T.ur (SO T n u I m) M W (.bz 2)))) (eF.one (.dz (.nU MK (T.gb "tuple") (.im "tuple" (.fI "tuple")) (c5 .e cl T.oO (A4 T n) M.m W (ao bq))))))),?_⟩,⟨.t6,.eP⟩,.mX (decide (4000< .C)) ?_ .a2]
 ·rw[1,cT,.oI ⟨.p0,.p0⟩]
 ·refine L ?_ H .gX;unfold inputsOf;exact af (bQ z)
 have h4: .C<=4000:=sk.mp (cq z);have eI:=OL h4;refineλj A nip ndi nei=> ?_;rw[366,.jt A j j T.cy.c A,mH nip ndi,⟨H,j,A,Y,aB,U,nip,λX ol e ia=>⟨Y,?_⟩⟩,⟨_,Y,t,Y,h4,λV l C nl r=> ?_⟩];generalize htk:bV [] t=toks at r eI;have ltk:=AF t [];rw[htk]at ltk;obtain⟨ly,lt2⟩:=ltk;have ia3:=.pH ia;obtain⟨d2,o2⟩:=ia.obj;have G:l≠j:=λz=>by rw[z,o2]at nl;cases nl
 have ne2:l≠ol:=λz=>by rw[z,ia.lst]at nl;cases nl
 have ne3:∀e'∈[e],l≠e'.2:=λe' he' z=>by obtain⟨x,_,da,us,_,S,_⟩:=Ij ia.ents e' he';rw[<-z,nl]at S;cases S
 have k:=ia3.more r G ne2 ne3
 have nlH:H l=none:=by
  cases hz:H l with
  |none=>rfl
  |some o=>rw[ia.sF _ _ hz]at nl;cases nl
 have sHF: .aB (.bZ H l (.IU (.n8 x))):=.gs nlH;generalize hF:upd H l (.lst (toks.map λx=>L2.V.str (stx x)))=F at k sHF;have hFl:F l= .a7 (.IU .Fp):=by rw[<-hF];exact aB
 rw[0,⟨l,Y,⟨.jz r⟩,?_⟩,.AK (.IU .Fp) (λi σ H'=>∃(s':IS) (es: .e8) (v: .dH),σ=[.nP t,.I j,v]/\cI T F H' n j ol es s' i/\bot s'/\fY (toks.drop i) s'= .BV) ⟨.cS,k,⟨_,Y⟩,eI.symm⟩ ?_ ?_ ?_]
 ·obtain⟨s',es,v,_,f,_⟩:=h;exact ay.of (f.sF _ _ hFl)
 ·rintro i x σ H' W ⟨s',es,v,rfl,f,S,hg⟩;rw[gE]at W;rw[270,W];rw[162,g];have hym:=lt2 y (lO g);obtain⟨d',o'⟩:=f.obj;have ed:toks.drop i=y::toks.drop .z:=by rw[y6 hi];rw[bS hi]at g;cases g;rfl
  rw[ed,jN]at hg;refine⟨.cN,d',_,Y,o',.l5,_,Y,F,j,ol,es,s',i,y,Y,f,S,by omega,by rw[zh]at hym;omega,λB D q es4 k=> ?_,λD q d=> ?_⟩
  ·rw[D]at hg;exact⟨B,es4,_,Y,k,MB S D,hg⟩
  ·rw[D]at hg;exact L hg.symm q (sHF.trans d)
 ·rintro σ H' ⟨s',es,v,rfl,f,S,hg⟩;rw[bh,y8,Oi]at hg;obtain⟨d',o'⟩:=f.obj;refine⟨_,Y,j,d',_,Y,o',.l5,F,j,ol,es,s',_,0,Y,f,nX S,λxs B D q es4 c us k s b=> ?_,λD q d=> ?_⟩
  ·rw[D]at hg;refine⟨c,us,Y,.inl ⟨ay.of s,.xi⟩⟩;have p:ae q (.pn q a us):=.n9 q N;exact q1 xs hg.symm _ a us ((sHF.trans k.sF).trans p) aB (b.same p.kp)
  ·rw[D]at hg;exact L hg.symm q (sHF.trans d)
end
section
open Vaunih (Instr txt Block nat Toks instr instrs take fractionText weightText)
def xR(q:ft):Prop:=.cV .g1/\ .cV .an
theorem Rh{m n:Nat}(j: .cV m)(G: .cV n)(F: .lI):xR (.AB (m:Nat)):=by unfold Vaunia.Q.of;rw[9,aa F,⟨?_,lQ (qa _ _) G⟩];show(.ew/(.ta .ew n)).natAbs<_;have: .ew/(.ta .ew n)=(.m (m/ .zg .ew n)):=rfl;rw[13,this,j6,lQ (qa _ _) j]
theorem FP{t:ax}(h: .x0 t): .cV .x4:=by obtain⟨_,h2,h3⟩:=qK h;exact cY (tu (la h2).2) (.gA h3)
theorem HR{ps: .bI}{q:ft}(h:o6 ps=some q):xR q:=by
 by_cases R:2< .aV
 ·rw[3,HQ R]
 ·cases N:ps.all fy with
  |false=>rw[3,HN (by omega) N]
  |true=>
   rcases ps with _|⟨a,r⟩
   ·cases h
   ·rw[135,HP (by omega) N]
    ·cases h
    ·rename_i F;cases h;rw[kT,bU]at N;refine Rh (FP N.1) ?_ F;rcases r with _|⟨b,_|⟨c,r⟩⟩
     ·show 1<10^100;decide
     ·rw[kT,bU]at N;exact FP N.2.1
     ·show 1<10^100;decide
theorem NX{x:ax}{q:ft}(h:fractionText x=some q):xR q:=by
 rw[135,E8]
 ·obtain⟨p,hp,rfl⟩:=j9.mp h;rw[B6]at hp;have:=HR hp;exact⟨by show(-p.num).natAbs<_;rw[pU];exact this.1,this.2⟩
 ·rw[41,B6,HR h]
def xS(x:Instr):Prop:=∀q wt,x= .fc->xR q
theorem Yq{A:Type}{e:Nat}{f: .fd ax A}{ts s:Toks}{a:A}(h: .ir f ts= .cg a s):∃x,f x=some a:=by
 cases ts with
 |nil=>cases h
 |cons x r=>
  cases D:f x.1 with
  |none=>rw[3,ng D]
  |some b=>rw[210,nj D,⟨x.1,D⟩]
theorem OX{e:Nat}{x:ax}{p:Nat}{r s:Toks}{i:Instr}(h: .iq x p= .cg i s):xS i:=by
 rcases Ki x with⟨h1,h2⟩|U|U|⟨f,h1,h2,h3,h4,h5,j,m,R,F⟩|⟨y,h1,h2,h3,h4,h5,j,m,R,F⟩
 ·rw[115]
 ·rw[U,FH]at h;obtain⟨⟨⟨q,wt⟩,s'⟩,h1,h2⟩:=lz h;cases h2;unfold uH at h1
  cases h3:take e fractionText r with
  |error q=>rw[122,h3]
  |ok y=>obtain⟨t,B⟩:=y;rw[h3]at h1;dsimp only at h1;obtain⟨⟨n,C⟩,h4,h5⟩:=lz h1;cases h5;obtain⟨z,hz⟩:=Yq h3;intro L a D;cases D;exact NX hz
 ·rw[U,FI]at h;obtain⟨⟨k,s'⟩,h1,h2⟩:=lz h;cases h2;intro q wt z;cases z
 ·rw[h5]at h;obtain⟨⟨k,s'⟩,c,b⟩:=lz h;cases b;intro q wt z;rw[5,z,R k q wt]
 ·rw[3,h5];intro q wt z;rw[5,z,R q wt]
theorem FL{e:Nat}:∀{n k:Nat} {ts v:Toks} {l: .dk},.tk n k ts= .cg l v->∀x∈l,xS x
 |0,_,ts,v,l,h=>by cases h;intro x W;cases W
 |n+1,k,[],v,l,h=>by cases h;intro x W;cases W
 |n+1,k,y::r,v,l,h=>by
  rw[135,mD]
  ·cases h;rw[280]
  ·split at h
   ·cases h
   ·cases hi:instr e y.1 y.2 r with
    |error q=>rw[3,hi]
    |ok z=>
     obtain⟨i,s⟩:=z
     rw[73,hi]
     cases h2:instrs e n (k-1) s with
     |error q=>rw[115]
     |ok z=>
      obtain⟨l',u⟩:=z
      rw[115]
      rw[279]
      ·exact OX hi
      ·exact FL h2 x W
theorem Ep{e k:Nat}{first:Bool}{ts v:Toks}{b:Block}(h:fK e first k ts= .cg b v):∀x∈b.code,xS x:=by
 unfold fK at h
 cases ts with
 |nil=>cases h
 |cons x r=>
  rw[278]
  ·cases h
  ·cases h1:take e Vaunih.keptText r with
   |error q=>rw[3,h1]
   |ok y=>
    obtain⟨kept,s⟩:=y;rw[73,h1]
    cases h2:take e (Vaunih.selfText first) s with
    |error q=>rw[115]
    |ok z=>
     obtain⟨self,u⟩:=z;rw[73,h2]
     cases h3:fx e 300 u with
     |error q=>rw[3,h3]
     |ok a=>obtain⟨l,p⟩:=a;rw[210,h3,FL h3]
theorem En{e:Nat}:∀{n k:Nat} {ts:Toks} {c: .nY},.K ts n->kh e k ts= .ok c->∀b∈c,∀x∈b.code,xS x
 |0,k,ts,c,G,h=>by
  cases vF.mp (zr.mp G)
  rw[3,El]
  intro b S
  cases S
 |n+1,k,[],c,_,h=>by
  rw[3,El]
  intro b S
  cases S
 |n+1,k,x::r,c,G,h=>by
  cases h1:fK e false k (x::r)with
  |error q=>rw[3,Ek _ _ h1]
  |ok y=>
   obtain⟨b,v⟩:=y
   rw[Em _ _ h1]at h
   obtain⟨V,h2,rfl⟩:=lz h
   have R:=sZ h1
   intro j m
   rcases bu.mp m with rfl|m
   ·exact Ep h1
   ·exact En (n:=n) (by omega) h2 j m
theorem Ve{t:ax}{c: .nY}(h:Vaunih.readCode t= .ok c):su c:=by
 rw[135,IJ]
 ·cases h
 ·cases h1:fK t.length true 60 (Vaunih.tokensFrom 0 [] t)with
  |error q=>rw[3,h1]
  |ok y=>
   obtain⟨b,v⟩:=y;rw[73,h1];obtain⟨V,h2,rfl⟩:=lz h;intro j m x W q wt e;rcases bu.mp m with rfl|m
   ·exact Ep h1 x W q wt e
   ·exact En .y h2 j m x W q wt e
end
def iy(ns at_:L2.V): .lG:=aO "at" at_ (aO "numbers" ns [])
section
variable{a b v:L2.V}
theorem kQ: .O (iy a b) ("numbers":Str) a:=by kernel_rfl
theorem pO: .EZ (iy a b) b:=by kernel_rfl
theorem iZ{m:Str}(h:m∈(["are_over","take_number","take_text"]: .H)): .cy (iy a b) m:=by simp only[bu,vH,xw]at h;rcases h with rfl|rfl|rfl<;>kernel_rfl
theorem Iv:aO "at" v (iy a b)=iy a v:=by kernel_rfl
theorem Cr:(iy a b).length=2:=by kernel_rfl
end
theorem ay.jo{H H':Hp}{a:Addr}{xs: .N}(h: .fh)(s: .R):ay K H' a xs:=by
 rcases h with(h|⟨o,h⟩)|h
 ·rw[14,.inl (s _ _ h)]
 ·rw[14,.inr ⟨o,s _ _ h⟩]
 ·rw[8,h]
theorem ay.but{H H':Hp}{a r C G:Addr}{xs: .N}{fs: .lG}(h: .fh)(M:H r= .hY fs)(s: .ia):ay K H' a xs:=by
 rcases h with(h|⟨o,h⟩)|h
 ·rw[14,.inl (s _ _ h (.al h M))]
 ·rw[14,.inr ⟨o,s _ _ h (.al h M)⟩]
 ·rw[8,h]
structure jw(T: .b)(H:Hp)(ca nl:Addr)(xs: .am)(j:Nat):Prop where
 obj:∃dc,H ca= .bX .uR dc (iy (.ref nl) (.a5 j))
 lst:ay K H nl (.rA xs)
 le:j<= .r
 bZ: .r<=10000000
theorem jw.same{T: .b}{H H':Hp}{ca nl:Addr}{xs: .am}{j:Nat}(h: .kD H j)(s: .R): .kD H' j:=⟨.HD h (s _ _ z),ay.jo .eD s,h.le,h.bZ⟩
def VY(T: .b):Sp:=λvs H Q _=>∃(ca nl:Addr) (xs: .am) (j:Nat),vs=(.c3 ca)/\ .kD H j/\ .cx (.a9 j .r)
theorem RI(T: .b): .t9 T.uq.f T.uq.fd (VY T):=by refine T.uq.F.az ["self"] .f;obtain⟨ca,nl,xs,j,rfl,N,q⟩:=h;rw[340,.hr];rw[0,⟨.ax (.ji .i .i7)⟩,⟨.cI,.ss,cl,.HC T,pO,.cI,.ss,cl,.HB T,kQ,nl,.ln N.lst,Y,?_⟩];rw[bh];rw[128,.t8 (j:Nat) (.r:Nat),.a9 j .r,.oI ⟨.qy (by injection h with h;omega) .Ak⟩,e,q]
def W9(T: .b):Sp:=λvs H Q _=>∃(ca nl:Addr) (xs: .am) (j:Nat) (z:Int),vs=(.c3 ca)/\ .kD H j/\xs[j]? =some z/\∀H',.cj ca-> .kD H' (j+1)->Q (.int z) H'
theorem mP(T: .b): .t9 T.jf.f T.jf.fd (W9 T):=by
 refine T.jf.F.az ["self","number"] .f;obtain⟨ca,nl,xs,j,z,rfl,N,hz,q⟩:=h;rw[340,.hr];have na:=.HC T;have D:=.dD hz;rw[6,⟨.eX (.nk .i) (.bC (.pX aq qJ) .e)⟩,⟨.cI,.ss,cl,.HB T,kQ,.cI,.ss,cl,na,pO,nl,_,.o,N.lst,bG (.EW hz),?_⟩,⟨.cI,.ss,cl,na,pO,.o,G,_,h1,.gN Cr⟩];rw[9,Iv,bc .jW];rw[130,.fT+1,.lr j]
 rw[e]at k;exact⟨_,Y,q X w2 ⟨⟨G,k⟩,ay.but N.lst h1 w2,D,N.bZ⟩⟩
def gJ(t:ax): .am:=.nl t (.m .bi)
def W_(T: .b):Sp:=λvs H Q _=>∃(ca nl:Addr) (xs: .am) (j:Nat) (t:ax) (r: .am),vs=(.c3 ca)/\ .kD H j/\ .hs= .ms::(gJ t++r)/\ .gM/\∀H',.cj ca-> .kD H' (j+1+ .C)-> .eS (j+1+ .C)=r-> .dL .eu
theorem A5(T: .b): .gI T.oN.f T.oN.fd ["self"] (W_ T):=by
 refine T.oN.F.az ["self","length","row"] .f;obtain⟨ca,nl,xs,j,t,r,rfl,N,hd,R,q⟩:=h;rw[340,.hr];have na:=.HC T;obtain⟨hz,i,F⟩:=jI hd;rw[0,⟨.sW (.pg cl T.jf (mP T)) 2 nd (o_ Jj .i (mY .i) (mY (.lm c9 .e))) (.bC (.pX .e qJ) (.ce T.ub (SX T) M W 2))⟩,⟨.cI,.bF,h1,iZ (by decide),ca,nl,xs,j,_,Y,N,hz,λX w2 f=> ?_⟩];obtain⟨d2,h2⟩:=f.obj;refine⟨.cI,_,d2,.iA,cl,.HB T,kQ,.cI,_,d2,.iA,cl,na,pO,.j,ca,_,d2,.iA,cl,na,pO,.i9,nl,_,Y,f.lst,λu x=> ?_⟩
 have m:fU (.rA xs) (.qf (j+1)) (some ((.lr j)+ .ms))=(.gQ t).map λn=>L2.V.int (n:Nat):=by
  have s:(.C:Nat)<=(.eS (j+1)).length:=by rw[i,bL];unfold gJ;rw[bh];omega
  rw[kU]at s;rw[195,(.lr j)+ .ms=(.m (j+1+ .C)),by omega,e];rw[HT.ph,HT.ph,bh,.sH,.sH,Nat.add_sub_cancel_left,<-List.map_drop,<-List.map_take,i,List.take_left' (by unfold gJ;rw[bh])];unfold gJ;rw[24,fo,fo]
 rw[9,m,cJ x λV C y=> ?_];have g:=.pH f;obtain⟨d3,h3⟩:=g.obj;rw[82,⟨.cI,_,d3,.h,h3,cl,na,pO,.b2,d3,_,h3,.gN Cr⟩,Iv,λA L B=> ?_];rw[130,(.lr j)+ .ms,.m (j+1+ .C)]
 rw[e]at B;refine⟨_,Y,u,.gQ t,Y,L _ _ y (.al y h3),by rw[bh];exact R,λk p=> ?_⟩;have d: .eS (j+1+ .C)=r:=by rw[<-List.drop_drop,i];exact List.drop_left' (by unfold gJ;rw[bh])
 have l:j+1+ .C<= .r:=by
  have:(.C:Nat)<=(.eS (j+1)).length:=by rw[i,bL];unfold gJ;rw[bh];omega
  rw[kU]at this;omega
 have o: .kD A (j+1+ .C):=⟨⟨d3,B⟩,ay.but g.lst h3 L,l,N.bZ⟩;rw[292,(.qi ((.gQ t).map sgn):Str)= .bG,by unfold stx eH;rw[fo];rfl,D,q k (((w2.gC C).trans L).gC p) (o.same p) d]
section
open Vaunih (Machine State codeFault)
def gm(bl ck rn:L2.V): .lG:=aO "run" rn (.G8 ck (.tJ bl []))
section
variable{bl ck rn v a b:L2.V}
theorem lK: .FI .mt bl:=by kernel_rfl
theorem CJ: .O .mt ("checked":Str) ck:=by kernel_rfl
theorem eW: .O .mt ("run":Str) rn:=by kernel_rfl
theorem UI: .tJ v .mt=gm v ck rn:=by kernel_rfl
theorem UJ: .G8 v .mt=gm bl v rn:=by kernel_rfl
theorem IB:aO "run" v .mt=gm bl ck v:=by kernel_rfl
theorem vq:(.mt).length=3:=by kernel_rfl
theorem As{C G:Addr}: .nm C G .mt= .a:=by kernel_rfl
theorem OE{C G:Addr}: .nm C G (iy a b)= .a:=by kernel_rfl
theorem lq{C g d d':Addr}{fs c: .lG}{x:Str}(h1: .c (.q8 fs x))(h2: .cy c x):HO.ins C d fs≠HO.ins g d' c:=λz=>by injection z with _ _ z;rw[z,h2]at h1;cases h1
theorem zI{c d e f g h:L2.V}: .cy (cw a b c d e f g h) ("numbers":Str):=by kernel_rfl
theorem vr: .cy .mt ("numbers":Str):=by kernel_rfl
theorem DQ{c d e f g h:L2.V}: .cy (cw a b c d e f g h) ("checked":Str):=by kernel_rfl
end
theorem fq.keep{T: .b}{L: .g}{H H':Hp}{r R:Addr}{c:aX}{g:Machine}{n:Nat}{bl:L2.V}(h: .fZ H n)(k:Kp L H H')(h1:∀o,H r= .l->H' r= .l)(h2:∀o,H R= .l->H' R= .l): .fZ H' n:=by obtain⟨⟨⟨y,s,oc,p,rs,a1,a2,a3⟩,a4⟩,b1,⟨ms,b2,f,i⟩,l,d,S,e⟩:=h;exact⟨⟨⟨y,s,oc,p,rs,h1 _ a1,a2.same k,a3.same k⟩,a4.same k⟩,b1,⟨ms,h2 _ b2,f,λj v D=>(i j v D).kp k⟩,l,d,S,e⟩
def vk(T: .b)(L: .g)(H:Hp)(bl:L2.V)(ck:Bool): .ap (.mh aX Bool)
 |none=>bl= .au
 |some (c,k)=>.nB/\su c/\ck=k/\(.c k-> .mj=none)
structure DR(T: .b)(F:Hp)(L: .g)(H:Hp)(st:State)(bl:L2.V)(r:Vaunih.Run)(ra ml:Addr)(c:aX)(k:Bool):Prop where
 code:st.code= .ar c k
 at_:fq T L H ra ml c r.begun r.done bl
 now:r.now= .bj r.begun r.done
 bZ:eT (Vaunih.longest c) r.begun+1<=Vaunih.enough c r.begun.calls
 f1:F ra=none
 f2:F ml=none
def v5(T: .b)(F:Hp)(L: .g)(H:Hp)(st:State)(bl rn:L2.V): .ap (Option Vaunih.Run)
 |none=>rn= .au
 |some r=>∃f R c k,rn= .ai/\DR T F L H st bl r f R c k
structure rT(T: .b)(F H:Hp)(hd:Addr)(st:State)(L: .g)(bl rn:L2.V)(ck:Bool)(dh:Addr):Prop where
 obj:H hd= .CP T dh (gm bl (.bl ck) rn)
 live: .sY a
 code:vk T L H bl ck st.code
 run:v5 T F L H st bl rn st.run
 sF: .dh H
 f:F hd=none
 lf:∀a∈L,F a=none/\∃xs,H a= .cu
def dA(T: .b)(F H:Hp)(hd:Addr)(st:State):Prop:=∃L bl rn ck dh,rT T F H hd st L bl rn ck dh
section
variable{T: .b}{F H H':Hp}{hd:Addr}{st:State}{L: .g}{bl rn:L2.V}{ck:Bool}{dh:Addr}
theorem vk.kp{c: .mh aX Bool}(h:vk T L H bl ck c)(k:Kp L H H'):vk T L H' bl ck c:=by
 cases c with
 |none=>exact h
 |some x=>exact⟨h.1.same k,h.2⟩
theorem rT.same(h:rT T F H hd st L bl rn ck dh)(s: .R):rT T F H' hd st L bl rn ck dh:=by
 refine⟨s _ _ h.obj,wW h.live s,h.code.kp s.kp,?_,h.sF.trans s,h.f,λa N=>⟨(h.lf a N).1,.zj (h.lf a N).2 (s _ _ z)⟩⟩;rw[182,h]
 cases r with
 |none=>exact M
 |some r=>obtain⟨f,R,c,k,e,x⟩:=M;exact⟨f,R,c,k,e,.ly,x.at_.keep s.kp (λo=>s _ o) (λo=>s _ o),x.now,x.bZ,x.f1,x.f2⟩
theorem dA.same(h: .j5 H)(s: .R): .j5 H':=by obtain⟨L,bl,rn,ck,dh,x⟩:=h;exact⟨L,bl,rn,ck,dh,.df x⟩
theorem dA.js{ca G:Addr}{a b:L2.V}(h: .j5 H)(B:H ca= .bW .uR (iy a b))(i:F ca=none)(t: .cj ca)(E:H' ca≠none): .j5 H':=by
 obtain⟨L,bl,rn,ck,dh,x⟩:=h;rw[43,L,H',.Hw B OE];have m:hd≠ca:=bx .bE B (.uH kQ vr .c5);refine⟨L,bl,rn,ck,dh,t _ _ .bE m,λy g z=> ?_,.CO x,?_,λb o S=>t _ _ (.hq S) (aN S i),.CD ⟨.uG N,.CE N (t _ _ z (.Hx z B))⟩⟩
 ·rw[17,y,ca]
  ·rw[e]at z;exact E z
  ·cases n:H y with
   |none=>exact x.live y g n
   |some o=>rw[22,t _ _ n e]
 ·rw[182,x]
  cases r with
  |none=>exact M
  |some r=>rw[338,y.at_];obtain⟨⟨⟨q,s,oc,p,rs,a1,_⟩,_⟩,_,⟨ms,b2,_⟩,_⟩:=id l;rw[337,f≠ca,bx a1 B (.uH kQ zI .c5),R≠ca,.al b2 B,⟨f,R,c,k,e,.pc,l.keep kp (.hJ A) (.hJ j),.yi y,y.f1,y.f2⟩]
theorem dA.fix{ca G:Addr}{a b:L2.V}(h: .j5 H)(B:H ca= .bW .uR (iy a b)):dA T (.eL F ca .uR G (iy a b)) H hd st:=by
 obtain⟨L,bl,rn,ck,dh,x⟩:=h;have m:hd≠ca:=bx .bE B (.uH kQ vr .c5);refine⟨L,bl,rn,ck,dh,.bE,x.live,.ly,?_,.Gb,.bp m x.f,λa N=>⟨by obtain⟨_,z⟩:=.vX N;rw[aC (.Hx z B)];exact .uG N,.vX N⟩⟩
 ·rw[182,x]
  cases r with
  |none=>exact M
  |some r=>rw[338,y.at_];obtain⟨⟨⟨d,s,oc,p,rs,a1,_⟩,_⟩,_,⟨ms,b2,_⟩,_⟩:=id l;rw[337,f≠ca,bx a1 B (.uH kQ zI .c5),R≠ca,.al b2 B,⟨f,R,c,k,e,.pc,l,.yi y,.bp A y.f1,.bp j y.f2⟩]
 ·rw[17,b,ca]
  ·subst e;rw[212,aB];exact B
  ·rw[142,aC e,.hq S]
theorem v5.mono{p:Hp}{r:Option Vaunih.Run}(h:v5 T F L H st bl rn r)(m:∀x,F x=none->p x=none):v5 T p L H st bl rn r:=by
 cases r with
 |none=>exact h
 |some r=>obtain⟨f,R,c,k,e,y⟩:=h;exact⟨f,R,c,k,e,.pc,y.at_,.yi y,m _ y.f1,m _ y.f2⟩
theorem dA.Ke{ca:Addr}{o:HO}(h:dA T (upd F ca o) H hd st)(i:F ca=none): .j5 H:=by
 obtain⟨L,bl,rn,ck,dh,x⟩:=h
 have m:∀x,upd F ca o x=none->F x=none:=λx W=>by
  rw[17,x,ca]
  ·rw[55,i]
  ·rw[aC e]at W;exact W
 exact⟨L,bl,rn,ck,dh,.bE,x.live,.ly,x.run.mono m,λb o' S=>.hq (.dS S i S),m _ x.f,λa N=>⟨m _ (.uG N),.vX N⟩⟩
theorem dA.kept{ca:Addr}{o:HO}(h:dA T (upd F ca o) H hd st):H ca= .l:=by obtain⟨L,bl,rn,ck,dh,x⟩:=h;exact .hq aB
end
theorem dA.nl{T: .b}{F H:Hp}{hd l:Addr}{st:State}(h: .j5 H)(z:H l=none):F l=none:=by obtain⟨L,bl,rn,ck,dh,x⟩:=h;exact fW x.sF z
structure MC(T: .b)(F H:Hp)(hd ca nl:Addr)(xs: .am)(j:Nat)(st:State):Prop where
 m: .j5 H
 c: .kD H j
 f:F ca=none
 l:ay K F nl (.rA xs)
theorem MC.js{T: .b}{F H H':Hp}{hd ca nl:Addr}{xs: .am}{j f:Nat}{st:State}(h: .kC F H j)(t: .cj ca)(c: .kD H' f): .kC F H' f:=by obtain⟨G,B⟩:=h.c.obj;obtain⟨d,E⟩:=c.obj;exact⟨h.m.js B h.f t (by rw[E];intro z;cases z),c,h.f,h.l⟩
theorem MC.done{T: .b}{F H H':Hp}{hd ca nl G:Addr}{xs: .am}{j:Nat}{st M:State}(h: .kC F H j)(m:dA T (.eL F ca .uR G (iy (.ref nl) (.a5 j))) H' hd M):MC T F H' hd ca nl xs j M:=by obtain⟨L,bl,rn,ck,dh,x⟩:=id (m.Ke h.f);exact⟨m.Ke h.f,⟨⟨G,m.kept⟩,ay.jo h.l x.sF,h.c.le,h.c.bZ⟩,h.f,h.l⟩
def DT(T: .b)(F:Hp)(hd:Addr)(M:State)(c: .am)(Q:VK):Prop:=∀H' l,F l=none->dA T F H' hd M-> .c2= .ip c-> .dI
end
section
open Vaunih (Machine State codeFault readCode loading)
theorem ah.ex{ι:Type}{CX:fG}{k:Nat}{f:Addr}{fd:FuncData}{ps: .H}{sp:ι->Sp}(F:∀i,.J P w K CX k f fd ps (sp i)): .J P w K CX k f fd ps (λvs H Q E=>∃i,sp i vs H Q E):=⟨λvs H Q E ⟨i,h⟩=>(F i).len vs H Q E h,λA outer s H args us vs Q E M e b r ⟨i,h⟩=>(F i).run A .a0 s H args us vs Q E M e b r h⟩
theorem Qq{T: .b}{H m:Hp}{L: .g}{c:aX}{v:L2.V}(W:∀a∈L,H a=none/\m a≠none)(h: .fJ (aD L m) v):∃d,(∀a∈d,H a=none/\∃xs,m a= .cu)/\ .fJ (aD d m) v:=by
 refine⟨L.filter λa=>match m a with|some (.lst _)=>true|_=>.a,.xi,h.same .Gb⟩
 ·rw[93,pY.mp N,⟨(W a h1).1,?_⟩];split at h2
  ·rename_i xs e;exact⟨xs,e⟩
  ·cases h2
 ·rw[93,jL S,lj h1 ?_]
  cases hi:dm o with
  |true=>rfl
  |false=>
   rw[hi]at h2
   cases o with
   |lst xs=>have j:b∈L:=bQ h2;rw[19,.wN pY ⟨j,by rw[h1]⟩]
   |_=>cases h2
def Wv(T: .b):Sp:=λvs H Q _=>∃(hd:Addr) (i:Bool) (t:ax) (F:Hp) (st:State),vs=[.ref hd,.bl i,.eu]/\ .j5 H/\ .gM/\(∀a,.uQ i= .error a->DT T F hd st a Q)/\(∀c,.uQ i= .ok c->DT T F hd {code:=.ar c i} [0] Q)
theorem Pg{c:Bool}{t u:TE}{σ:L2.St}{H:Hp}{k:VK}{R: .AZ}(h1: .c c->∀U:VK,(∀v H',R v H'->U v H')-> .gc U)(h2:c= .a->∀U:VK,(∀v H',R v H'->U v H')->u σ H U)(g:∀v H',R v H'->k v H'): .k4 (.gc k) (u σ H k):=by
 cases c with
 |true=>exact h1 Y k g
 |false=>exact h2 Y k g
theorem Hw(T: .b)(u:base.NoSeer)(hP: .aj=none): .J P w K .x 45 T.qB.f T.qB.fd ["held","checked","text"] (Wv T):=by
 refine T.qB.F.az ["held","checked","text","blocks","wrong","fault"] .f;obtain⟨hd,ck,t,F,st,rfl,hm,hl,qe,qo⟩:=h;rw[91,T];refine⟨_,.eo (Ip (i:=4) (tb:= ?tb) (ts:= ?ts) Y rfl rfl nd Y rfl rfl T.c_.g ?S ?hs) 5 nd (hA (eJ .e) (.ce T.tD (.kB (RF T L)) M.m W 3) f7) (.zB (.dd (gz (uP (pv 5))) (.uL mR aq (.As MG .A3 (.im "list" (.fI "list")) 5))) .a3 (.gC .e f7 (.dz (.hV aq)))),?main⟩
 case S=>
  intro pn xe E hx' hpo;refine .CF 3 nd (.ce T.tX (Sw T u hP) M hx' 2)
  try dsimp only[Cx.gS]
  exact rfl
 case hs=>
  rw[234,bF (bj aq (HX .aF Y)),rfl]
 refine⟨_,Y,t,Y,hl,?_⟩
 cases hrc:readCode t with
 |error p=>
  have el: .uQ ck= .error [1,(p:Int)]:=by unfold loading;rw[hrc]
  dsimp only;rintro cls G m U ⟨rfl,d,rfl,hd1⟩;rw[6,⟨T.c_.ca,λea hea=> ?_⟩,cJ hea λX B k2=> ?_,⟨_,Y,ea,_,d,.cS,k2,B _ _ hd1,T.c_.at_,Y,.c8⟩];generalize r:upd X l _=V;rw[238,r,s];exact qe _ el V l ((.pI hm U B).nl s) (.CL hm U B C) D
 |ok c=>
  have hnum:=Ve hrc;dsimp only;intro m bl L U hL I;obtain⟨L,hL,I⟩:=Qq hL I;obtain⟨_,_,_,_,_,x0⟩:=id hm;have hm1:=.k5 hm;have live:∀a∈L,m a≠none:=λa N z=>(by obtain⟨_,y⟩:=(hL a N).2;rw[y]at z;cases z);have el: .uQ ck=(match (if ck=true then codeFault c else none)with|some (b,i,k)=>.error [2,(b:Int),.er,.bq]|none=>.ok c):=by unfold loading;rw[hrc];rfl
  refine⟨.j,Pg (R:=λv X=>ae m X/\((v= .au/\(.c ck-> .mj=none))∨∃i j k a,.c ck/\v= .B/\ .mj=some (i,j,k)/\X a= .aE [.a5 i,.a5 j,.a5 k])) (λz k' g=>⟨_,Y,L,_,c,Y,I,live,λX i j k a B e N=>g _ _ ⟨B,.inr ⟨i,j,k,a,z,Y,e,N⟩⟩,λX B e=>g _ _ ⟨B,.inl ⟨Y,λ_=>e⟩⟩⟩) (λz k' g=>g _ _ ⟨ae.refl m,.inl ⟨Y,λz'=>(by rw[z]at z';cases z')⟩⟩) (λfv X hc2=> ?_)⟩
  ·obtain⟨B,hc2⟩:=hc2;have f:=hm1.same B;rcases hc2 with⟨rfl,aw⟩|⟨i,j,k,a,hck,rfl,e,N⟩
   ·refine⟨.j,.jM⟩
    have eok: .uQ ck= .ok c:=by
     rw[el]
     cases ck with
     |false=>rfl
     |true=>rw[af Y,aw rfl]
    obtain⟨L0,bl0,rn0,ck0,dh,x⟩:=f;rw[111,⟨.j,hd,_,dh,_,Y,.bE,cl,.CH T,.gN vq⟩,UI,bc λV w3 D=> ?_,⟨.j,hd,_,dh,_,Y,D,cl,T.held.n "checked",.gN vq⟩];rw[266,UJ,bc λq w4 k4=> ?_,⟨_,Y,hd,_,dh,_,Y,k4,cl,.mr T,.gN vq⟩,IB,bc λH5 w5 k5=> ?_,⟨.c8⟩];generalize eH6:upd H5 l _=H6;obtain⟨s6,k6⟩:=bH eH6 s;have w25:SameBut hd X H5:=.b0 w3 w4 w5;have kp:Kp L X H5:=w25.kp .bE (by rw[As];rfl)
    have hm5:dA T F H5 hd {code:=.ar c ck}:=by
     refine⟨L,.ref bl,.au,ck,dh,k5,.yf,⟨.aZ (I.same B.kp),hnum,Y,aw⟩,Y,λb o S=>w25 _ _ (.hq S) (aN S x.f),.CD ⟨fW x0.sF (hL a N).1,.zj (hL a N).2 (w25 _ _ (B _ _ z) (.Hx (B _ _ z) .bE))⟩⟩;rw[17,a,hd]
     ·rw[327,e,k5]
     ·cases n:m a with
      |none=>exact live a N n
      |some o=>rw[22,w25 _ _ (B _ _ n) e]
    exact qo c eok H6 l (hm5.nl s) (hm5.same s6) k6
   ·subst hck;have eer: .uQ true= .error [2,.er,.fT,.bq]:=by rw[el,af Y,e]
    refine⟨.j,aR ⟨aY,.CK⟩⟩;generalize r:upd X l1 _=V;rw[238,r,hl1];refine⟨_,Y,a,.lv (C _ _ N),λl2 hl2=> ?_⟩;generalize eH4:upd V l2 _=q;obtain⟨s4,k4⟩:=bH eH4 hl2;rw[35,⟨l1,l2,.o,s4 _ _ D,k4,aY,λl3 hl3=> ?_⟩,cJ hl3 λH5 s5 k5=> ?_,qe _ eer H5 l3 ((.pI f C s4).nl hl3) (.CL f C s4 s5) k5]
end
section
open Vaunih (Machine State codeFault readCode loading)
def zS:gn-> .am
 | .load k t=>k:: .ms::gJ t
 | .check t=>.ms::gJ t
 | .heights b=>[b]
 | .begin n t=>n:: .ms::gJ t
 | .step n=>[n]
 | .back n=>[n]
 | .look i=>[i]
 |_=>[]
def sG(T: .b)(F:Hp)(hd ca nl:Addr)(xs: .am)(st:State)(c:gn)(r: .am)(Q:VK):Prop:=∀H' l f,F l=none->MC T F H' hd ca nl xs f (.bb c).1-> .eS f=r-> .c2= .ip (.rB c)-> .dI
def iW(T: .b)(p: .ap gn):Sp:=λvs H Q _=>∃(hd ca nl:Addr) (F:Hp) (xs: .am) (j:Nat) (st:State) (c:gn) (r: .am),vs=(.f4 hd (.ref ca))/\p c/\ .kC F H j/\ .hs=zS c++r/\sG T F hd ca nl xs st c r Q
theorem sG.qU{T: .b}{F:Hp}{hd ca nl:Addr}{xs: .am}{st M:State}{c:gn}{r: .am}{Q:VK}{a: .am}(h:sG T F hd ca nl xs st c r Q)(e: .bb c=(M,a)):∀{H':Hp} {l:Addr} {f:Nat},F l=none->MC T F H' hd ca nl xs f M-> .eS f=r-> .c2= .ip a-> .dI:=λ{H' l f} n m d k=>h H' l f n (.Bo m) d (.Bo k)
theorem MC.same{T: .b}{F H H':Hp}{hd ca nl:Addr}{xs: .am}{j:Nat}{st:State}(h: .kC F H j)(s: .R): .kC F H' j:=⟨h.m.same s,h.c.same s,h.f,h.l⟩
theorem sG.of{T: .b}{F:Hp}{hd ca nl:Addr}{xs: .am}{st M:State}{c:gn}{r: .am}{Q:VK}{a: .am}(h:sG T F hd ca nl xs st c r Q)(e: .bb c=(M,a)){H H':Hp}{l:Addr}{f:Nat}(m:MC T F H hd ca nl xs f M)(n:H l=none)(s: .R)(d: .eS f=r)(k: .c2= .ip a): .dI:=h.qU e (m.m.nl n) (.df m) d k
theorem J6{F:Hp}{x l:Addr}{o:HO}(h:upd F x o l=none):F l=none:=by
 rw[17,l,x]
 ·rw[e,aB]at h;cases h
 ·rw[41,aC e,h]
def O8(c:gn):Prop:=∃k t,c= .load k t/\ .gM
theorem OJ{k:Int}:(! .tt (.int k) (.jQ .aX 1))=decide (k≠0/\k≠1):=by
 rw[25,! ((0==k)||((1==k)|| .a)),j3];simp;constructor
 ·rintro⟨a,b⟩;exact⟨λz=>a .c5,λz=>b .c5⟩
 ·rintro⟨a,b⟩;exact⟨λz=>a .c5,λz=>b .c5⟩
theorem Si(T: .b)(u:base.NoSeer)(I: .aj=none): .J P w K .x 46 T.mh.f T.mh.fd ["held","calls"] (iW T O8):=by
 refine T.mh.F.az ["held","calls","checked","text"] .f;obtain⟨hd,ca,nl,F,xs,j,st,c,r,rfl,⟨k,t,rfl,R⟩,mc,d,q⟩:=h;have ccl:=.hr;rw[335,show .hs=k::((.ms::gJ t)++r)from d,⟨.dZ (.gT ccl T.jf (mP T)) (.en (.gT ccl T.oN (A5 T)) (.bC (.CG (aU HG .p (dE (bj aq aq)) Y) (-1)) (.nt T.qB (Hw T u I) M W (.ji .p aq) .a3)))⟩,⟨.cI,dc,.rv,j,k,Y,.ru,.uK⟩];have o:=.uJ C;obtain⟨x,h2⟩:=C.obj;refine⟨.cI,x,_,Y,h2,iZ (by decide),ca,nl,xs,j+1,t,r,Y,C,i,R,λV G L f=> ?_⟩;have b:=o.js G L;refine⟨_,Y,aY,λy ht4=> ?_⟩;generalize N:upd V y _=H4;obtain⟨A,B⟩:=bH N ht4;have v:=b.same A;obtain⟨S,h4⟩:=v.c.obj;rw[44,⟨y,.lv B,Y,.aJ⟩];refine .uP OJ
 ·refine⟨.c8⟩;generalize U:upd H4 l _=H5;rw[92,U,s];have es: .bb (.load k t)=(st,[-1]):=af (bQ z);exact .nn v s p f g
 ·refine⟨.j,.aJ⟩;have es: .bb (.load k t)=(match loading (k==1) t with| .error a=>(st,a)| .ok c=>({code:=.ar c (k==1)},[0])):=.oH z;have e1: .t8 k 1=(k==1):=Ai;rw[9,e1,⟨hd,k==1,t,_,st,Y,v.m.fix h4,R,λa e H' l n m s=> ?_,λc e H' l n m s=> ?_⟩]
  ·rw[107,e,q.qU es (J6 n) (v.done m) f s]
  ·rw[107,e,q.qU es (J6 n) (v.done m) f s]
def O2(c:gn):Prop:=∃t,c= .check t/\ .gM
theorem dA.other{T: .b}{F H H':Hp}{hd:Addr}{st:State}{x C G:Addr}{m u E:L2.V}(h: .j5 H)(W:H x= .hY (gm m u E))(g:hd≠x)(B:F x=none)(t: .cj x)(I: .b4≠none): .j5 H':=by
 obtain⟨L,bl,D,i,v,y⟩:=h;rw[109,L,H',.Hw W As,⟨L,bl,D,i,v,t _ _ y.obj g,.yf,.CO y,?_,λb o S=>t _ _ (y.sF _ _ S) (aN S B),y.f,λa N=>⟨(y.lf a N).1,.zj (y.lf a N).2 (t _ _ z (.Hk z W))⟩⟩]
 ·rw[17,a,x]
  ·rw[e]at z;exact I z
  ·cases n:H a with
   |none=>exact y.live a N n
   |some o=>rw[22,t _ _ n e]
 ·rw[182,y]
  cases r with
  |none=>exact M
  |some r=>rw[338,y.at_];obtain⟨⟨⟨Q,s,oc,p,rs,a1,_⟩,_⟩,_,⟨ms,b2,_⟩,_⟩:=id l;rw[337,f≠x,bx a1 W λz=>lq (x:="checked") (by rw[CJ];rfl) DQ .c5,R≠x,.al b2 W,⟨f,R,c,k,e,.pc,l.keep kp (.hJ A) (.hJ j),.yi y,y.f1,y.f2⟩]
theorem RE(T: .b)(u:base.NoSeer)(I: .aj=none): .J P w K .x 46 T.l_.f T.l_.fd ["held","calls"] (iW T O2):=by
 refine T.l_.F.az ["held","calls"] .f;obtain⟨hd,ca,nl,F,xs,j,st,c,r,rfl,⟨t,rfl,R⟩,mc,d,q⟩:=h;have ccl:=.hr;rw[0,⟨.ax (aJ T.qB (Hw T u I) M W (cG (uR T.held.iS (Hd T.held) M.m Y T.held.g T.held.F.b .nil .bn) iV (.gT ccl T.oN (A5 T))))⟩,λp dp np ndp D=>⟨p,dp,Y,.nA⟩];generalize eH1:upd (upd (upd H dp _) p _) p _=H1;obtain⟨U,hp⟩:=mK eH1 np ndp;have B:=.k5 mc;obtain⟨y,h1⟩:=B.c.obj;refine⟨.cI,y,.rv,j,t,r,Y,B.c,d,R,λX w2 C g=> ?_⟩;have mc2:=B.js w2 C;obtain⟨dc2,h2⟩:=C.obj;have hpG:H1 p= .CP T dp (gm .au (.bl .a) .au):=hp;have pca:p≠ca:=bx hpG h1 (.uH kQ vr .c5);have f:=w2 _ _ hpG pca;have A:hd≠p:=λz=>by obtain⟨L,bl,rn,i,v,x⟩:=mc.m;rw[<-z,.bE]at np;cases np
 have fp:F p=none:=by obtain⟨L,bl,rn,i,v,x⟩:=mc.m;exact fW x.sF np
 have hS:ae (del X p) X:=λb o S=>by
  rw[17,b,p]
  ·rw[239,e,Aj]
  ·rw[142,hJ e,S]
 have mp:dA T (del X p) X p {}:=⟨[],.au,.au,.a,dp,f,.Hl,Y,Y,hS,Aj,.Hl⟩;have back:∀{V:Hp} {st':State},dA T (del X p) V p st'-> .kC F V (j+1+ .C):=λ{V st'} m=>by obtain⟨L,bl,rn,i,v,x⟩:=m;have sb: .zY X V:=λb o S G=>.hq (.CQ G S);refine⟨mc2.m.other f A fp sb (by rw[.bE];intro z;cases z),⟨⟨dc2,sb _ _ h2 pca.symm⟩,?_,C.le,C.bZ⟩,mc.f,mc.l⟩;obtain⟨L0,bl0,rn0,ck0,dh0,k⟩:=mc2.m.other f A fp sb (by rw[.bE];intro z;cases z);exact ay.jo mc.l k.sF
 have nl2:∀{l:Addr},del X p l=none->F l=none:=λ{l} n=>by
  rw[17,l,p]
  ·rw[55,fp]
  ·rw[hJ e]at n;exact mc2.m.nl n
 rw[140,.bb (.check t)=(match loading true t with| .error a=>(st,a)| .ok _=>(st,[0]))];refine⟨p,true,t,_,{},Y,mp,R,λa e H' l n m s=> ?_,λc e H' l n m s=> ?_⟩
 ·rw[107,e,q.qU es (nl2 n) (back m) g s]
 ·rw[107,e,q.qU es (nl2 n) (back m) g s]
end
section
open Vaunih (Machine State Over)
theorem FX{m:Nat}:∀ws: .bI,(∀t∈ws,.C<=m)-> .K (.qm ws) (.ah*(m+1))
 |[],_=>.ab
 |[x],h=>by
  rw[100,h x (pZ _),.K x (1*(m+1))]
 |x::y::r,h=>by
  rw[97,h x .aS,FX (y::r) λt V=>.k1 t V]
  show .K (x++32:: .qm (y::r)) ((.aG (y::r))*(m+1))
  rw[113,bL,bp,Dj]
theorem Je{T: .b}{F:Hp}{c:aX}{v:L2.V}(h: .fJ F v)(G:su c):(.AL).length<=11000000:=by
 have good:=h.good G;obtain⟨l,bs,_,_,_,B,_⟩:=h;rw[163,.K (.k0 c) (.az*903),qG (.si (.AI b S)),FX (m:=202) (.k0 c) λt V=>by obtain⟨b,S,V⟩:=zi.mp V;exact(.AI b S).2 t V]
 rw[28,Jd]
theorem AU(t:ax):((bR t).cps.toList.map λn=>L2.V.int (n:Nat))= .rA (Vaunih.numbers t):=by rw[pq];unfold Vaunih.numbers;rw[fo,fo];rfl
def Pa(c:gn):Prop:=c= .show
theorem SG(T: .b)(u:base.NoSeer)(hP: .aj=none)(m:base.NoDigits): .J P w K .x 43 T.mq.f T.mq.fd ["held","calls"] (iW T Pa):=by
 rw[336,T.mq.F.az ["held","calls"] .f];cases(show c= .show from n);rw[237,.hs=r,d,T];have y:=.CH T;obtain⟨L,bl,D,i,v,x⟩:=.yg;rw[0,⟨_,.lF (.Ho (.n1 .i) (-4)) (.uL mR aq (aJ T.oz (A2 T) M.m W (ao (.gL T.tE (.kB (RG T L u hP m)) .i))))⟩,⟨.gh,y,lK,.ac⟩];have B:=.ly
 cases R:st.code with
 |none=>
  rw[317,R];rw[47,⟨.c8⟩];generalize eH5:upd H l _=H5;rw[92,eH5,s];have es: .bb .show=(st,[-4]):=.i8 (match st.code with|none=>_|some (c,_)=>_) _ R
  exact .nn mc s p t g
 |some z=>
  obtain⟨c,k⟩:=z;rw[R]at B;obtain⟨I,N,_⟩:=B;obtain⟨o,bs,rfl,_⟩:=id I;rw[18,⟨aY,.CK⟩];generalize a:upd H l1 _=H1;rw[83,a,hl1];rw[0,⟨.uO,U _ _ .bE,cl,y,lK,L,_,c,Y,I.same U.kp,N,λX s2=> ?_⟩,⟨_,Y,by rw[lD];have:=Je I N;omega,λV e C b=> ?_⟩];rw[AU]at b;refine⟨l1,e,.o,C _ _ (s2 _ _ f),b,?_,λS G=> ?_⟩
  ·have:=Je I N;rw[331,bh,bh,br,1+_]
  refine cJ G λH4 A k4=> ?_;have es: .bb .show=(st,0::Vaunih.numbers .AL):=.i8 (match st.code with|none=>_|some (c,_)=>_) _ R
  exact .nn (.CL mc U s2 C) G A t k4
def O3(c:gn):Prop:=c= .count
theorem oV{st:State}{f:dH->Vaunih.Run->State×Vaunih.Answer}(h:st.run=none):Vaunih.onRun st f=(st,[-3]):=by unfold Vaunih.onRun;rw[h];cases st.code<;>rfl
theorem oW{st:State}{f:dH->Vaunih.Run->State×Vaunih.Answer}{c:aX}{k:Bool}{r:Vaunih.Run}(h:st.run= .bL)(B:st.code= .ar c k):Vaunih.onRun st f=f c r:=by unfold Vaunih.onRun;rw[h,B]
theorem RH(T: .b): .cb T.ma.f T.ma.fd ["held","calls"] (iW T O3):=by
 rw[336,T.ma.F.az ["held","calls"] .f];cases(show c= .count from n);rw[237,.hs=r,d,T];have S:=.mr T;rw[51];obtain⟨L,bl,D,i,v,x⟩:=.yg;rw[0,⟨_,.lF .rz (bF (bj .jR .jR))⟩,⟨.gh,S,.ry⟩];have a:=x.run
 cases R:st.run with
 |none=>rw[235,R,⟨.c8⟩,U,s,.bb .count=(st,[-3]),R,mc,p,t,g]
 |some B=>rw[R]at a;obtain⟨f,e,c,k,rfl,y⟩:=a;obtain⟨⟨⟨b,o,oc,m,rs,a1,_⟩,_⟩,_⟩:=y.at_;rw[18,⟨.gh,S,eW,f,_,b,.h,a1,.A0 T,i7,.gh,S,eW,f,_,b,.h,a1,.A2 T,v8,.c8⟩];rw[375,U,s];have es: .bb .count=(st,[(B.done:Int),(B.now.calls:Int)]):=.rx R;rw[124,y.now,mc,s,p,t,g]
def W3(T: .b):Sp:=λvs H Q _=>∃(L: .g) (f:Addr) (c:aX) (m:Machine) (bl dn mk:L2.V) (n:Nat),vs=[.ai,.br]/\ .jG T L H f c m/\ .ij (H l=none-> .c2= .ip (Vaunih.standing m n)-> .dI)
theorem Hz(T: .b): .cb T.qD.f T.qD.fd ["going","steps"] (W3 T):=by
 refine T.qD.F.az ["going","steps"] .f;obtain⟨L,f,c,m,bl,dn,mk,n,rfl,⟨⟨y,s,oc,p,rs,h1,_,z⟩,_⟩,q⟩:=h;rw[51];have no:=.EO T;refine⟨_,.lF (.ld .i (T.bE "WAS_REFUSED" 2) (bF (cG .i .e .i))) (bF (bj .i .e))⟩;unfold Vaunih.standing at q
 cases d:m.over with
 |none=>rw[d]at z q;obtain⟨rfl,rfl,rfl⟩:=z;exact⟨.k9,y,.ie,no,kY,.aR,aj ⟨.k9,y,.ie,no,kY,_,Y,.zn (q _ l (.gs R) R aB)⟩⟩
 |some o=>
  cases o with
  |ended v=>rw[d]at z q;obtain⟨rfl,rfl,_⟩:=z;exact⟨.k9,y,.ie,no,kY,.aR,aj ⟨.k9,y,.ie,no,kY,_,Y,.zn (q _ l (.gs R) R aB)⟩⟩
  |refused k=>rw[d]at z q;obtain⟨rfl,rfl,rfl⟩:=z;exact⟨.k9,y,.ie,no,kY,.n7 ⟨.k9,y,.ie,no,kY,.j,f,_,y,.mP,.zZ T,LR,.zn (q _ l (.gs R) R aB)⟩⟩
end
section
open Vaunih (Machine State Over steps longest enough standing)
theorem JJ{c:aX}{g:Machine}{d k most:Nat}(G:k<=most)(B:k=most∨ .wI g (d+k))(S:∀j,j<d+k->(.lD g j)=none):steps c most 0 (.bj g d)=(.bj g (d+k),k):=by
 have m:∀j,j<k->(.lD (.bj g d) j)=none:=λj D=>by rw[<-xW];exact S _ (by omega)
 rw[xW];rcases B with rfl|B
 ·rw[BS m,iG]
 ·rw[xW]at B;rw[JI G m B,iG]
theorem MC.Bv{T: .b}{F H H':Hp}{hd ca nl f R h E:Addr}{xs: .am}{j W:Nat}{st:State}{L: .g}{bl:L2.V}{i k:Bool}{B:Vaunih.Run}{c:aX}(mc: .kC F H j)(x:rT T F H hd st L bl .ai i E)(y:DR T F L H st bl B f R c k)
  (o:Out f R H H')(g:F h=none)(U:fq T L H' f h c B.begun W bl):
  MC T F H' hd ca nl xs j {st with run:=some {B with now:=.bj B.begun W,done:=W}}/\H' hd= .CP T E (gm bl (.bl i) .ai):=by
 have l:=y.at_
 obtain⟨⟨⟨V,X,oc,p,rs,a1,_⟩,_⟩,m,⟨ms,b2,_⟩,_⟩:=id l
 obtain⟨⟨⟨t,u,A,C,Q,r,_⟩,_⟩,_⟩:=id U
 obtain⟨G,h1⟩:=mc.c.obj
 have kp:=o.kp a1 b2 m
 have I:=bx .bE a1 λz=>lq (by rfl) DQ z
 have D:=.al .bE b2
 have s:=bx h1 a1 λz=>lq (by rfl) zI z
 have v:=.al h1 b2
 have sF: .f2 F:=λb o' S=>o _ _ (.hq S) (aN S y.f1) (aN S y.f2)
 have d:=o _ _ .bE I D
 refine⟨⟨⟨L,bl,.ai,i,E,d,.yf,.CO x,⟨f,h,c,k,Y,.pc,U,Y,y.bZ,y.f1,g⟩,sF,.CD ⟨.uG N,.CE N (o _ _ z (.Hk z a1) (λe=>m (e▸N)))⟩⟩,⟨⟨G,o _ _ h1 s v⟩,ay.jo mc.l sF,mc.c.le,mc.c.bZ⟩,mc.f,mc.l⟩,d⟩
 rw[17,a,f]
 ·rw[327,e,r]
 ·by_cases M:a=R
  ·rw[M]at N;exact m N
  ·cases n:H a with
   |none=>exact x.live a N n
   |some o'=>rw[22,o _ _ n e M]
def Pc(c:gn):Prop:=∃n,c= .step n
theorem SJ(T: .b)(u:base.NoSeer)(I: .aj=none): .J P w K .x 47 T.mr.f T.mr.fd ["held","calls"] (iW T Pc):=by
 refine T.mr.F.az ["held","calls","n","done"] .f;obtain⟨hd,ca,nl,F,xs,j,st,c,r,rfl,⟨n,rfl⟩,mc,d,q⟩:=h;rw[91,T];have nr:=.mr T;rw[335,d,⟨.dZ (.gT .hr T.jf (mP T)) (.i1 .rz (.CG (jn (uS iU iU aq .p (T.bE "MOST_STEPS" 100000))) (-1)) (.en (.eU T.qy (.kB (Hn T L u I)) .i .p) (.dz (.lw T.qD (Hz T) .i .a3))))⟩,⟨.cI,dc,.rv,j,n,Y,.ru,.uK⟩];rw[333,.uJ C,id o.m];rw[236,⟨.gh,nr,.ry⟩,x]
 cases R:st.run with
 |none=>rw[255,R,⟨.c8⟩];rw[332,U,s,.bb (.step n)=(st,[-3]),R,o,p,i,g]
 |some rr=>
  rw[181,R,.bb (.step n)=if n<0∨ .Hv n then(st,[-1])else Vaunih.doSteps st c rr n.toNat λm now _=>standing m now,.rx R];rw[329,¬(0<=n/\n<=100000)->∀l,X l=none-> .uI l X l (-1),by rw[334,U,s,show n<0∨ .Hv n by unfold Vaunih.MOSTSTEPS;omega,o,s,p,i,g],⟨.i9,.ze ⟨.pP ⟨aY,bad .a2⟩ ?_⟩ ⟨_,Y,aR ⟨aY,bad .a2⟩⟩⟩]
  ·simp at C;omega
  ·simp at t C;rw[328,show¬(n<0∨ .Hv n) by unfold Vaunih.MOSTSTEPS;omega,n=m,⟨.u7 n⟩];refine⟨.gh,nr,eW,_,Y,L,f,ml,c,rr.begun,rr.done,n,bl,Y,y.at_,λV k3 o3 e G B=> ?_⟩;obtain⟨b,ho3⟩:=o.Bv x y o3 y.f2 e;refine⟨.uO,ho3,cl,nr,eW,_,Y,L,f,c,_,bl,_,_,k3,Y,e.run,λH4 l A nl4 hl4=> ?_⟩;have N:=JJ G B e.before;unfold Vaunih.doSteps at es;rw[i0,y.now,N]at es;exact .nn b nl4 A i hl4
  ·simp at t;omega
def O_(c:gn):Prop:=c= .run
theorem SF(T: .b)(u:base.NoSeer)(I: .aj=none): .J P w K .x 47 T.mn.f T.mn.fd ["held","calls"] (iW T O_):=by
 rw[336,T.mn.F.az ["held","calls"] .f];cases(n);have t:=d;rw[91,T];have S:=.mr T;refine⟨_,.hU .rz (bb (.gL T.tF (.kB (RK T L u I)) .i)) (.lw T.qD (Hz T) .i .jR),?_⟩;obtain⟨L,bl,rn,i,v,x⟩:=.yg;rw[236,⟨.gh,S,.ry⟩,x]
 cases R:st.run with
 |none=>rw[235,R,⟨.c8⟩,U,s,.bb .run=(st,[-3]),R,mc,p,t,g]
 |some B=>
  rw[181,R,.bb .run=Vaunih.doSteps st c B (enough c B.begun.calls) λm _ all=>standing m all,.rx R];rw[18,⟨.gh,S,eW,L,f,ml,c,B.begun,B.done,bl,Y,y.at_,λV D o3 e z=> ?_⟩];obtain⟨b,o⟩:=mc.Bv x y o3 y.f2 e;obtain⟨⟨dr,tp,oc,rf,rs,a1,_⟩,_⟩:=e.run
  have G:D<=enough c B.begun.calls:=by
   have N:=y.bZ;rcases Nat.eq_zero_or_pos (B.done+D)with h0|h0
   ·omega
   ·rw[23,(e.bZ (B.done+D-1) (by omega)).on (e.before _ (by omega))]
  have X:=JJ G (.inr z) e.before;unfold Vaunih.doSteps at es;rw[y.now,X]at es;rw[2,⟨.uO,o,cl,S,eW,.uO,o,cl,S,eW,f,_,.nw,a1,.np,.A7 T,i7,L,f,c,_,bl,.cS,e.run,λH4 l A C hl4=> ?_⟩,.nn b C A t hl4]
def O0(c:gn):Prop:=∃n,c= .back n
theorem Rz(T: .b)(u:base.NoSeer)(I: .aj=none): .J P w K .x 48 T.l8.f T.l8.fd ["held","calls"] (iW T O0):=by
 refine T.l8.F.az ["held","calls","n"] .f;obtain⟨hd,ca,nl,F,xs,j,st,c,r,rfl,⟨n,rfl⟩,mc,d,q⟩:=h;rw[91,T];have S:=.mr T;rw[51];have nad:=.A7 T;rw[335,d,⟨.dZ (.gT .hr T.jf (mP T)) (.i1 .rz (.CG (aU gO .p aq) (-1)) (.hU (.n0 (aU ic .p .jR) "TOO_FEW_STEPS" (-5)) (bb (.eU T.tM (.kB (R9 T L u I)) .i .p)) (.hV .jR)))⟩,⟨.cI,dc,.rv,j,n,Y,.ru,.uK⟩];rw[333,.uJ C,id o.m];rw[236,⟨.gh,S,.ry⟩,x]
 cases R:st.run with
 |none=>rw[255,R,⟨.c8⟩];rw[332,U,s,.bb (.back n)=(st,[-3]),R,o,p,i,g]
 |some B=>
  rw[181,R,.bb (.back n)=Vaunih.doBack st c B n,.rx R];unfold Vaunih.doBack at es;obtain⟨⟨dr,tp,oc,rf,rs,a1,_⟩,_⟩:=y.at_.run;rw[18,⟨.i9,.pN ⟨.c8⟩⟩]
  ·rw[334,U,s,bQ t,o,s,p,i,g]
  have A:=cq (.eR▸t);rw[aa A]at es;refine⟨.j,hd,_,v,.h,.bE,cl,S,eW,f,_,.nw,a1,N,nad,i7,.pP ⟨.c8⟩ ?_⟩
  ·rw[334,U,s,bQ C,o,s,p,i,g]
  have c2':=cq .sN;rw[328,c2',n=m,⟨.u7 n⟩];refine⟨.gh,S,eW,_,Y,L,f,ml,c,B.begun,B.done,n,bl,Y,y.at_,by omega,x.live,λV ml3 G z e=> ?_⟩
  have fm:F ml3=none:=by
   rcases z with rfl|h
   ·exact y.f2
   ·exact fW x.sF h
  obtain⟨b,ho3⟩:=o.Bv x y G.out fm e;obtain⟨⟨dr3,tp3,oc3,rf3,rs3,a3,_⟩,_⟩:=e.run;refine⟨.uO,ho3,cl,S,eW,f,_,dr3,.h,a3,N,nad,i7,.c8⟩;generalize U:upd V l _=H5;rw[92,U,s];rw[i0]at es;dsimp only at es;rw[124,BS e.before,b,s,p,i,g]
end
section
open Vaunih (Machine State Over Reach checkFrom checkBlock codeFault frameNumbers)
theorem EB{c:aX}{s n:Nat}:∀{l:List Vaunih.Instr} {i:Nat} {next: .bM} {bD: .kr} {rs: .ft},.C8 c s n i bD l= .oz-> .aA rs .cw
 |[],i,next,bD,rs,h=>by
  unfold checkFrom at h
  split at h<;>cases h
  rfl
 |x::l,i,next,bD,rs,h=>by
  unfold checkFrom at h
  split at h
  ·cases h
  ·split at h
   ·cases h
   ·split at h
    ·cases h
    ·split at h
     ·cases h
     ·rename_i M
      cases h
      rw[bp,bp,EB M]
def O6(c:gn):Prop:=∃b,c= .heights b
theorem NP{rs: .ft}: .aA (.uN rs) (2*rs.length):=by
 induction rs with
 |nil=>rfl
 |cons a l j=>rw[fS,bL,j,bp];rw[12,2+_=_]
theorem Sa(T: .b): .J P w K .x 6 T.mf.f T.mf.fd ["held","calls"] (iW T O6):=by
 refine T.mf.F.az ["held","calls","block"] .f;obtain⟨hd,ca,nl,F,xs,j,st,c,r,rfl,⟨n,rfl⟩,mc,hdr,q⟩:=h;rw[91,T];have y:=.CH T;have nc:=T.held.n "checked";obtain⟨hz,i,hj⟩:=jI (show .hs=n::r from hdr);refine⟨.dZ (.gT .hr T.jf (mP T)) (.hU (.Ho (.AA (.n1 .i) (.nC .i)) (-4)) (.n0 (jn (uS iU gO aq .p .i7)) "NOT_THERE" (-2)) (.uL mR aq (.eU T.tx (.kB (RC T L)) .i .p)))⟩;rw[187,⟨.cI,dc,.rv,j,n,Y,.ru,.uK⟩];rw[333,.uJ C,id o.m];rw[140,.CN n=(st,Vaunih.heightsAnswer st n)];unfold Vaunih.heightsAnswer at es;have no: .CN n=(st,[-4])->∀l,X l=none-> .uI l X l (-4):=λe l s=>by generalize eH5:upd X l _=H5;obtain⟨p,g⟩:=bH eH5 s;exact q.of e o s p i g
 refine⟨.gh,y,lK,.ac⟩;have B:=.ly
 cases hst:st.code with
 |none=>rw[233];cases B;exact aR (aR ⟨aY,no es⟩)
 |some cc=>
  obtain⟨c,k⟩:=cc;rw[233];obtain⟨I,N,rfl,V⟩:=B;obtain⟨bla,bs,rfl,hbl,hbs,d,_⟩:=id I;rw[18,⟨.gh,nc,CJ,.ac⟩]
  cases ck with
  |false=>exact aR ⟨aY,no es⟩
  |true=>
   have hcl:=b_ hbs
   rw[329,¬(0<=n/\n< .az)->∀l,X l=none-> .uI l X l (-2),by
    generalize eH5:upd X l _=H5;rw[92,eH5,s]
    have: .CN n=(st,[-2]):=by
     rw[323,es];by_cases h0:n<0
     ·rw[af h0]
     ·rw[aa h0,.GO]
    exact q.of this o s p i g,⟨.i9,.ze ⟨.gh,y,lK,bla,.dB (.X hbl),.pP ⟨aY,bad .a2⟩ ⟨aY,.Hu⟩⟩ ⟨_,Y,aR ⟨aY,bad .a2⟩⟩⟩]
   ·simp at C;omega
   ·simp at t C;rw[253,n=m,⟨.u7 n⟩];have G:n< .az:=by omega
    have hcn:c[n]? = .sc c n:=bS G;generalize (c[n]:cM)=b at hcn;obtain⟨rs,hrs⟩:=MU (V Y) hcn;have R:=EB hrs;have hb3:=(I.small n b hcn).1;generalize a:upd X l1 _=H3;rw[83,a,u];rw[0,⟨.uO,U _ _ .bE,cl,y,lK,_,Y,L,_,c,n,b,rs,Y,I.same U.kp,wW x.live U,hcn,hrs,λH4 l4 A hl4=> ?_⟩,⟨l1,l4,.o,A _ _ f,hl4,?_,λl5 hl5=> ?_⟩]
    ·rw[bh,NP,br];rw[36,1+_]
    refine cJ hl5 λH5 p g=> ?_;have D: .CN n=(st,0:: .uN rs):=by rw[es];dsimp only;rw[.gJ,i0,hcn];dsimp only;rw[hrs];rfl
    exact q.of D (.pI o U A) hl5 p i g
   ·simp at t;omega
def O5(c:gn):Prop:=c= .frames
theorem fq.frames{T: .b}{L: .g}{H:Hp}{r R:Addr}{c:aX}{g:Machine}{n:Nat}{bl:L2.V}(h: .fZ H n):(.bj g n).frames.length<=900000:=by have h1:=(h.bZ n (aI n)).all;have h2:=h.left;have h3:=E_ (n:=Vaunih.longest c) (fs:=(.bj g n).frames);unfold eT at h1 h2;omega
theorem E9(f:cx):(frameNumbers f).length=6:=by cases f<;>rfl
theorem NQ{fs: .aW}: .aA (fs.flatMap .uM) (6* .yh):=by
 induction fs with
 |nil=>rfl
 |cons a l j=>rw[fS,bL,j,bp,E9];omega
theorem RQ(T: .b): .gI T.me.f T.me.fd ["held","calls"] (iW T O5):=by
 refine T.me.F.az ["held","calls","found","numbers","frame"] .f;obtain⟨hd,ca,nl,F,xs,j,st,c,r,rfl,ec,mc,d,q⟩:=h;cases(show c= .frames from ec);rw[237,.hs=r,d,T];have S:=.mr T;rw[330,mc.m];rw[0,⟨_,.eo .rz 2 nd (.gL T.qz (.kB (Hr T L)) .i) (.en (.hV (T.cA .p)) (.bC (ik ef Y (mW .p) (eo 4 nd) (.ql sy sA uE .a3 (.ce T.tI (.kB (ah.ex λn=>RO T L n)) M.m W 4))) .a3)),?_⟩,⟨.oG,S,.ry⟩];have a:=x.run
 cases R:st.run with
 |none=>rw[235,R,⟨.c8⟩,U,s,.bb .frames=(st,[-3]),R,mc,p,t,g]
 |some rr=>
  rw[181,R,.bb .frames=(st,(rr.now.frames.length:Int)::rr.now.frames.reverse.flatMap .uM),.rx R];have hfl:=y.at_.frames;rw[y.now]at es;have yrun:=y.at_.run;generalize stN c rr.begun rr.done=m at es hfl yrun;rw[18,⟨.oG,S,eW,L,f,c,m,bl,.h,yrun,by omega,λX fl us B hfl2 hp=> ?_⟩];have N:=b_ hp;rw[dy]at N;refine⟨_,Y,fl,.dB hfl2,.c8⟩;generalize eH3:upd X l _=H3;rw[238,eH3,s];have hl0:H l=none:=fW B s;refine⟨_,Y,fl,Y,⟨.jz (C _ _ hfl2)⟩,?_⟩;rw[<-N]at D;refine .AK us (.i6 (.f2 X) ((∃v: .dH,σ=[.I hd,.I ca,.I fl,.gH,v])/\ .c2= .ip ((.EM:Int):: .CM m i .uM))) ⟨C,⟨none,Y⟩,D⟩ (.AJ h _ _ hfl2) ?_ ?_
  ·rintro i u σ H' hui ⟨s',⟨v,rfl⟩,G⟩;have hi:i<m.frames.reverse.length:=by have:=.dD hui;rw[dy];omega
   have A: .a1 .sX= .i5 .sX:=bS hi;obtain⟨z,hz,V⟩:=dP hp A;rw[hui]at hz;cases hz;have I: .CM m .z .uM= .CM m i .uM++frameNumbers ((.sX)[i]):=.Fe A pV (_++(frameNumbers _++[])=_) cC
   have ht6: .K (.CM m i .uM) (6*900000):=by rw[NQ,eX,dy];omega
   generalize (m.frames.reverse[i]:cx)=fr at V I;obtain⟨rest,V⟩:=V;rw[0,⟨.id ⟨.bP G⟩,L,.az,u,fr,Y,⟨rest,V.same (B.trans s').kp⟩,λH5 l5 p e=> ?_⟩,⟨l,l5,.o,p _ _ G,e,.ad⟩]
   ·rw[bh,bh,bp,E9,br];omega
   rw[0,bc λH6 w6 k6=> ?_,⟨λb o h=>w6 _ _ (p _ _ (.dU h)) (.aN s),⟨_,Y⟩,?_⟩];rw[k6,I,<-fT];rfl
  ·rintro σ H' ⟨s',⟨v,rfl⟩,G⟩;rw[<-N,<-dy,iD]at G;rw[dy]at G;exact⟨_,Y,q.qU es (mc.m.nl hl0) (.pI mc B s') t G⟩
end
section
open Vaunih (Machine State Over tellable shownValue shownValues)
def OZ(c:gn):Prop:=c= .answer
theorem Rw(T: .b)(u:base.NoSeer)(I: .aj=none)(hD:base.NoDigits): .J P w K .x 44 T.lZ.f T.lZ.fd ["held","calls"] (iW T OZ):=by
 refine T.lZ.F.az ["held","calls","text"] .f;obtain⟨hd,ca,nl,F,xs,j,st,c,r,rfl,n,mc,hdr,q⟩:=h;cases(show c= .answer from n);rw[237,.hs=r,hdr,T];have nr:=.mr T;rw[51];obtain⟨L,bl,rn,i,dh,x⟩:=.yg;refine⟨_,Z .rz (.hU (.n0 (aU jj .jR (T.bE "ENDED" 1)) "NOT_ENDED" (-9)) (.Hn ?ts Y rfl rfl .wV ?S ?hs) (.uL mR aq (.ce T.oz (A2 T) M.m W 2))),?main⟩
 case S=>
  intro pn xe E b hpo;refine .CF 2 nd (aJ T.ud (S3 T u I hD) M b (ao .jR))
  try dsimp only[Cx.gS]
  exact rfl
 case hs=>
  rw[234,.zA "TOO_LARGE_TO_SHOW" (-6),rfl]
 rw[236,⟨.oG,nr,.ry⟩,x]
 cases R:st.run with
 |none=>rw[235,R,⟨.c8⟩,U,s,.Ht=(st,[-3]),R,mc,p,t,g]
 |some rr=>
  rw[181,R,.Ht=(st,Vaunih.answerAnswer rr.now),.rx R];rw[y.now]at es;obtain⟨⟨dr,tp,oc,rf,rs,a1,_,z⟩,_⟩:=y.at_.run;generalize stN c rr.begun rr.done=m at es z a1;unfold Vaunih.answerAnswer at es;have eoc:=z.oc;subst eoc;have no: .Ht=(st,[-9])->∀l,H l=none-> .uI l H l (-9):=λe l s=>by generalize U:upd H l _=H5;obtain⟨p,g⟩:=bH U s;exact q.of e mc s p t g
  rw[18,⟨.oG,nr,eW,f,_,.nw,a1,.wz T,kY,.aJ⟩]
  cases d:m.over with
  |none=>rw[107,d,aR ⟨aY,no es⟩]
  |some o=>
   cases o with
   |refused kk=>rw[107,d,aR ⟨aY,no es⟩]
   |ended v=>
    rw[d]at es z;obtain⟨_,rfl,D⟩:=z;dsimp only at es;rw[18,⟨.oG,nr,eW,f,_,.nw,a1,.zT T,LS,_,v,.az,.ba,Y,aV,D,λV X B=> ?_,λV X B=>⟨T.oG,.c8⟩⟩]
    ·refine⟨aY,.CK⟩;generalize eH3:upd X l1 _=H3;obtain⟨C,k3⟩:=bH eH3 hl1;refine⟨.j,.Hr,λH4 l4 s4 G=> ?_⟩;rw[AU]at G;refine⟨l1,l4,.o,s4 _ _ k3,G,?_,λl5 hl5=> ?_⟩
     ·rw[331,bh,bh,br,1+_]
     refine cJ hl5 λH5 p g=> ?_;rw[149,show .iV [v]/\ .K .C5 .CI from V,.CL mc B C s4,hl5,p,t,g]
    ·rw[254,U,s];rw[124,aa (show¬(.iV [v]/\ .K .C5 .CI)from V),mc.same B,s,p,t,g]
def O9(c:gn):Prop:=∃n,c= .look n
theorem Sj(T: .b)(u:base.NoSeer)(I: .aj=none)(hD:base.NoDigits): .J P w K .x 44 T.mi.f T.mi.fd ["held","calls"] (iW T O9):=by
 refine T.mi.F.az ["held","calls","number","found","text"] .f;obtain⟨hd,ca,nl,F,xs,j,st,c,r,rfl,⟨n,rfl⟩,mc,hdr,q⟩:=h;rw[91,T];have nr:=.mr T;obtain⟨hz,hd1,hj⟩:=jI (show .hs=n::r from hdr);refine⟨_,.aC 2 nd (.gT .hr T.jf (mP T)) (.eo .rz 3 nd (aJ T.qz (.kB (Hr T L)) M.m W (ao .i)) (.hU (.n0 (.AA (jn (uS iU gO aq .p (T.cA .a3))) (eJ (J (bz c7 .a3 .p)))) "NOT_THERE" (-2)) (.Hn ?ts Y rfl rfl .wV ?S ?hs) (.uL mR aq (.ce T.oz (A2 T) M.m W 4)))),?main⟩
 case S=>
  intro pn xe E hx' hpo;refine .CF 4 nd (aJ T.tJ (.kB (RP T L u I hD)) M hx' (ao (bz c7 .a3 .p)))
  try dsimp only[Cx.gS]
  exact rfl
 case hs=>
  rw[234,.zA "TOO_LARGE_TO_SHOW" (-6),rfl]
 rw[187,⟨.cI,dc,.rv,j,n,Y,.ru,λX w2 c2=> ?_⟩];have o:=.uJ c2;rw[330,o.m];refine⟨.oG,nr,.ry⟩;have hrn:=x.run
 cases R:st.run with
 |none=>rw[R]at hrn;cases hrn;rw[47,⟨.c8⟩];rw[332,U,s,.Hs n=(st,[-3]),R,o,p,hd1,g]
 |some B=>
  rw[R]at hrn;obtain⟨ra,ml,c,k,rfl,y⟩:=hrn;have es: .Hs n=(st,Vaunih.lookAnswer B.now n):=.rx R;have hfl:=y.at_.frames;rw[y.now]at es;have yrun:=y.at_.run;generalize stN c B.begun B.done=m at es hfl yrun;unfold Vaunih.lookAnswer at es;rw[18,⟨.oG,nr,eW,L,ra,c,m,bl,.h,yrun,by omega,λH3 fl us s3 hfl3 hp=> ?_⟩];have N:=b_ hp;have bad: .Hs n=(st,[-2])->∀l,H3 l=none-> .uI l H3 l (-2):=λe l s=>by generalize U:upd H3 l _=H5;obtain⟨p,g⟩:=bH U s;exact q.of e (o.same s3) s p hd1 g
  refine⟨.i9,.ze ⟨_,Y,fl,.dB hfl3,.fK,cE (λc2=>aR ⟨aY,bad ?_⟩) (λc2=> ?_)⟩ ⟨_,Y,aR (aR ⟨aY,bad ?_⟩)⟩⟩
  ·simp at t c2;rw[es,.gJ,.GO]
  ·simp at t c2;rw[253,n=m,⟨.u7 n⟩];have hn:n<m.frames.reverse.length:=by omega
   have hcn:(.sX)[n]? = .sc .sX n:=bS hn;generalize (m.frames.reverse[n]:cx)=fr at hcn;obtain⟨v,D,rest,hfv⟩:=dP hp hcn;obtain⟨a,C,G,fs,rfl,hfa,fcl,fna,flk⟩:=hfv.E7;have ga:=s3 _ _ (.X hfa);rw[.gJ,i0,hcn]at es;refine⟨.j,fl,.eK hfl3 D,a,_,G,.h,ga,fcl,fna,flk,.ac⟩
   cases fr with
   |fold f left lv d hand=>exact aR ⟨aY,bad es⟩
   |block b i ls ws d=>
    dsimp only at es;rw[18,⟨.j,fl,.eK hfl3 D,L,_,.az,b,i,d,ls,ws,Y,⟨rest,hfv.same s3.kp⟩,λV H4 s4=> ?_,λV H4 s4=>⟨T.oG,.c8⟩⟩]
    ·refine⟨aY,.CK⟩;generalize U:upd H4 l1 _=H5;rw[92,U,hl1];refine⟨.j,.Hr,λH6 l6 s6 z=> ?_⟩;rw[AU]at z;refine⟨l1,l6,.o,s6 _ _ g,z,?_,.Hq⟩
     ·rw[331,bh,bh,br,1+_]
     refine cJ hl7 .Hp;rw[149,show .iV (ws++ls)/\ .K (.kA++ .CJ) .CI from V,.pI o (.b0 s3 s4 p) s6,hl7,s7,hd1,k7]
    ·generalize U:upd H4 l _=H5;rw[92,U,s];rw[124,aa (show¬(.iV (ws++ls)/\ .K (.kA++ .CJ) .CI)from V),.pI o s3 s4,s,p,hd1,g]
  ·simp at t;rw[es,.rb]
end
section
open Vaunih (Machine State Over longest enough inputsOf)
theorem E6:∀{l:aX} {n:Nat},n<=300->(∀b∈l,.AO)-> .u9 l (.GE (n< .ak) .ak n)<=300
 |[],n,h,_=>h
 |b::l,n,h,k=>by
  rw[9,zc,E6 ?_ λx W=>k x (.aH W)]
  split
  ·exact k b .aS
  ·exact h
theorem Qm{c:aX}(h:sI c): .ef<=300:=E6 (by decide) λb S=>by obtain⟨i,hi⟩:=List.mem_iff_getElem?.mp S;exact(h i b hi).1
def O1(c:gn):Prop:=∃n t,c= .begin n t/\ .gM
theorem RA(T: .b)(u:base.NoSeer)(hP: .aj=none)(hD:base.NoDigits): .J P w K .x 44 T.l9.f T.l9.fd ["held","calls"] (iW T O1):=by
 refine T.l9.F.az ["held","calls","budget","text","values"] .f;obtain⟨hd,ca,nl,F,xs,j,st,c,r,rfl,⟨n,t,rfl,R⟩,mc,hdr,q⟩:=h;rw[91,T];have nb:=.CH T;obtain⟨hz,i,D⟩:=jI (show .hs=n::((.ms::gJ t)++r)from hdr);refine⟨_,.aC 2 nd (.gT .hr T.jf (mP T)) (.en (.gT .hr T.oN (A5 T)) (Z (.Ho (.n1 .i) (-4)) (.i1 (.CG (jn (uS iU iU aq .p (T.bE "MOST_BUDGET" 1000))) (-1)) (.Hn ?ts Y rfl rfl T.jS.g ?S ?hs) (.zB (.n0 (.x1 jj .aF (J (bz c7 .i aq))) "OTHER_COUNT" (-8)) (.qt T.run.iS (Rq T) Y T.run.g T.run.F.b (cG .i .p .aF)) (.dz (.hV aq)))))),?main⟩
 case S=>
  intro pn xe E hx' hpo;refine .CF 4 nd (.ce T.tY (ah.ex λn=>Sx T n u hP hD) M hx' 3)
  try dsimp only[Cx.gS]
  exact rfl
 case hs=>
  rw[234,.zA "NO_INPUTS_TEXT" (-7),rfl]
 rw[187,⟨.cI,dc,.rv,j,n,Y,.ru,.uK⟩];have mc2:=.uJ C;obtain⟨dc2,h2⟩:=C.obj;refine⟨.cI,dc2,_,Y,h2,iZ (by decide),ca,nl,xs,j+1,t,r,Y,C,i,R,λV w3 c3 hr3=> ?_⟩;have mc3:=mc2.js w3 c3;rw[330,mc3.m];rw[140,.bb (.begin n t)=Vaunih.doBegin st n t];unfold Vaunih.doBegin at es;refine⟨.oG,nb,lK,.ac⟩;have B:=.ly
 cases hst:st.code with
 |none=>rw[233];cases B;rw[47,⟨.c8⟩];generalize eH5:upd V l _=H5;rw[180,eH5,s];exact .nn mc3 s s5 hr3 k5
 |some cc=>
  obtain⟨c,k⟩:=cc;rw[233];dsimp only at es;obtain⟨I,hnum,rfl,hfault⟩:=B;have hsm:=I.small;obtain⟨bla,bs,rfl,hbl,hbs,d,hlen1⟩:=id I;rw[329,¬(0<=n/\n<=1000)->∀l,V l=none-> .uI l V l (-1),by generalize eH5:upd V l _=H5;rw[180,eH5,s];rw[149,show n<0∨Vaunih.MOSTBUDGET<n by unfold Vaunih.MOSTBUDGET;omega,mc3,s,s5,hr3,k5],⟨.i9,.EF ⟨.pP ⟨aY,bad .a2⟩ ?_⟩ ⟨_,Y,aR ⟨aY,bad .a2⟩⟩⟩]
  ·simp at C;omega
  ·simp at c1 C;rw[328,show¬(n<0∨Vaunih.MOSTBUDGET<n) by unfold Vaunih.MOSTBUDGET;omega,n=m,⟨.u7 n⟩];rw[i0]at es;obtain⟨b0,hb0⟩:∃b,c[0]? = .ki:=⟨_,bS hlen1⟩;obtain⟨v0,hv0,ba,dba,li,ixs,rfl,hba,_,_,hkept,_⟩:=dP hbs hb0;have hhead:c.head? =some b0:=by rw[List.head?_eq_getElem?];exact hb0
   rw[hhead]at es;refine⟨_,Y,.az,t,Y,by omega,λG hin H4 va us s4 hva hvs=> ?_,λhin H4 s4=>⟨T.jS.ca,.c8⟩⟩
   ·rw[hin]at es;dsimp only at es;have hul:=b_ hvs;have hobj4:=s4 _ _ .bE;refine⟨_,Y,va,.pJ hva,hd,_,dh,.h,hobj4,cl,nb,lK,bla,_,.pC (s4 _ _ (.X hbl)),bG (j:=0) hv0,ba,_,dba,.h,s4 _ _ (.X hba),.sP,.x8 T,rF,.aR,cE (λd1=>⟨.c8⟩) (λd1=> ?_)⟩
    ·generalize eH5:upd H4 l _=H5;rw[180,eH5,s];have hne: .a8≠b0.kept:=λz=>by rw[z]at d1;simp at d1
     rw[149,show Option.map (λb=>.li) (some b0)≠ .Hm G fromλz=>hne (by injection (show some b0.kept=some G.length from z)with z;omega),mc3.same s4,s,s5,hr3,k5]
    ·have heq: .a8=b0.kept:=Decidable.byContradiction λz=>d1 (by simp;omega);rw[aa (show¬(Option.map (λb=>.li) (some b0)≠ .Hm G)fromλz=>z (show some b0.kept= .Hm G by rw[<-heq,hul]))]at es;have nr:=.mr T;refine⟨_,Y,hd,_,dh,.h,hobj4,cl,nb,lK,.j,λp dp np ndp nep=> ?_⟩;have s5:ae H4 (.eL (upd H4 dp (.own p)) p .sp dp []):=mH np ndp;refine⟨p,dp,.cS,aB,λH6 f df tt ml b6 nf nt nml o1 o2 o3 o4=>⟨Y,?_⟩⟩;have s6:ae H4 H6:=λb o h=>b6 _ _ (s5 _ _ h) (.aN np);have hobj6:=s6 _ _ hobj4;rw[111,⟨_,Y,hd,_,dh,_,Y,hobj6,cl,nr,.gN vq⟩,IB,bc .Fn,⟨.c8⟩];generalize eH8:upd H7 l _=H8;obtain⟨s8,k8⟩:=bH eH8 s;have kp7:Kp L H6 H7:=w7.kp hobj6 (by rw[As];rfl);have kp0:Kp L V H7:=λb o h=>kp7 _ _ ((s4.trans s6).kp _ _ h);have fr3:∀{a},H4 a=none->F a=none:=λ{a} h=>fW (x.sF.trans s4) h;have phd:p≠hd:=λz=>by rw[z,hobj4]at np;cases np
     have nf4:=fW s5 nf;have nt4:=fW s5 nt;have nml4:=fW s5 nml;have oml:ml≠hd:=λz=>by rw[z,hobj4]at nml4;cases nml4
     have of_:f≠hd:=λz=>by rw[z,hobj4]at nf4;cases nf4
     have ot:tt≠hd:=λz=>by rw[z,hobj4]at nt4;cases nt4
     have ova:va≠hd:=.al hva hobj4;obtain⟨dc3,h3⟩:=c3.obj;have oca:ca≠hd:=bx h3 .bE (.uH kQ vr z);have sF7: .dh H7:=λb o S=>w7 _ _ (s6 _ _ (s4 _ _ (.hq S))) (aN S x.f);have hcode7: .fJ (aD L H7) (.ref bla):=I.same kp0;have U: .f8 ⟨[.block 0 0 G [] 0],n,none⟩=n* .hg+(2* .ef+1):=by unfold eT hR Al;show n* .hg+(2*(.ef-0)+1+0)=_;rw[qf]
     have h300:=Qm hsm;have hmul:n* .hg<=1000*602:=nJ (by omega) (by omega)
     have hra:fq T L H7 p ml c ⟨[.block 0 0 G [] 0],n,none⟩ 0 (.ref bla):=by
      refine⟨⟨⟨dp,.ai,.aX,.aX,.au,w7 _ _ o1 phd,⟨hlen1,f,df,tt,va,.au,[],us,Y,c0 (w7 _ _ o2 of_) qI,c0 (w7 _ _ o3 ot) Y,.nil,c0 (w7 _ _ (s6 _ _ hva) ova) Y,?_,Y⟩,⟨.f6⟩⟩,hcode7⟩,.a2,⟨[],w7 _ _ o4 oml,Y,λj v D=>(by cases D)⟩,λj D=>(by omega),λj D=> ?_,λj D=> ?_,?_⟩
      ·rw[2,bY.same hvs λb o h=> ?_,kp7 _ _ (s6.kp _ _ (ui .Hl _ _ h))]
      ·exact x.live ml z (fW s4 nml4)
      ·cases zr.mp D;exact⟨⟨⟨.fw,by show G.length<=62;omega,by decide⟩,λg y=>(by cases y)⟩,.q0⟩
      ·cases zr.mp D;exact lI.zero
      ·rw[28,U]
     have hm7:dA T F H7 hd {code:=.ar c ck,run:=some {begun:=⟨[.block 0 0 G [] 0],n,none⟩,now:=⟨[.block 0 0 G [] 0],n,none⟩,done:=0}}:=by
      refine⟨L,.ref bla,.aK,ck,dh,k7,.yf,⟨hcode7,hnum,Y,hfault⟩,⟨p,ml,c,ck,Y,Y,hra,Y,?_,fr3 np,fr3 nml4⟩,sF7,.CD ⟨.uG N,.CE N (w7 _ _ (s6 _ _ (s4 _ _ z)) (.Hk z .bE))⟩⟩
      ·rw[17,a,hd]
       ·rw[327,e,k7]
       ·cases hh:V a with
        |none=>exact x.live a N hh
        |some o=>rw[22,w7 _ _ (s6 _ _ (s4 _ _ hh)) e]
      ·rw[U];unfold enough;rw[Dj];rw[12,_<=n* .hg+_]
     have mc7:MC T F H7 hd ca nl xs (j+1+1+ .C) _:=⟨hm7,⟨⟨dc3,w7 _ _ (s6 _ _ (s4 _ _ h3)) oca⟩,ay.jo mc3.l sF7,c3.le,c3.bZ⟩,mc3.f,mc3.l⟩;exact .nn mc7 s s8 hr3 k8
   ·generalize eH5:upd H4 l _=H5;rw[180,eH5,s];rw[124,hin,mc3.same s4,s,s5,hr3,k5]
  ·simp at c1;omega
end
section
open Vaunih (Machine State Call)
def Bm:Call->Nat
 | .load _ _=>0
 | .check _=>1
 | .show=>2
 | .heights _=>3
 | .begin _ _=>4
 | .step _=>5
 | .run=>6
 | .back _=>7
 | .answer=>8
 | .frames=>9
 | .look _=>10
 | .count=>11
def mw(c:Call): .am:=(Bm c:Int)::zS c
def qH: .ap Call
 | .load _ t=>.gM
 | .check t=>.gM
 | .begin _ t=>.gM
 |_=>True
def ij:State-> .yj-> .yl
 |_,[]=>[]
 |s,c::r=>(Vaunih.step s c).2::ij (Vaunih.step s c).1 r
def jX(l: .yl): .am:=l.flatMap λa=>(.cr a)::a
def ML(T: .b): .N:=[.ref T.mh.f,.ref T.l_.f,.ref T.mq.f,.ref T.mf.f,.ref T.l9.f,.ref T.mr.f,.ref T.mn.f,.ref T.l8.f,.ref T.lZ.f,.ref T.me.f,.ref T.mi.f,.ref T.ma.f]
structure Ln(base:Heap)(T: .b)(c:Call) where
 f:Addr
 fd: .lX
 k:Nat
 p: .ap Call
 at_:(ML T)[Bm c]? = .I f
 ok: .J P w K .x k f fd ["held","calls"] (iW T p)
 le:k<=48
 hp:p c
 kp: .me K
 b:Binds K fd ["held","calls"] []
def named(T: .b)(u:base.NoSeer)(I: .aj=none)(m:base.NoDigits):(c:Call)->qH c->Ln base T c
 | .load k t,h=>⟨.fO,Si T u I,by decide,⟨k,t,Y,h⟩,T.mh.F.kp,T.mh.F.b⟩
 | .check t,h=>⟨.fO,RE T u I,by decide,⟨t,Y,h⟩,T.l_.F.kp,T.l_.F.b⟩
 | .show,_=>⟨.fO,SG T u I m,.yk,T.mq.F.kp,T.mq.F.b⟩
 | .heights b,_=>⟨.fO,Sa T,by decide,⟨b,Y⟩,T.mf.F.kp,T.mf.F.b⟩
 | .begin n t,h=>⟨.fO,RA T u I m,by decide,⟨n,t,Y,h⟩,T.l9.F.kp,T.l9.F.b⟩
 | .step n,_=>⟨.fO,SJ T u I,by decide,⟨n,Y⟩,T.mr.F.kp,T.mr.F.b⟩
 | .run,_=>⟨.fO,SF T u I,.yk,T.mn.F.kp,T.mn.F.b⟩
 | .back n,_=>⟨.fO,Rz T u I,by decide,⟨n,Y⟩,T.l8.F.kp,T.l8.F.b⟩
 | .answer,_=>⟨.fO,Rw T u I m,.yk,T.lZ.F.kp,T.lZ.F.b⟩
 | .frames,_=>⟨.fO,RQ T,.yk,T.me.F.kp,T.me.F.b⟩
 | .look n,_=>⟨.fO,Sj T u I m,by decide,⟨n,Y⟩,T.mi.F.kp,T.mi.F.b⟩
 | .count,_=>⟨.fO,RH T,.yk,T.ma.F.kp,T.ma.F.b⟩
theorem MC.wrote{T: .b}{p H H':Hp}{hd ca nl n:Addr}{xs: .am}{j:Nat}{st:State}{us vs: .N}(h: .kC (.bZ p n us) H j)(q:p n=none)(s:ay K p nl (.rA xs))(t: .cj n)(k:H' n= .a7 vs): .kC (.bZ p n vs) H' j:=by
 obtain⟨⟨L,bl,D,i,v,x⟩,c,f,l⟩:=h;obtain⟨I,B⟩:=c.obj;have G:H n= .fY:=.hq aB;have A:hd≠n:=.al .bE G;have Q:ca≠n:=.al B G;have F:n∉L:=.ET (x.lf n z).1 aB
 rw[43,L,H',t.kp G (GG F)]
 have mono:∀y,upd p n (.lst us) y=none->upd p n (.lst vs) y=none:=λy g=>by
  rw[17,y,n]
  ·rw[e,aB]at g;cases g
  ·rw[aC e]at g;rw[54,e,g]
 have u: .f2 p:=λb o S=>t _ _ (.hq (.dS S q S)) (aN S q)
 have sF: .f2 (.bZ p n vs):=λb o S=>by
  rw[17,b,n]
  ·rw[239,e,aB];rw[55,k]
  ·rw[142,aC e,u _ _ S]
 refine⟨⟨L,bl,D,i,v,t _ _ .bE A,.yf,.CO x,?_,sF,mono _ x.f,λa N=>⟨mono _ (.uG N),.CE N (t _ _ z (λe=>F (e▸N)))⟩⟩,⟨⟨I,t _ _ B Q⟩,ay.jo s u,c.le,c.bZ⟩,mono _ f,ay.jo s λb o S=>.dS S q S⟩
 ·obtain⟨_,y⟩:=.vX N;rw[22,t _ _ y (λe=>F (e▸N))]
 ·rw[182,x]
  cases r with
  |none=>exact M
  |some r=>
   obtain⟨E,R,c,k,e,y⟩:=M;have C:E≠n:=λz=>by have:=y.f1;rw[z,aB]at this;cases this
   have m:R≠n:=λz=>by have:=y.f2;rw[z,aB]at this;cases this
   exact⟨E,R,c,k,e,.pc,y.at_.keep kp (.hJ C) (.hJ m),.yi y,mono _ y.f1,mono _ y.f2⟩
def Jo(K:ag):Sp:=λvs H Q _=>∃(a:Addr) (cs: .yj),vs= .cW/\ay K H a (.rA (.uS cs))/\(.HA c)/\ .Hz (.uS cs)/\ .Hz .rC/\∀H' p,H' p= .ip .rC-> .eW p
theorem Rx(T: .b)(u:base.NoSeer)(I: .aj=none)(hD:base.NoDigits): .J P w K .x 49 T.lh.f T.lh.fd ["calls"] (Jo K):=by
 refine T.lh.F.az ["calls","held","going","numbers","number","answered"] .f;obtain⟨a,cs,rfl,hS,p,d,hout,q⟩:=h;have X:=.hr;generalize exs:cs.flatMap mw=xs at hS d;rw[0,⟨.sW (uR T.held.iS (Hd T.held) M.m Y T.held.g T.held.F.b .nil .bn) 2 nd (.qt T.calls.iS (Rm T.calls) Y T.calls.g T.calls.F.b (.bz 0)) (.en .ib (.wH ef (.nC (dq .p X T.uq (RI T) M.m W)) (.aC 4 nd (dq .p X T.jf (mP T) M.m W) (.aC 5 nd (xx .bn (bz cF (jl Y T.x_.g) .aF) (bj .e .p)) (.uT (bb (.nh iJ iK ib .a3 (T.cA (pv 5)))) (fA eY sy sA uE .a3 (.bz 5))))) .a3))⟩,λhd v nh ndh neh=>⟨hd,v,Y,.nA⟩];generalize eH1:upd (upd (upd H v _) hd _) hd _=H1;obtain⟨U,f⟩:=mK eH1 nh ndh;refine⟨_,Y,λca G nc ndc nec=>⟨ca,.bF,.nA⟩⟩;generalize eH2:upd (upd (upd H1 G _) ca _) ca _=H2;rw[339,mK eH2 nc ndc,⟨.ab,λn hnu=> ?_⟩,cJ hnu λV C k3=> ?_];have s12: .aB H2:=.gG U;have f0:H n=none:=fW s12 hnu;have fc:H ca=none:=fW U nc;have k1G:V hd= .CP T v (gm .au (.bl .a) .au):=C _ _ (B _ _ f);have k2G:V ca= .bW .uR (iy .B (.int .kE)):=C _ _ k;have A:hd≠n:=.al k1G k3;have n2:ca≠n:=.al k2G k3
 have sF:ae (.bZ H n []) V:=λb o S=>by
  rw[17,b,n]
  ·rw[239,e,aB];rw[55,k3]
  ·rw[142,aC e,C _ _ (s12 _ _ S)]
 have mc0:MC T (.bZ H n (.rA ([]: .am))) V hd ca a xs 0 {}:=⟨⟨[],.au,.au,.a,v,k1G,λa ha=>(by cases ha),Y,Y,sF,.bp A nh,λa ha=>(by cases ha)⟩,⟨⟨G,k2G⟩,ay.jo hS (s12.trans C),.ab,d⟩,.bp n2 fc,ay.jo hS λb o S=>.dS S f0 S⟩;refine⟨λm σ H'=>∃(s: .yj) (st:State) (j:Nat) (acc: .am) (v4 g: .dH),m=s.length/\σ=[.I a,.I hd,.I ca,.I n,v4,g]/\MC T (.bZ H n .Hy) H' hd ca a xs j st/\ .hs= .uS s/\(∀c∈s,qH c)/\acc++jX (ij st s)= .rC,⟨_,cs,{},0,[],none,none,Y,Y,mc0,exs.symm,p,Y⟩,?_⟩;rintro m σ H' ⟨s,st,j,acc,v4,g,rfl,rfl,mc,hdr,y,hacc⟩;obtain⟨dc1,h1⟩:=mc.c.obj;refine⟨.cI,dc1,.mY,iZ (by decide),ca,a,xs,j,Y,mc.c,.ac⟩;have hnuH:H' n= .a7 .Hy:=by obtain⟨L,bl,rn,ck,v,x⟩:=.yg;exact .hq aB
 cases s with
 |nil=>
  have D:j= .r:=by have h2: .r<=j:=Lb.mp hdr;have:=mc.c.le;omega
  rw[bC D];have e0:acc= .rC:=by rw[<-hacc];exact(cC _).symm
  rw[18,⟨_,Y,q _ n ?_⟩];rw[hnuH,e0]
 |cons c s=>
  have t: .hs=(Bm c:Int)::(zS c++ .uS s):=hdr;obtain⟨hz,i,D⟩:=jI t;rw[.xj (¬j= .r)]
  let N:=named T u I hD c (y c .aS)
  rw[0,aR ⟨_,.q2⟩,⟨.cI,dc1,.mY,iZ (by decide),ca,a,xs,j,_,Y,.ru,λH4 w4 c4=> ?_⟩];have mc4:=mc.js w4 c4;refine⟨_,Y,T.x_.a,_,.o,T.x_.k.sq,bG N.at_,N.f,N.fd,_,_,N.k,Y,N.ok,M.mono N.le,N.kp,N.b,.j,hd,ca,a,_,xs,j+1,st,c,_,Y,N.hp,mc4,i,λH5 l j5 nl5 mc5 hd5 hl5=> ?_⟩;have hnu5:H5 n= .a7 .Hy:=by obtain⟨L,bl,rn,ck,v,x⟩:=id mc5.m;exact .hq aB
  have lnu:l≠n:=λz=>by rw[z,aB]at nl5;cases nl5
  have htot: .iu+(.gm (.aG (.rB c)) (jX (ij (.bb c).1 s)))<=10000000:=by rw[<-hacc]at hout;rw[10,jX (ij st (c::s)),((.cr (.rB c))::(.rB c))++jX (ij (.bb c).1 s),rfl];rw[e,bL,bL,bp]at hout;exact hout
  rw[63,⟨.id ⟨.bP hnu5⟩,l,.dB hl5,n,.o,hnu5,.sz bh,?_⟩,λr w6 k6=> ?_];have hl6:=w6 _ _ hl5 lnu;refine⟨.id ⟨.bP k6⟩,n,l,.o,k6,hl6,.ad⟩
  ·rw[bL,bh,bh,br];rw[36,.iu+1+_]
  refine bc λF w7 R=> ?_;have k7':F n= .ip (acc++((.cr (.rB c))::(.rB c))):=by rw[R,fT,bh,d8];rfl
  have mc7:=mc5.wrote f0 hS (w6.trans w7) k7';refine⟨s.length,si _,s,_,j5,_,.o,mc7,hd5,λx W=>y x (.aH W),?_⟩;rw[<-hacc,d8];rfl
end
end FC
namespace FC
open Vaunih (State Call)
theorem wq:∀{l: .am},.c (NeutralIO.bytes l)->gJ (l.map (λb=>.E4 b))=l
 |[],_=>rfl
 |a::l,h=>by
  rw[134,.c ((decide (0<=a)&&decide (a<=255))&&NeutralIO.bytes l)]
  rw[bU,bU]at h'
  obtain⟨⟨h1,h2⟩,h3⟩:=h'
  rw[97,bQ h1,bQ h2]
  rw[29,((.E4 a).toNat:Int)::gJ (l.map _)=a::l,wq h3,L4]
  rw[139]
theorem VD{p:Int}{x: .vP}(h:PyVaunih.shape p= .aa):(x=(1,1)/\(p=0∨p=4))∨(x=(0,1)/\p=1)∨(x=(0,0)/\(p=2∨p=6∨p=8∨p=9∨p=11))∨(x=(1,0)/\(p=3∨p=5∨p=7∨p=10)):=by
 unfold PyVaunih.shape at h
 repeat' split at h
 all_goals first|(cases h;simp_all)|cases h
theorem Vl{r x s: .am}(h:PyFlat.row r= .ar x s):r=(.cr x)::(x++s):=by
 cases r with
 |nil=>cases h
 |cons n r=>
  unfold PyFlat.row at h;rw[278]
  ·rename_i B;cases h;rw[Dh,eX];rw[139]
  ·cases h
theorem IQ{r t: .am}{xs: .yl}(h:PyFlat.rows 1 r= .ar xs t):∃x,xs=[x]/\r=(.cr x)::(x++t):=by
 unfold PyFlat.rows PyFlat.rows at h
 cases M:PyFlat.row r with
 |none=>rw[3,M]
 |some y=>obtain⟨x,s⟩:=y;rw[210,M,⟨x,Y,Vl M⟩]
theorem TJ{p:Int}{r t: .am}{c: .yl}(h:PyFlat.call PyVaunih.shape (p::r)= .ar c t)(N: .c (VaunihNeutral.asked1 .yV))(L: .ri (VaunihNeutral.callOf .yV)):
  ∃k,p::r=mw k++t/\qH k/\VaunihNeutral.callOf .yV= .e0:=by
 unfold PyFlat.call at h
 dsimp only at h
 cases B:PyVaunih.shape p with
 |none=>rw[3,B]
 |some f=>
  obtain⟨n,k⟩:=f
  rw[73,B]
  split at h
  ·cases h
  ·rename_i d
   cases a:PyFlat.rows k (r.drop n)with
   |none=>rw[3,a]
   |some y=>
    obtain⟨xs,t'⟩:=y
    rw[3,a]
    rcases VD B with⟨e,hp⟩|⟨e,hp⟩|⟨e,hp⟩|⟨e,hp⟩<;>cases e
    ·obtain⟨x,rfl,M⟩:=IQ a
     rcases r with _|⟨z,r⟩
     ·rw[5,Nat.zero_lt_one,d]
     have i:r=(.cr x)::(x++t):=M
     subst i
     rcases hp with rfl|rfl
     ·have g: .c (VaunihNeutral.whole60 z&&((x.all (.IJ z 8))&& .II x)):=N
      rw[bU,bU]at g
      rw[363,.ri (.vq x λy=>Call.load z y),L]
      ·rename_i S
       refine⟨.load z .hy,.ad,?_⟩
       ·rw[29,(0:Int)::z::(.cr x)::(x++t)=(0:Int)::z::(.cr .hy)::(gJ .hy++t),wq S,bh]
       ·rw[38,.pq .hy,bh,bQ (.bA g)]
       ·rw[362,.vq x (λy=>Call.load z y)=_,af S]
      ·cases j
     ·have g: .c (VaunihNeutral.whole60 z&&((x.all (.IJ z 8))&& .II x)):=N
      rw[bU,bU]at g
      rw[363,.ri (.vq x λy=>Call.begin z y),L]
      ·rename_i S
       refine⟨.begin z .hy,.ad,?_⟩
       ·rw[29,(4:Int)::z::(.cr x)::(x++t)=(4:Int)::z::(.cr .hy)::(gJ .hy++t),wq S,bh]
       ·rw[38,.pq .hy,bh,bQ (.bA g)]
       ·rw[362,.vq x (λy=>Call.begin z y)=_,af S]
      ·cases j
    ·subst hp
     obtain⟨x,rfl,M⟩:=IQ a
     have i:r=(.cr x)::(x++t):=M
     subst i
     have g: .c ((x.all (.IJ z 8))&& .II x):=N
     rw[bU]at g
     rw[363,.ri (.vq x λy=>Call.check y),L]
     ·rename_i S
      refine⟨.check .hy,.ad,?_⟩
      ·rw[29,(1:Int)::(.cr x)::(x++t)=(1:Int)::(.cr .hy)::(gJ .hy++t),wq S,bh]
      ·rw[38,.pq .hy,bh,bQ g.2]
      ·rw[362,.vq x (λy=>Call.check y)=_,af S]
     ·cases j
    ·cases a
     rcases hp with rfl|rfl|rfl|rfl|rfl
     ·exact⟨.show,Y,.ds,Y⟩
     ·exact⟨.run,Y,.ds,Y⟩
     ·exact⟨.answer,Y,.ds,Y⟩
     ·exact⟨.frames,Y,.ds,Y⟩
     ·exact⟨.count,Y,.ds,Y⟩
    ·rcases r with _|⟨z,r⟩
     ·rw[5,Nat.zero_lt_one,d]
     cases a
     rcases hp with rfl|rfl|rfl|rfl
     ·exact⟨.heights z,Y,.ds,Y⟩
     ·exact⟨.step z,Y,.ds,Y⟩
     ·exact⟨.back z,Y,.ds,Y⟩
     ·exact⟨.look z,Y,.ds,Y⟩
theorem Eb:∀{n:Nat} {l: .am} {raw:List .yl},PyFlat.calls PyVaunih.shape n l=some raw->(∀c∈raw.map PyVaunih.whole,.c (VaunihNeutral.asked1 c)/\ .ri (VaunihNeutral.callOf c))->
  ∃cs: .yj,l= .uS cs/\(.HA c)/\∀st,PyFlat.played VaunihNeutral.step st (raw.map PyVaunih.whole)=ij st cs
 |0,[],raw,h,_=>by cases h;exact⟨[],Y,λc B=>(by cases B),.ec⟩
 |n+1,[],raw,h,_=>by cases h;exact⟨[],Y,λc B=>(by cases B),.ec⟩
 |0,_::_,raw,h,_=>by cases h
 |n+1,p::r,raw,h,ha=>by
  unfold PyFlat.calls at h
  cases B:PyFlat.call PyVaunih.shape (p::r)with
  |none=>rw[3,B]
  |some y=>
   obtain⟨c,t⟩:=y
   rw[73,B]
   cases M:PyFlat.calls PyVaunih.shape n t with
   |none=>rw[3,M]
   |some cs=>
    rw[3,M]
    obtain⟨a1,a2⟩:=ha _ .aS
    obtain⟨k,h1,h2,h3⟩:=TJ B a1 a2
    obtain⟨ks,g1,g2,g3⟩:=Eb M λc B=>ha c (.aH B)
    refine⟨k::ks,by rw[h1,g1];rfl,.zr,λst=> ?_⟩
    ·rcases bu.mp W with rfl|W
     ·exact h2
     ·exact g2 x W
    ·rw[37,(VaunihNeutral.step st .yV).2::PyFlat.played VaunihNeutral.step (VaunihNeutral.step st .yV).1 (cs.map PyVaunih.whole),(.rB k)::ij (.bb k).1 ks,g3]
     unfold VaunihNeutral.step
     rw[19,h3]
theorem Mo{l: .am}(h: .c (PyVaunih.answers_asked l)):∃cs: .yj,l= .uS cs/\(.HA c)/\PyVaunih.answers l= .rC/\ .Hz .rC:=by
 unfold PyVaunih.answers_asked at h
 cases M:PyFlat.calls PyVaunih.shape l.length l with
 |none=>rw[3,M]
 |some raw=>
  rw[73,M];rw[bU,bU,bU,bU]at h;obtain⟨⟨⟨⟨_,_⟩,_⟩,h1⟩,h2⟩:=h;unfold VaunihNeutral.asked at h1;rw[bU,bU]at h1;obtain⟨⟨a1,a2⟩,_⟩:=h1;obtain⟨cs,F,D,s⟩:=Eb M λc B=>⟨j7.mp a1 c B,j7.mp a2 c B⟩;rw[131,PyVaunih.answers l,.rC,by unfold PyVaunih.answers PyVaunih.calls;rw[M];dsimp only;rw[s];rfl,⟨cs,F,D,e,by rw[<-e];exact bQ h2⟩]
end FC
namespace FC
open PySem PySem.W
noncomputable def kL(P:Params): .D:=([3,2,62,61,83,82,131,130,222,221,242,241,261,260,280,279,299,298,318,317,337,336,356,355,375,374,396,395,417,416,438,437,459,458,501,500,646,645,671,670,762,761,790,789,836,835,1013,1012,1034,1033,1055,1054,1266,1265,1353,1352,1395,1394,94,93,101,100,108,107,142,141,149,148,156,155,163,162,170,169,177,176,184,183,191,190,198,197,205,204,470,469,477,476,484,483,491,490,511,510,518,517,525,524,530,529,537,536,544,543,551,550,558,557,565,564,572,571,579,578,586,585,593,592,601,600,608,607,615,614,622,621,629,628,636,635,654,653,773,772,800,799,847,846,854,853,861,860,868,867,875,874,882,881,889,888,896,895,903,902,910,909,917,916,924,923,931,930,938,937,945,944,952,951,959,958,966,965,973,972,980,979,989,988,996,995,1066,1065,1073,1072,1080,1079,1087,1086,1094,1093,1101,1100,1108,1107,1115,1114,1122,1121,1129,1128,1136,1135,1143,1142,1150,1149,1158,1157,1165,1164,1172,1171,1179,1178,1186,1185,1193,1192,1200,1199,1207,1206,1214,1213,1221,1220,1228,1227,1277,1276,1284,1283,1291,1290,1298,1297,1305,1304,1312,1311,1319,1318,1326,1325,1331,1330,1336,1335,1406,1405,1413,1412,1420,1419,1427,1426,1434,1433,1441,1440,1448,1447,1455,1454,1462,1461,1469,1468,1476,1475,1483,1482,1490,1489,1497,1496,1505,1504,59,58,80,79,121,120,128,127,219,218,239,238,258,257,277,276,296,295,315,314,334,333,353,352,372,371,393,392,414,413,435,434,456,455,668,667,689,688,696,695,703,702,710,709,717,716,724,723,731,730,738,737,745,744,752,751,759,758,787,786,812,811,819,818,826,825,833,832,1010,1009,1031,1030,1052,1051,1242,1241,1249,1248,1256,1255,1263,1262,1350,1349,1371,1370,1378,1377,1385,1384,1392,1391,15,594,981,1151,16,17,18,19,20,21,22,23,24,25,26,27,28,29,30,31,32,34,35,36,37,38,39,40,41,42,43,44,45,109,1498]: .cY).map λa=>(a,((.FR).get a).getD default)
theorem Po(P:Params): .xQ (kL P) ((.FR).get p.1)= .ke (kL P) (.oK p):=by kernel_rfl
theorem Pn(P:Params): .xQ (kL P) (alive p.2)= .ke (kL P) (.oK p):=by kernel_rfl
theorem Pq(P:Params): .gO (kL P) (λp=>Nat.blt p.1 1506):=by kernel_rfl
theorem GC{α:Type}:∀{l: .hF Addr α} {a:Addr} {o:α},.qA l a->(a,o)∈l
 |[],_,_,h=>by cases h
 |(b,u)::l,a,o,h=>by
  rw[135,nH]
  ·rename_i e
   cases h
   rw[1,eq_of_beq e,.aS]
  ·exact .aH (GC h)
theorem AH{α β:Type}{f g:α->β}: .x9 (.lU l=l.map g->∀x∈l,f x=g x)
 |[],_,x,h=>by cases h
 |a::l,e,x,h=>by
  rw[d9,d9]at e
  injection e with e1 e2
  rcases bu.mp h with rfl|h
  ·exact e1
  ·exact AH e2 x h
theorem Pp(P:Params):Frag.In (kL P) (g_ P):=λa o h=>by have m:=GC h;have h1:=AH (Po P) _ m;have h2:=AH (Pn P) _ m;have h3:=j7.mp (Pq P) _ m;rw[abs_get (Dm h3) h1];exact h2
end FC
namespace FC
open PySem PySem.Spec PyProof.Rows L2
variable{P:Program}{w:World}{K:ag}{mg: .d}{base:Heap}
section
open PySem.W (Frag codeIn keepIn nsIn findIn mroIn typeIn isFn fnOf makesIn)
abbrev iT(K:Frag)(a:Addr):Obj:=(K.lookup a).getD default
def NH(K:Frag)(a:Addr): .lX:=match (iT K a).data with
 | .func fd=>fd
 |_=>default
abbrev uf(K:Frag)(x g:Str)(st:Stmt)(f:Addr): .lX:=fnOf x g (ja st) (hI st) .fu .none .none .none (NH K f).pyModule none (.ref (f-1)) .none
def gY(K:Frag)(a:Addr):ClassData:=match (iT K a).data with
 | .cls W=>W
 |_=>default
def BC(K:Frag)(a:Addr): .bf:=match (iT K a).data with
 | .seq vs _=>vs
 |_=> #[]
def E2(K:Frag)(a:Addr):Nat:=match (iT K a).data with
 | .seq _ n=>n
 | .dict _ n=>n
 |_=>0
def EV(K:Frag)(a:Addr):Array DictEntry:=match (iT K a).data with
 | .dict es _=>es
 |_=> #[]
section
variable{P:Program}{w:World}{K:Frag}{mg: .d}{h:Heap}
theorem mkFun{x g:Str}{st:Stmt}(f:Addr)(l: .O K f ⟨.type "function",none,.func (uf K x g st f),#[]⟩:=by kernel_rfl)(c: .c (codeIn K (.ref (f-1)) g):=by kernel_rfl)(k: .vD K .ai:=by kernel_rfl):fj K x g st f (uf K x g st f):=NZ l c k
noncomputable def aK{x:Str}{i:Nat}(X: .d0)(G: .lQ)(f:Addr)(F:fj K x x (top i) f (uf K x x (top i) f))(n:nsIn K .hL x= .jj f:=by kernel_rfl):aF K mg x i:=⟨f,_,F,gF X G n⟩
noncomputable def fz{x g:Str}{i j:Nat}(c f:Addr)(F:fj K x g (.dt i j) f (uf K x g (.dt i j) f))(a: .rZ K .bQ x (.jj f):=by kernel_rfl)(b: .c (isFn K .ai):=by kernel_rfl)(k: .vD K .ai:=by kernel_rfl):eB K c x g i j:=⟨f,_,F,⟨a,b,k⟩⟩
def AQ(K:Frag)(c:Addr)(x:Str):Bool:=match findIn K (.ref c) x with
 |some none=>true
 |_=>.a
theorem QZ{c:Addr}{x:Str}(e: .c (AQ K c x)):hG K c x:=by
 unfold AQ at e;split at e
 ·assumption
 ·cases e
theorem gu(c:Addr)(a1: .yM K c Str.empty:=by kernel_rfl)(a2: .rP c:=by kernel_rfl)(a3: .Ii K c:=by kernel_rfl)(a4: .rZ K .bQ "__setattr__" .vf:=by kernel_rfl):eL K c:=⟨a1,a2,a3,a4⟩
theorem gw(c f:Addr)(b1: .c (makesIn K c):=by kernel_rfl)(b2: .J3 K .bQ= .jj f:=by kernel_rfl)(s: .c (isFn K .ai):=by kernel_rfl)(a: .vD K .bQ:=by kernel_rfl):Mk K c f:=⟨b1,b2,s,a⟩
noncomputable def gs{x d:Str}{i:Nat}{b: .H}(X: .d0)(G: .lQ)(c f:Addr)(cl:eL K c)(F: .xs K d (.dt i 0) f (uf K "__init__" d (.dt i 0) f))(m:Mk K c f)(n:nsIn K .hL x= .jj c:=by kernel_rfl)(na: .gO b (AQ K c):=by kernel_rfl):eV K mg x d i b:=⟨c,cl,gF X G n,λa N=>QZ (j7.mp na a N),f,_,F,m⟩
theorem kx(c:Addr)(l: .O K c (excClassObj (gY K c).name (gY K c).qualname c (gY K c).ns (gY K c).bases (gY K c).mro.tail (gY K c).hasDict (gY K c).slotNames (gY K c).subclasses (gY K c).abstract (gY K c).collection (iT K c).dict ((iT K c).slots.getD 0 none) ((iT K c).slots.getD 1 none) ((iT K c).slots.getD 2 none) ((iT K c).slots.getD 3 none) ((iT K c).slots.getD 5 none) "Exception.__new__"):=by kernel_rfl) (h1: .c (.DO K c .J5):=by kernel_rfl)(h2: .c (.DO K c .jf):=by kernel_rfl)(h3: .DO K c (.type "AttributeError")= .a:=by kernel_rfl)(h4: .DO K c (.type "NameError")= .a:=by kernel_rfl)(h5: .c (gY K c).hasDict:=by kernel_rfl):jG K c:=⟨⟨.l2,.l2,.l2,.l2,l,.p2⟩⟩
theorem jQ(c C:Addr)(h1: .vC C .jf= .d2:=by kernel_rfl)(h2: .DN .w= .p3:=by kernel_rfl)(h3: .vC c .w= .d2:=by kernel_rfl): .kd .bQ C:=⟨.cc,c,Y,h3⟩
theorem mI(C:Addr)(f:Str)(h1: .c (ym K C):=by kernel_rfl)(h2: .rP C:=by kernel_rfl)(h3: .rZ K .w f .ph:=by kernel_rfl)(h4: .rZ K .w "__setattr__" .vf:=by kernel_rfl)(h5: .rZ K .w "__getattribute__" .J4:=by kernel_rfl)(j: .rZ K .w "__getattr__" .ph:=by kernel_rfl)(m: .vC C .jf= .d2:=by kernel_rfl):k_ K C f:=⟨.p2,j,m⟩
theorem mJ(C f:Addr)(x:jG K C)(h1: .J3 K .w= .jj f:=by kernel_rfl)(h2: .DN .ai= .Dl:=by kernel_rfl)(h3: .vD K .w:=by kernel_rfl)(h4: .vC C .jf= .d2:=by kernel_rfl)(h5: .DN .w= .p3:=by kernel_rfl):nS K C f:=⟨x,.p2⟩
theorem GO(C:Addr)(x:jG K C)(h1: .J3 K .w= .nq "Exception.__init__":=by kernel_rfl)(h3: .vD K .w:=by kernel_rfl)(h4: .vC C .jf= .d2:=by kernel_rfl)(h5: .DN .w= .p3:=by kernel_rfl):sN K C:=⟨x,h1,h3,h4,h5⟩
theorem QJ(C:Addr)(m:Str)(f:Addr)(h1:PySem.W.specialIn K .w "__getattribute__"= .nq "type.__getattribute__":=by kernel_rfl)(h2: .c (PySem.W.readsIn K C .vE):=by kernel_rfl)(h3:PySem.W.findCls K .w .vE m= .J2 .ai:=by kernel_rfl)(h4: .vD K .ai:=by kernel_rfl):yG K C m f:=⟨.sm⟩
theorem uB(c:Addr)(h1: .rZ K .bQ "__class__" .G4:=by kernel_rfl)(h2: .G3 K .zx= .G2:=by kernel_rfl)(h3: .G1 K= .d2:=by kernel_rfl)(h4: .vC c .Be= .d2:=by kernel_rfl)(h5: .G0 K .bQ "str"=some .a:=by kernel_rfl):nL K c:=⟨.p2⟩
def By:L2.V-> .c1 .aw
 | .str x,.str y _=>.a9 y x
 | .ref a,.ref b=>a==b
 |_,_=>.a
def xI: .N-> .c1 .q
 |[],[]=>true
 |v::vs,u::us=>By v u&&xI vs us
 |_,_=>.a
theorem Vf:∀{v:L2.V} {u:Value},.c (By v u)-> .cA
 | .str x,.str y t,e=>⟨t,by rw[bQ (show .c (.a9 y x)from e)]⟩
 | .ref a,.ref b,e=>by rw[eq_of_beq (show .eh a b from e)];rfl
theorem IK:∀{vs: .N} {us: .q},.c (xI vs us)-> .h1
 |[],[],_=>.nil
 |v::vs,u::us,e=>by
  rw[114,.c (By v u&&xI vs us)]
  rw[bU]at M
  rw[62,Vf M.1,IK M.2]
theorem cV{xs: .N}(a:Addr)(l: .O K a ⟨.h2,(iT K a).dict,.seq (BC K a) (E2 K a),(iT K a).slots⟩:=by kernel_rfl)(s: .FP (BC K a).size .W:=by kernel_rfl)(v: .c (xI xs (BC K a).toList):=by kernel_rfl):cK K a xs:=⟨.cT,l,Y,Y,Dm s,IK v⟩
noncomputable def xf{x:Str}{xs: .N}(X: .d0)(G: .lQ)(a:Addr)(t:cK K a xs)(n:nsIn K .hL x= .jj a:=by kernel_rfl):sL K mg x xs:=⟨a,gF X G n,t⟩
def AB(e:DictEntry):Option Str:=match e.key with
 | .str x _=>.aa
 |_=>none
def Bx(e:DictEntry): .aU:=match e.val with
 | .ref a=>some a
 |_=>none
theorem EW:∀{es:List DictEntry} {tb: .cJ},es.map (λe=>(e.hash,AB e,Bx e))= .xQ tb (PySem.PyData.keyHash .dc p.1,some p.1,.oK p)->
  (∀e∈es,∃k,.yt P w k e.key/\e.hash=(ku P w).hash k)/\Pairs (ku P w) es (.ke tb (.rS p.1,Value.ref p.2))
 |[],[],_=>⟨λe h=>(by cases h),.nil⟩
 |[],_::_,h=>by cases h
 |_::_,[],h=>by cases h
 |e::es,p::tb,h=>by
  rw[d9,d9]at h
  injection h with h1 h2
  injection h1 with a1 a2
  injection a2 with a2 a3
  obtain⟨b,c⟩:=EW h2
  have f:∃t,e.key= .str p.1 t:=by
   unfold AB at a2
   split at a2
   ·rename_i x t q;cases a2;exact⟨t,q⟩
   ·cases a2
  have d:e.val= .ref p.2:=by
   unfold Bx at a3
   split at a3
   ·rename_i x q;cases a3;exact q
   ·cases a3
  obtain⟨t,f⟩:=f
  rw[281,.yt P w (Sum.inr p.1) e.key,f,bC Y]
  refine⟨.zr,.cons a d c⟩
  rcases bu.mp W with rfl|W
  ·exact⟨_,a,a1⟩
  ·exact b x W
theorem xc(tb: .cJ)(a:Addr)(l: .O K a ⟨.type "dict",none,.dict (EV K a) (E2 K a),#[]⟩:=by kernel_rfl)(e:(EV K a).toList.map (λe=>(e.hash,AB e,Bx e))= .xQ tb (PySem.PyData.keyHash .dc p.1,some p.1,.oK p):=by kernel_rfl)(n: .c (decide (.cC tb).Nodup):=by decide+kernel)(s:(.BH a)= .a:=by decide):KD K P w a (.ke tb (.rS p.1,L2.V.ref p.2)):=by
 rw[93,EW (P:=P) e,⟨s,.ke tb (.rS p.1,Value.ref p.2),?_,λh X=>⟨.cT,X _ _ l,⟨.f6⟩,Y,λe g=>h1 e (KC.mpr g),h2,?_⟩⟩]
 ·clear n e h1 h2
  induction tb with
  |nil=>rw[71]
  |cons p t j=>rw[62,⟨Y,Y⟩,j]
 ·have:=bQ n;rw[fo];show(tb.map ((Sum.inr: .ju Key)∘(·.1))).Nodup;rw[32,fo,this.map _ λx y h q=>h (Sum.inr.inj q)]
noncomputable def xb{x:Str}{F: .xr L2.V}(X: .d0)(G: .lQ)(a:Addr)(t:KD K P w a F)(n:nsIn K .hL x= .jj a:=by kernel_rfl):rJ P w K mg x F:=⟨a,gF X G n,t⟩
def Au(K:Frag)(p:Str×Int):Bool:=match nsIn K mainGlobals p.1 with
 |some (some (.int n _))=>.a9 n p.2
 |_=>.a
theorem Av(X: .d0)(G: .lQ){p:Str×Int}(e: .c (Au K p)):∃t,mg p.1= .tN p.2:=by
 unfold Au at e;split at e
 ·rename_i n t q;rw[32,bQ e,⟨t,gF X G q⟩]
 ·cases e
def zY(K:Frag)(x:Str):Bool:=match nsIn K mainGlobals x with
 |some none=>true
 |_=>.a
theorem My(X: .d0)(G: .lQ){x:Str}(e: .c (zY K x)):mg x=none:=by
 unfold zY at e;split at e
 ·exact qm X G (by assumption)
 ·cases e
def JL(K:Frag)(x y:Str):Bool:=match nsIn K mainGlobals x with
 |some (some (.str z _))=>.a9 z y
 |_=>.a
theorem JM(X: .d0)(G: .lQ)(x y:Str)(e: .c (JL K x y):=by kernel_rfl):∃t,mg x= .oc y t:=by
 unfold JL at e;split at e
 ·rename_i n t q;rw[32,bQ e,⟨t,gF X G q⟩]
 ·cases e
end
end
def JW: .cJ:=.ke ([("num",16),("true",17),("false",18),("nil",19),("get",20),("bind",21),("free",22),("skip",23),("unless",24),("part",25),("pair",26),("fst",27),("snd",28),("cons",29),("add",30),("sub",31),("mul",32),("div",34),("floor",35),("rest",36),("pow",37),("root",38),("less",39),("same",40),("call",41),("fold",42),("ret",43)]: .FZ Addr) (Str.ofString p.1,p.2)
section
variable{w:World}{mg: .d}{h:Heap}(X:PySem.W.Frag.In .hz h)(G: .lQ)
noncomputable def dR:dW .hz mg:=⟨222,219,_,mkFun 219,.ja X G 222,QJ 222 "__init__" 219,.vB X G⟩
noncomputable def M4:iz .hz mg:=⟨dR X G,gs X G 375 372 (gu 375) (mkFun 372) (gw 375 372),⟨242,239,_,mkFun 239,.ja X G 242,mJ 242 239 (kx 242),mI 242 "number",jQ 242 222⟩,⟨261,258,_,mkFun 258,.ja X G 261,mJ 261 258 (kx 261),mI 261 "number",jQ 261 222⟩,⟨280,277,_,mkFun 277,.ja X G 280,mJ 280 277 (kx 280),mI 280 "number",jQ 280 222⟩,Av X G (p:=("MOST_WEIGHT",200)) (by kernel_rfl),aK X G 544 (mkFun 544),aK X G 551 (mkFun 551),aK X G 558 (mkFun 558),aK X G 565 (mkFun 565),aK X G 572 (mkFun 572)⟩
noncomputable def M5:nD .hz mg:=⟨M4 X G,aK X G 579 (mkFun 579),aK X G 586 (mkFun 586),aK X G 593 (mkFun 593),aK X G 629 (mkFun 629),aK X G 636 (mkFun 636)⟩
noncomputable def M6:yJ .hz mg:=⟨M5 X G,aK X G 608 (mkFun 608),.vB X G,.vB X G,.vB X G⟩
noncomputable def Na:sJ .hz mg:=⟨gs X G 417 414 (gu 417) (mkFun 414) (gw 417 414),aK X G 470 (mkFun 470),aK X G 477 (mkFun 477),aK X G 484 (mkFun 484),aK X G 491 (mkFun 491),.vB X G⟩
noncomputable def M_:dw .hz mg:=⟨gs X G 62 59 (gu 62) (mkFun 59) (gw 62 59),gs X G 396 393 (gu 396) (mkFun 393) (gw 396 393),gs X G 438 435 (gu 438) (mkFun 435) (gw 438 435),gs X G 459 456 (gu 459) (mkFun 456) (gw 459 456),Na X G,M6 X G,aK X G 889 (mkFun 889),aK X G 896 (mkFun 896),aK X G 903 (mkFun 903),aK X G 910 (mkFun 910),aK X G 917 (mkFun 917),aK X G 924 (mkFun 924),aK X G 931 (mkFun 931),aK X G 938 (mkFun 938),aK X G 945 (mkFun 945),aK X G 952 (mkFun 952),aK X G 959 (mkFun 959),aK X G 966 (mkFun 966),aK X G 973 (mkFun 973),aK X G 980 (mkFun 980)⟩
noncomputable def M9:vp .hz mg:=⟨⟨501,.ja X G 501,GO 501 (kx 501)⟩,aK X G 518 (mkFun 518),Av X G (p:=("MOST_DIVISIONS",5000)) (by kernel_rfl),.vB X G⟩
noncomputable def M8:rO .hz mg:=⟨gs X G 1013 1010 (gu 1013) (mkFun 1010) (gw 1013 1010),gs X G 1034 1031 (gu 1034) (mkFun 1031) (gw 1034 1031),aK X G 1066 (mkFun 1066),aK X G 1073 (mkFun 1073)⟩
noncomputable def txt:Txt .FJ w .hz mg where
 gi:=M_ X G
 gc:=M9 X G
 oG:=jQ 501 501
 fr:=M8 X G
 run:=gs X G 1055 1052 (gu 1055) (mkFun 1052) (gw 1055 1052)
 qT:=⟨299,296,_,mkFun 296,.ja X G 299,mJ 299 296 (kx 299),mI 299 "number",jQ 299 222⟩
 rA:=⟨318,315,_,mkFun 315,.ja X G 318,mJ 318 315 (kx 318),mI 318 "number",jQ 318 222⟩
 hB:=⟨337,334,_,mkFun 334,.ja X G 337,mJ 337 334 (kx 337),mI 337 "number",jQ 337 222⟩
 dI:=⟨356,353,_,mkFun 353,.ja X G 356,mJ 356 353 (kx 356),mI 356 "number",jQ 356 222⟩
 Vd:=jQ 222 222
 c_:=⟨790,787,_,mkFun 787,.ja X G 790,mJ 790 787 (kx 790),mI 790 "place",jQ 790 790⟩
 jS:=⟨646,.ja X G 646,GO 646 (kx 646),jQ 646 646⟩
 block:=gs X G 83 80 (gu 83) (mkFun 80) (gw 83 80)
 held:=gs X G 1353 1350 (gu 1353) (mkFun 1350) (gw 1353 1350)
 calls:=gs X G 1395 1371 (gu 1395) (mkFun 1371) (gw 1395 1371)
 bW:=gs X G 131 121 (gu 131) (mkFun 121) (gw 131 121)
 opened:=gs X G 671 668 (gu 671) (mkFun 668) (gw 671 668)
 cy:=gs X G 762 689 (gu 762) (mkFun 689) (gw 762 689)
 tokens:=gs X G 836 812 (gu 836) (mkFun 812) (gw 836 812)
 telling:=gs X G 1266 1242 (gu 1266) (mkFun 1242) (gw 1266 1242)
 qQ:=fz 131 128 (mkFun 128)
 ko:=fz 762 696 (mkFun 696)
 qP:=fz 762 703 (mkFun 703)
 uv:=fz 762 710 (mkFun 710)
 mG:=fz 762 717 (mkFun 717)
 uw:=fz 762 724 (mkFun 724)
 oO:=fz 762 731 (mkFun 731)
 ux:=fz 762 738 (mkFun 738)
 uy:=fz 762 745 (mkFun 745)
 uz:=fz 762 752 (mkFun 752)
 ur:=fz 762 759 (mkFun 759)
 oR:=fz 836 819 (mkFun 819)
 kr:=fz 836 826 (mkFun 826)
 kq:=fz 836 833 (mkFun 833)
 oP:=fz 1266 1249 (mkFun 1249)
 oQ:=fz 1266 1256 (mkFun 1256)
 qR:=fz 1266 1263 (mkFun 1263)
 uq:=fz 1395 1378 (mkFun 1378)
 jf:=fz 1395 1385 (mkFun 1385)
 oN:=fz 1395 1392 (mkFun 1392)
 oj:=aK X G 1094 (mkFun 1094)
 oa:=aK X G 1101 (mkFun 1101)
 md:=aK X G 1108 (mkFun 1108)
 oq:=aK X G 1115 (mkFun 1115)
 ou:=aK X G 1122 (mkFun 1122)
 om:=aK X G 1129 (mkFun 1129)
 tR:=aK X G 94 (mkFun 94)
 oC:=aK X G 101 (mkFun 101)
 tL:=aK X G 108 (mkFun 108)
 qv:=aK X G 142 (mkFun 142)
 tP:=aK X G 149 (mkFun 149)
 tQ:=aK X G 156 (mkFun 156)
 tH:=aK X G 163 (mkFun 163)
 tG:=aK X G 170 (mkFun 170)
 tS:=aK X G 177 (mkFun 177)
 tN:=aK X G 184 (mkFun 184)
 qw:=aK X G 191 (mkFun 191)
 tD:=aK X G 198 (mkFun 198)
 tx:=aK X G 205 (mkFun 205)
 oA:=aK X G 511 (mkFun 511)
 n9:=aK X G 525 (mkFun 525)
 mj:=aK X G 530 (mkFun 530)
 ow:=aK X G 537 (mkFun 537)
 ue:=aK X G 601 (mkFun 601)
 qE:=aK X G 615 (mkFun 615)
 t8:=aK X G 622 (mkFun 622)
 oy:=aK X G 654 (mkFun 654)
 tY:=aK X G 773 (mkFun 773)
 uc:=aK X G 800 (mkFun 800)
 mm:=aK X G 847 (mkFun 847)
 t7:=aK X G 854 (mkFun 854)
 t6:=aK X G 861 (mkFun 861)
 tZ:=aK X G 868 (mkFun 868)
 qC:=aK X G 875 (mkFun 875)
 tX:=aK X G 882 (mkFun 882)
 tU:=aK X G 989 (mkFun 989)
 tK:=aK X G 996 (mkFun 996)
 qA:=aK X G 1080 (mkFun 1080)
 n_:=aK X G 1087 (mkFun 1087)
 og:=aK X G 1136 (mkFun 1136)
 oh:=aK X G 1143 (mkFun 1143)
 oo:=aK X G 1150 (mkFun 1150)
 tT:=aK X G 1158 (mkFun 1158)
 ua:=aK X G 1165 (mkFun 1165)
 t9:=aK X G 1172 (mkFun 1172)
 t_:=aK X G 1179 (mkFun 1179)
 qx:=aK X G 1186 (mkFun 1186)
 qy:=aK X G 1193 (mkFun 1193)
 tF:=aK X G 1200 (mkFun 1200)
 tM:=aK X G 1207 (mkFun 1207)
 qz:=aK X G 1214 (mkFun 1214)
 tO:=aK X G 1221 (mkFun 1221)
 tE:=aK X G 1228 (mkFun 1228)
 jK:=aK X G 1277 (mkFun 1277)
 tW:=aK X G 1284 (mkFun 1284)
 tV:=aK X G 1291 (mkFun 1291)
 oD:=aK X G 1298 (mkFun 1298)
 ud:=aK X G 1305 (mkFun 1305)
 tJ:=aK X G 1312 (mkFun 1312)
 tI:=aK X G 1319 (mkFun 1319)
 oB:=aK X G 1326 (mkFun 1326)
 ub:=aK X G 1331 (mkFun 1331)
 oz:=aK X G 1336 (mkFun 1336)
 qB:=aK X G 1406 (mkFun 1406)
 mh:=aK X G 1413 (mkFun 1413)
 l_:=aK X G 1420 (mkFun 1420)
 mq:=aK X G 1427 (mkFun 1427)
 mf:=aK X G 1434 (mkFun 1434)
 l9:=aK X G 1441 (mkFun 1441)
 qD:=aK X G 1448 (mkFun 1448)
 mr:=aK X G 1455 (mkFun 1455)
 mn:=aK X G 1462 (mkFun 1462)
 l8:=aK X G 1469 (mkFun 1469)
 lZ:=aK X G 1476 (mkFun 1476)
 me:=aK X G 1483 (mkFun 1483)
 mi:=aK X G 1490 (mkFun 1490)
 ma:=aK X G 1497 (mkFun 1497)
 lh:=aK X G 1505 (mkFun 1505)
 oH:=λp hp=>Av X G (j7.mp (show .gO wO (Au .hz) by kernel_rfl) p hp)
 Fj:=λx W=>My X G (j7.mp (show .gO zZ (zY .hz) by kernel_rfl) x W)
 bJ:=xf X G 44 (cV 44)
 ya:=xf X G 45 (cV 45)
 pA:=xf X G 109 (cV 109)
 bK:=λx=>.px (JW.lookup x)
 bI:=xb X G 15 (xc (.fF (.Gv .H) (x,.px (JW.lookup x))) 15)
 Ge:=cV 16
 Gr:=cV 17
 F5:=cV 18
 Gd:=cV 19
 F_:=cV 20
 F1:=cV 21
 F8:=cV 22
 Gn:=cV 23
 Gs:=cV 24
 Gg:=cV 25
 Gf:=cV 26
 F9:=cV 27
 Gp:=cV 28
 F3:=cV 29
 F0:=cV 30
 Gq:=cV 31
 Gb:=cV 32
 F4:=cV 34
 F6:=cV 35
 Gi:=cV 36
 Gh:=cV 37
 Gk:=cV 38
 Ga:=cV 39
 Gm:=cV 40
 F2:=cV 41
 F7:=cV 42
 Gj:=cV 43
 ir:=xb X G 594 (xc [("add",551),("sub",558),("mul",565),("div",579),("floor",586),("rest",593)] 594)
 cv:=xb X G 981 (xc [("num",889),("true",896),("false",903),("nil",910),("fn",917),("pair",924),("fst",931),("snd",938),("cons",945),("add",952),("sub",952),("mul",952),("div",952),("floor",952),("rest",952),("pow",959),("root",966),("less",973),("same",980)] 981)
 fB:=xb X G 1151 (xc [("get",1094),("bind",1101),("free",1108),("skip",1115),("unless",1122),("part",1129),("call",1136),("fold",1143),("ret",1150)] 1151)
 x_:=xf X G 1498 (cV 1498)
 Fh:=JM X G _ _
 Am:=JM X G _ _
 G6:=uB 375
 G8:=uB 396
 AS:=uB 417
 G7:=uB 438
 G5:=uB 459
end
end FC
namespace L2
open PySem PySem.Spec PyProof.Rows
open PySem.W (WData Codec OpenSpec Well WellAll ReadsW ReadsAllW)
mutual
inductive Dw(K:ag)(H:Hp): .bk V WData
 |au:Dw K H .au .none
 |bl (b:Bool):Dw K H .ev (.bool b)
 |int (i:Int):Dw K H .aL .aL
 |str (x:Str):Dw K H .iD .iD
 |gp (b: .FH):Dw K H (.gp b) (.bytes b.toList)
 |lst {a:Addr} {xs: .s} {ds: .ez}: .fh->jx K H xs ds->Dw K H .B (.list ds)
 |tup {a:Addr} {xs: .s} {ds: .ez}: .eq->jx K H xs ds->Dw K H .B (.tuple ds)
inductive jx(K:ag)(H:Hp): .bk .s .ez
 |nil:jx K H [] []
 |cons {v:V} {vs: .s} {d:WData} {ds: .ez}:Dw K H v d->jx K H vs ds->jx K H (v::vs) (d::ds)
end
theorem EZ{K:ag}{H:Hp}:∀ns: .am,jx K H (.nZ V.int) (.nZ WData.int)
 |[]=>.nil
 |n::r=>.cons .br (EZ r)
theorem FN{K:ag}{H:Hp}:∀(ns: .am) (xs: .s),jx K H xs (.nZ WData.int)->xs= .nZ V.int
 |[],xs,h=>by
  cases h
  rfl
 |n::r,xs,h=>by
  cases h with
  |cons h1 h2=>
   cases h1
   rw[FN r _ h2]<;>rfl
section
variable{P:Program}{w:World}{K:ag}{H:Hp}{h:Heap}{R:PySem.W.WRecords}{cl: .ju .aU}
theorem XJ{a:Addr}{xs: .s}(aw: .iE)(T: .d0)(q: .fh):∃(g: .q) (o:Obj) (n:Nat),.h3 g/\ .tI a/\o.cls= .o7/\ .gZ= .seq .aO n:=by
 rcases q with q|⟨o,g,n,e,B,_,hd,_,D⟩
 ·obtain⟨_,g,n,D,e⟩:=(show dk P w H h a (.lst xs)from q.ok aw);exact⟨g,_,n,D,e,Y,Y⟩
 ·exact⟨.qH,o,n,D,T _ _ e,B,by simp[hd]⟩
theorem XM{a:Addr}{xs: .s}(aw: .iE)(T: .d0)(q: .eq):∃(g: .q) (o:Obj) (n:Nat),.h3 g/\ .tI a/\o.cls= .h2/\ .gZ= .seq .aO n:=by
 rcases q with q|⟨o,g,n,e,B,hd,_,D⟩
 ·obtain⟨_,g,D,o,e,B,n,hd⟩:=(show dk P w H h a (.tup xs)from q.ok aw);exact⟨g,o,n,D,e,B,hd⟩
 ·exact⟨.qH,o,n,D,T _ _ e,B,by simp[hd]⟩
mutual
theorem Dw.reads(aw: .iE)(KX: .d0):∀(d:WData) (v:V) (u:Value),Dw K H v d-> .cA->∃as,ReadsW R cl h u d as
 | .none,_,_,x,r=>by
  rw[295,⟨_,ReadsW.none⟩]
 | .bool b,_,_,x,r=>by
  rw[295,⟨_,ReadsW.bool b⟩]
 | .int i,_,_,x,r=>by
  rw[296,⟨_,ReadsW.int i t⟩]
 | .str s,_,_,x,r=>by
  rw[296,⟨_,ReadsW.str s t⟩]
 | .bytes b,_,_,x,r=>by
  rw[296,⟨_,ReadsW.bytes _ t⟩]
 | .list ds,_,_,x,r=>by
  cases x with
  |lst hs ha=>
   cases r
   obtain⟨its,o,n,rv,ho,hc,hd⟩:=XJ aw KX hs
   rw[216,Dw.readsAll aw KX ds _ its ha rv,⟨_,ReadsW.list ho hc hd hr⟩]
 | .tuple ds,_,_,x,r=>by
  cases x with
  |tup hs ha=>
   cases r
   obtain⟨its,o,n,rv,ho,hc,hd⟩:=XM aw KX hs
   rw[216,Dw.readsAll aw KX ds _ its ha rv,⟨_,ReadsW.tuple ho hc hd hr⟩]
 | .float _,_,_,x,_=>by cases x
 | .dict _,_,_,x,_=>by cases x
 | .bytearray _,_,_,x,_=>by cases x
 | .set _,_,_,x,_=>by cases x
 | .frozenset _,_,_,x,_=>by cases x
 | .obj _ _,_,_,x,_=>by cases x
theorem Dw.readsAll(aw: .iE)(KX: .d0):∀(ds: .ez) (vs: .s) (us: .q),jx K H vs ds-> .h1->∃as,ReadsAllW R cl h us ds as
 |[],_,_,x,r=>by
  rw[295,⟨_,ReadsAllW.nil⟩]
 |d::ds,_,_,x,r=>by
  cases x with
  |cons h1 h2=>
   cases r with
   |cons r1 r2=>
    obtain⟨as,q1⟩:=Dw.reads aw KX d _ _ h1 r1
    obtain⟨bs,q2⟩:=Dw.readsAll aw KX ds _ _ h2 r2
    exact⟨_,ReadsAllW.cons q1 q2⟩
end
end
mutual
def ih: .c1 WData
 | .none=>true
 | .bool _=>true
 | .int _=>true
 | .str _=>true
 | .bytes _=>true
 | .list xs=>jm xs
 | .tuple xs=>jm xs
 |_=>.a
def jm: .c1 .ez
 |[]=>true
 |x::r=>ih x&&jm r
end
theorem Ie{α:Type}{f:α->WData}(h:∀a,.xp (f a)):∀l: .av,.qD (.lU l)
 |[]=>rfl
 |x::r=>by
  show .c (ih (f x)&&jm (.lU r))
  rw[h x,Ie h r]<;>rfl
theorem mX:∀(c:Codec) (a:c.denote),.c (.qG c a)
 | .unit,_=>rfl
 | .bool,_=>rfl
 | .int _ _,_=>rfl
 | .nat _ _,_=>rfl
 | .u8,_=>rfl
 | .bytes _ _,_=>rfl
 | .text _ _ _ _,_=>rfl
 | .list _ _ c,a=>Ie (λx=>mX c x) a
 | .pair c d,a=>by
  show .c (.qG c a.1&&(.qG d a.2&&true))
  rw[mX c a.1,mX d a.2]<;>rfl
 | .triple c d e,a=>by
  show .c (.qG c a.1&&(.qG d a.2.1&&(.qG e (.bA a)&&true)))
  rw[mX c a.1,mX d a.2.1,mX e (.bA a)]<;>rfl
 | .option c,none=>rfl
 | .option c,some x=>mX c x
theorem Ig:∀(cs:List Codec) (a:Codec.denoteAll cs),.qD (.B4 a)
 |[],_=>rfl
 |c::cs,a=>by
  show .c (.qG c a.1&&jm (.B4 a.2))
  rw[mX c a.1,Ig cs a.2]<;>rfl
theorem B9:∀{xs: .ez} {d:WData},d∈xs->d.weight<=WData.weightAll xs
 |[],d,h=>.hW h
 |x::r,d,h=>by
  show d.weight<=x.weight+1+WData.weightAll r
  rcases bu.mp h with e|m
  ·rw[28,e]
  ·have z:=B9 m
   omega
def toV: .aw->V
 | .none=>.au
 | .bool b=>.ev
 | .int i _=>.aL
 | .str x _=>.iD
 | .bytes b _=>.gp b
 | .ref a=>.B
 |_=>.au
def iH(A: .g): .ap .aw
 | .none=>True
 | .bool _=>True
 | .int _ _=>True
 | .str _ _=>True
 | .bytes _ _=>True
 | .ref a=>a∈A
 |_=>.bU
theorem iH.mono{A B: .g}(h:∀a∈A,a∈B):∀{u:Value},iH A u->iH B u:=λ{u} x=>by
 cases u with
 |ref a=>exact h a x
 |none=>trivial
 |bool b=>trivial
 |int i t=>trivial
 |str s t=>trivial
 |bytes b t=>trivial
 |_=>rw[21,x]
theorem Vh{A: .g}{u:Value}(x:iH A u): .fB (toV u):=by
 cases u with
 |ref a=>rfl
 |none=>rfl
 |bool b=>rfl
 |int i t=>exact⟨t,Y⟩
 |str s t=>exact⟨t,Y⟩
 |bytes b t=>exact⟨t,Y⟩
 |_=>rw[21,x]
theorem rB{A: .g}:∀{vs: .q},(.qF A u)->Vals .o6 vs
 |[],_=>.nil
 |u::r,h=>.cons (Vh (h u .aS)) (rB λx W=>.k1 x W)
def iY(h:Heap)(A: .g)(a:Addr):Prop:=∃vs: .q,.aT vs/\(.qF A u)/\(.eA .lT∨ .eA .lS)
theorem iY.mono{h:Heap}{A B: .g}{a:Addr}(k:∀a∈A,a∈B)(x:iY h A a):iY h B a:=by obtain⟨vs,h1,h2,h3⟩:=x;exact⟨vs,h1,λu L=>(h2 u L).mono k,h3⟩
theorem ye{P:Params}{h:Heap}:∀{vs: .q} {ds: .ez},.qE P h vs-> .jU vs ds
 |_,_,.nil=>rfl
 |_,_,.cons _ b=>by
  rw[37,_+1,_+1,ye b]
theorem Kg{P:Params}{h:Heap}{v:Value}{ds: .ez}(x:Well P h v (.list ds)):∃(a:Addr) (vs: .q),v= .B/\ .eA .lT/\ .qE P h vs:=by
 cases x with
 |list d c=>exact⟨.h,d,c⟩
theorem Kh{P:Params}{h:Heap}{v:Value}{ds: .ez}(x:Well P h v (.tuple ds)):∃(a:Addr) (vs: .q),v= .B/\ .eA .lS/\ .qE P h vs:=by
 cases x with
 |tuple d c=>exact⟨.h,d,c⟩
theorem Kf{P:Params}{h:Heap}{us: .q}{d:WData}{ds: .ez}(x:WellAll P h us (d::ds)):∃(v:Value) (vs: .q),us=v::vs/\Well P h v d/\ .qE P h vs:=by
 cases x with
 |cons a b=>exact⟨.h,a,b⟩
theorem GA{n:Nat}(h:n<=1048576):n<= .W:=.qn h
section
variable{P:Params}{h:Heap}
mutual
theorem Mh:∀(d:WData) (v:Value),Well P h v d-> .xp d->d.weight<=1048576->∃A: .g,iH A v/\ .lR h A a
 | .none,_,x,_,_=>by
  rw[66,⟨[],.ds,.tH m⟩]
 | .bool b,_,x,_,_=>by
  rw[66,⟨[],.ds,.tH m⟩]
 | .int i,_,x,_,_=>by
  rw[66,⟨[],.ds,.tH m⟩]
 | .str s,_,x,_,_=>by
  rw[66,⟨[],.ds,.tH m⟩]
 | .bytes b,_,x,_,_=>by
  rw[66,⟨[],.ds,.tH m⟩]
 | .list ds,_,x,p,z=>by
  obtain⟨a,vs,rfl,ho,hall⟩:=Kg x
  have z2:WData.weightAll ds<=1048576:=z
  obtain⟨A,h1,h2⟩:=wh ds _ hall p λd hd=>cn (B9 hd) z2
  have k:∀b∈A,b∈a::A:=λb hb=>.aH hb
  refine⟨a::A,.aS,.FG⟩
  rcases bu.mp hb with e|m
  ·rw[55,⟨vs,GA (.FE hall (cn (LM ds) z2)),λu hu=>(h1 u hu).mono k,.inl ho⟩]
  ·exact(h2 b m).mono k
 | .tuple ds,_,x,p,z=>by
  obtain⟨a,vs,rfl,ho,hall⟩:=Kh x
  have z2:WData.weightAll ds<=1048576:=z
  obtain⟨A,h1,h2⟩:=wh ds _ hall p λd hd=>cn (B9 hd) z2
  have k:∀b∈A,b∈a::A:=λb hb=>.aH hb
  refine⟨a::A,.aS,.FG⟩
  rcases bu.mp hb with e|m
  ·rw[55,⟨vs,GA (.FE hall (cn (LM ds) z2)),λu hu=>(h1 u hu).mono k,.inr ho⟩]
  ·exact(h2 b m).mono k
 | .float _,_,_,p,_=>.h0
 | .dict _,_,_,p,_=>.h0
 | .bytearray _,_,_,p,_=>.h0
 | .set _,_,_,p,_=>.h0
 | .frozenset _,_,_,p,_=>.h0
 | .obj _ _,_,_,p,_=>.h0
theorem wh:∀(ds: .ez) (vs: .q),.qE P h vs-> .qD ds->(.FB d)->∃A: .g,(.qF A u)/\ .lR h A a
 |[],_,x,_,_=>by
  rw[66,⟨[],λu m=>.hW m,.tH m⟩]
 |d::ds,_,x,p,z=>by
  obtain⟨v,vs,rfl,x1,x2⟩:=Kf x
  have q: .xp d/\ .qD ds:=Cm.mp p
  obtain⟨A,a1,a2⟩:=Mh d v x1 q.1 (z d .aS)
  obtain⟨B,b1,b2⟩:=wh ds vs x2 q.2 λe he=>z e (.aH he)
  have kA:∀b∈A,b∈A++B:=λb hb=>.tG gV hb
  have kB:∀b∈B,b∈A++B:=λb hb=>gV.mpr (.inr hb)
  refine⟨A++B,λu hu=> ?_,.FG⟩
  ·rcases bu.mp hu with e|m
   ·rw[55,a1.mono kA]
   ·exact(b1 u m).mono kB
  ·rcases gV.mp hb with m|m
   ·exact(a2 b m).mono kA
   ·exact(b2 b m).mono kB
end
end
def wJ(o:Obj):Option HO:=match o.data with
 | .seq vs _=>.bd (.eh o.cls .xo) (.aD o (.lst (vs.toList.map toV))) (.k8 o (.tup (vs.toList.map toV)))
 |_=>none
def eZ(K:ag)(h:Heap)(A: .g):Hp:=λb=>if b∈A then(.aq (K.lookup b).isNone ((.ck).bind wJ) none)else none
def vR(H:Hp):Prop:=∀b,H b=none∨∃o u,H b= .k8 o u
theorem Fw(vs: .q):wJ .lT= .k8 .lT (.lst .o6):=by rw[25,.bd (.eh .xo .xo) (HO.aD .lT (.lst (.B7 vs))) (some (HO.aD .lT (.tup (.B7 vs)))),af (Ef _)]
theorem Fx(vs: .q):wJ .lS= .k8 .lS (.tup .o6):=by rw[25,.bd (.eh (Value.type "tuple") .xo) (HO.aD .lS (.lst (.B7 vs))) (some (HO.aD .lS (.tup (.B7 vs)))),.n]
section
variable{P:Program}{w:World}{K:ag}{h:Heap}{A: .g}
theorem wj{b:Addr}{o:Obj}(S:b∈A)(G: .cy K b)(e: .ck= .l):eZ K h A b=wJ o:=by unfold eZ;rw[af S,G,af (show .c (none: .B6).isNone from rfl),e]<;>rfl
theorem Rc{b:Addr}{u:HO}(q:eZ K h A b= .V):b∈A/\ .cy K b:=by
 unfold eZ at q;by_cases S:b∈A
 ·rw[af S]at q
  cases G:K.lookup b with
  |none=>exact⟨S,Y⟩
  |some o=>rw[G,aa (by simp)]at q;cases q
 ·rw[215,aa S]
theorem sX(B: .lR h A a){b:Addr}{u:HO}(q:eZ K h A b= .V): .cy K b/\∃vs: .q,.aT vs/\(.qF A u)/\
  ((.ck=some .lT/\u= .aD .lT (.lst .o6))∨
   (.ck=some .lS/\u= .aD .lS (.tup .o6))):=by
 obtain⟨S,G⟩:=Rc q
 obtain⟨vs,h1,h2,h3⟩:=B b S
 refine⟨G,vs,.cc,?_⟩
 rcases h3 with e|e
 ·rw[wj S G e,Fw]at q
  rw[14,⟨e,.sM q⟩]
 ·rw[wj S G e,Fx]at q
  rw[8,⟨e,.sM q⟩]
theorem Mj(B: .lR h A a):vR (eZ K h A):=λb=>by
 cases q:eZ K h A b with
 |none=>exact .ao
 |some u=>
  obtain⟨_,vs,_,_,⟨_,e⟩|⟨_,e⟩⟩:=sX B q
  ·rw[8,⟨_,_,by rw[e]⟩]
  ·rw[8,⟨_,_,by rw[e]⟩]
theorem Mi(B: .lR h A a): .l3 (eZ K h A) h:=λb u q=>by
 obtain⟨_,vs,h1,h2,⟨e,rfl⟩|⟨e,rfl⟩⟩:=sX B q
 ·exact⟨e,.xq bh,vs,_,rB h2,e⟩
 ·exact⟨e,.xq bh,vs,rB h2,_,e,.aR⟩
theorem xM{c V:Value}{vs us: .q}(e:(some {cls:=c,data:=.gx vs}: .B6)=some {cls:=V,data:=.gx us}):c=V/\vs=us:=by have F:=eD e;have D:c=V:=dZ Obj.cls F;have s:Data.seq .qC=Data.seq us.toArray:=dZ Obj.data F;injection s with e4;refine⟨D,?_⟩;have S:=.FF e4;simpa using S
theorem Ml(T: .d0)(B: .lR h A a){a:Addr}{vs: .q}(N:a∈A)(e: .eA .lT):(.qF A u)/\ay K (eZ K h A) a .o6:=by
 obtain⟨us,h1,h2,h3⟩:=B a N
 have L:us=vs:=by
  rcases h3 with q|q
  ·rw[69,e,(xM q).2.symm]
  ·rw[e]at q;rw[50,Value.type.inj (xM q).1]
 subst L;refine⟨h2,?_⟩
 cases G:K.lookup a with
 |none=>rw[14,.inr ⟨_,by rw[wj N G e,Fw]⟩]
 |some o=>rw[294,T a o G,e];obtain rfl:=eD D;rw[8,⟨_,us.toArray,_,G,.f6,.xq cj,by simpa using rB h2⟩]
theorem Mm(T: .d0)(B: .lR h A a){a:Addr}{vs: .q}(N:a∈A)(e: .eA .lS):(.qF A u)/\aM K (eZ K h A) a .o6:=by
 obtain⟨us,h1,h2,h3⟩:=B a N
 have L:us=vs:=by
  rcases h3 with q|q
  ·rw[e]at q;rw[50,Value.type.inj (xM q).1]
  ·rw[69,e,(xM q).2.symm]
 subst L;refine⟨h2,?_⟩
 cases G:K.lookup a with
 |none=>rw[14,.inr ⟨_,by rw[wj N G e,Fx]⟩]
 |some o=>rw[294,T a o G,e];obtain rfl:=eD D;rw[8,⟨_,us.toArray,_,G,Y,Y,.xq cj,by simpa using rB h2⟩]
mutual
theorem Nk{Pm:Params}(KX: .d0)(ar: .lR h A a):∀(d:WData) (v:Value),Well Pm h v d-> .xp d->iH A v->Dw K (eZ K h A) (toV v) d
 | .none,_,x,_,_=>by
  rw[66,.au]
 | .bool b,_,x,_,_=>by
  rw[66,.ev]
 | .int i,_,x,_,_=>by
  rw[66,.aL]
 | .str s,_,x,_,_=>by
  rw[66,.str s]
 | .bytes b,_,x,_,_=>by
  cases x
  have z:=Dw.gp (K:=K) (H:=eZ K h A) b.toArray
  exact z
 | .list ds,_,x,p,hu=>by
  obtain⟨a,vs,rfl,ho,hall⟩:=Kg x
  obtain⟨h2,hs⟩:=Ml KX ar hu ho
  exact .lst hs (wB KX ar ds _ hall p h2)
 | .tuple ds,_,x,p,hu=>by
  obtain⟨a,vs,rfl,ho,hall⟩:=Kh x
  obtain⟨h2,hs⟩:=Mm KX ar hu ho
  exact .tup hs (wB KX ar ds _ hall p h2)
 | .float _,_,_,p,_=>.h0
 | .dict _,_,_,p,_=>.h0
 | .bytearray _,_,_,p,_=>.h0
 | .set _,_,_,p,_=>.h0
 | .frozenset _,_,_,p,_=>.h0
 | .obj _ _,_,_,p,_=>.h0
theorem wB{Pm:Params}(KX: .d0)(ar: .lR h A a):∀(ds: .ez) (vs: .q),.qE Pm h vs-> .qD ds->(.qF A u)->jx K (eZ K h A) .o6 ds
 |[],_,x,_,_=>by
  rw[66,.nil]
 |d::ds,_,x,p,hu=>by
  obtain⟨v,vs,rfl,x1,x2⟩:=Kf x
  have q: .xp d/\ .qD ds:=Cm.mp p
  rw[62,Nk KX ar d v x1 q.1 (hu _ .aS),wB KX ar ds vs x2 q.2 λu m=>hu u (.aH m)]
end
end
theorem XH{P:Program}{w:World}{K:ag}{mg mb: .d}{CX:fG}{k:Nat}{E:Addr}{fd:FuncData}{ps: .H}{sp:Sp}{N:Shared}{G: .q}{ds: .ez}{R:PySem.W.WRecords}{cl: .ju .aU}{d0:WData}
  (T:K.In .dQ)(W:N.heap.Ns .hL mg)(S:N.heap.Ns builtinsNs mb)(hbb:∀x:Str,.tF->mb x=bootBuiltins x)(hlim:N.heap.NoLimit)(f:N.heap.NoSeer)(hdig:N.heap.NoDigits)(y:N.gens= #[])
  (g: .qE .dc .dQ G)(l: .qD ds)(hwt: .FB d)(M:cb k callerA)
  (F:∀base:Heap,K.In base-> .FA mg->base.NoSeer->base.NoDigits-> .J P w K CX k E fd ps sp)(hbind: .B3 (.a8= .aV-> .tB s fd ⟨.fg⟩ us))(hlen: .jr ds)
  (C:∀(H:Hp) (xs: .s),vR H->jx K H xs ds->sp xs H (λv H'=>Dw K H' v d0) .xn)
  (p:∀H e s',CX [] H N .xn e s'-> .bU):
  codeAny (model P w) callerA (.call (.ref E) ⟨G,[]⟩) (λr s'=>∃u as,r= .tE u/\ReadsW R cl .dN u d0 as/\OldK .dQ .dN/\s'.os=N.os/\ .tD s') N:=by
 obtain⟨A,ho,B⟩:=wh ds G g l hwt
 have X:vR (eZ K .dQ A):=Mj B
 have aw: .l3 (eZ K .dQ A) .dQ:=Mi B
 have t:=wB T B ds G g l ho
 have hV:=rB ho
 have hK:∀b u,eZ K .dQ A b= .V-> .cy K b:=λb u q=>(sX B q).1
 have I:∀{b:Addr} {o:Obj} {es:Array DictEntry} {i:Nat},.B5= .l-> .gZ= .dict es i->eZ K .dQ A b=none:=λ{b o es i} e d=>by
  cases q:eZ K N.heap A b with
  |none=>rfl
  |some u=>
   obtain⟨_,vs,_,_,⟨D,_⟩|⟨D,_⟩⟩:=sX B q
   ·rw[45,D]
    have d':Data.seq .qC _=Data.dict es i:=d
    cases d'
   ·rw[45,D]
    have d':Data.seq .qC _=Data.dict es i:=d
    cases d'
 have noM:∀{b:Addr} {o:Obj},.B5= .l->o.cls= .type "module"->eZ K .dQ A b=none:=λ{b o} e d=>by
  cases q:eZ K N.heap A b with
  |none=>rfl
  |some u=>
   obtain⟨_,vs,_,_,⟨D,_⟩|⟨D,_⟩⟩:=sX B q
   ·rw[45,D]
    rw[50,show .xo=Value.type "module" from d]
   ·rw[45,D]
    rw[50,show Value.type "tuple"=Value.type "module" from d]
 generalize eZ K N.heap A=H at X aw t hK I noM
 have a:∀{b:Addr} {o:Obj},.B5= .l->H b=none-> .iC (.qz H)= .l:=λe n=>Oo e n
 have j:∀{b:Addr} {m: .d},.qB N b->(.qz H).Ns b m:=λ{b m} ⟨o,es,i,e,d,r⟩=>⟨o,es,i,a e (I e d),d,r⟩
 have nK: .pb (.qA K b) (H b=none):=λb o e=>by
  cases q:H b with
  |none=>rfl
  |some u=>
   rw[45,hK b u q]
 have hKb:K.In (.qz H):=λb o e=>a (T b o e) (nK b o e)
 have hM:Mod K mg (.qz H):=⟨hKb,j W,⟨mb,j S,hbb⟩,let ⟨mc,h1,h2⟩:=hlim;⟨mc,j h1,h2⟩⟩
 have hSB:(.qz H).NoSeer:=⟨let ⟨mc,h1,h2⟩:=f.statics;⟨mc,j h1,h2⟩,let ⟨mc,h1,h2⟩:=f.mods;⟨mc,j h1,h2⟩,let ⟨mc,h1,h2⟩:=f.imp;⟨mc,j h1,h2⟩,let ⟨mg,bm,ob,h1,h2,h3,h4,h5⟩:=f.main;⟨mg,bm,ob,j h1,h2,a h3 (noM h3 h4),h4,h5⟩⟩
 have hDB:(.qz H).NoDigits:=let ⟨mc,h1,h2⟩:=hdig;⟨mc,j h1,h2⟩
 have e0:lH P w K mg (.qz H) callerA [] N H:=⟨Y,hM,λb o e=>Rf e,sg (Oq _ _),.ds,λb S=>.hW (show b∈([]: .g)from S),aw,.of_eq y⟩
 have hl: .jr G:=.FE g hlen
 refine qt ((F _ hKb (j W) hSB hDB).run callerA [] N H ⟨G,[]⟩ G (G.map toV) _ _ M e0 (hbind N G hl) hV (C H _ X t)) λr s' x=> ?_
 cases r with
 |error e=>exact(p H e s' x).elim
 |ok c=>
  cases c with
  |next=>rw[21,x]
  |brk=>rw[21,x]
  |cont=>rw[21,x]
  |ret u=>
   obtain⟨v,H',os,bare,un,hok',U,q⟩:=x
   have kept: .fD .B5 (.FD b .l):=λb o e=>by
    cases L:H b with
    |none=>exact un.keep b o e L (by intro z;exact .FC (b∈([]: .g))) (by simp)
    |some Q=>
     rcases X b with z|⟨ob,u3,z⟩
     ·rw[22,L]
     ·have z2:=un.iP b ob _ z
      obtain⟨e1,_⟩:=aw b _ z
      obtain⟨D,_⟩:=hok' b _ z2
      rw[e]at e1
      cases e1
      exact D
   have KX':K.In .dN:=λb o e=>kept b o (T b o e)
   obtain⟨as,hrd⟩:=Dw.reads (R:=R) (cl:=cl) hok' KX' d0 v u q U
   exact⟨u,as,Y,hrd,OldK.of_keep kept,os,bare⟩
theorem Qe{ds: .ez}(h: .c (WData.layableAll ds)): .FB d:=λd hd=>.bA (PySem.W.layableW_iff.mp (j7.mp h d hd))
theorem E1:∀(cs:List Codec) (a:Codec.denoteAll cs),.jU (.B4 a) cs
 |[],_=>rfl
 |c::cs,a=>by
  rw[37,.aG (.B4 a.2),.aG cs,E1 cs a.2]
theorem YR{r:OpenSpec}{k:Nat}{q:Program}{i: .H}{XP: .tC .d}{YP: .tC World}{d:DefRec}{K:Params->ag}{CX:World->fG}{ps: .H}{sp:World->Sp}
  (l: .c r.wellSaid)(I: .c (importsNone q))(hdf:d.params.defaults=[])(hlen:r.args.length= .aV)(M:cb k callerA)
  (hY:∀(w:World) (h:Heap),YP w h->(K .dc).In h)
  (F:∀(w:World) (mg: .d) (E:Addr) (h:Heap),YP w h->(K .dc).In h-> .lQ->mg d.name= .I E->
   ∃fd:FuncData,(.B3 (.a8= .aV-> .tB s fd ⟨.fg⟩ us))/\
    ∀base:Heap,(K .dc).In base-> .FA mg->base.NoSeer->base.NoDigits-> .J r.prog w (K .dc) (CX w) k E fd ps (sp w))
  (C:∀(w:World) (H:Hp) (xs: .s) (a:Codec.denoteAll r.args),vR H-> .c (Codec.withinAll r.args a)-> .c (.Fz r r.asked a)->jx (K .dc) H xs (Codec.encAll r.args a)->
   sp w xs H (λv H'=>Dw (K .dc) H' v (r.ret.enc (.Fz r r.f a))) .xn)
  (p:∀(w:World) (H:Hp) (s:Shared) (e:Value) (s':Shared),CX w [] H s .xn e s'-> .bU):
  PySem.W.WalkOS q i XP YP r d [] (λf vs=>PySem.call f vs):=by
 intro w ey N mg mb G b E o pm cd doc x kV ho hd W m n y args vals as Q hlay B g L
 obtain⟨a,e1,D⟩:=PySem.W.os_pre_some Q
 obtain⟨e3,c⟩:=Codec.encAll_of_decAll r.args args a e1
 subst e3
 have T:=hY w _ b
 obtain⟨fd,S,hF⟩:=F w mg E _ b T G.T.g n
 refine PySem.W.enter_call (qt (XH (R:=[]) (cl:=classAt ey.heap) (d0:=r.ret.enc (.Fz r r.f a)) T G.T.g G.T.b G.T.builtins G.T.nolimit (G.T.seer I) G.T.nodigits y g (Ig _ _) (Qe hlay) M hF S (by rw[E1];exact hlen) (λH xs X t=>C w H xs a X c D t) λH e s'=>p w H N e s') λU s' j=> ?_)
 obtain⟨u,as',rfl,h1,h2,h3,h4⟩:=j
 exact⟨.inl ⟨u,_,as',Y,.ec,h1,(OpenSpec.post_iff l c _ _).mpr Y,λz=>Bool.noConfusion (show .sB from z)⟩,h2,h3,h4⟩
end L2
open PySem PySem.W PySem.Calls PyProof.Rows
def Uu(s:Stmt):Pos:=match s with
 | .FunctionDef _ _ _ _ _ _ _ _ _ p=>p
 |_=>⟨0,0,0,0⟩
def nZ:DefRec:=⟨"answers",L2.ja .DP,L2.hI .DP,L2.d4 .DP,Uu .DP⟩
theorem d1:defOf q0 .JH= .ar nZ []:=by kernel_rfl
theorem d2:PySem.Challenge.rw_fractioncode_s01_answers.prog.theDef .JH=some (nZ.params,nZ.body,nZ.scope):=by kernel_rfl
theorem d3:kwWritten? nZ.params.kwonlyargs nZ.params.kw_defaults=some []:=by kernel_rfl
theorem OI: .c (importsNone q0):=by kernel_rfl
theorem Yt:pP.given.tree=none:=by kernel_rfl
theorem Ms{K:Frag}{x g:Str}{st:Stmt}{f:Addr}{fd:FuncData}{ps: .H}(F:L2.fj K x g st f fd)
  (h: .qM (.a8= .aV->bindArgs (.fk x g (L2.ja st) (L2.hI st) (L2.d4 st) .none z pm q G ct) ⟨.fg⟩= .o9)): .B3 (.a8= .aV-> .tB s fd ⟨.fg⟩ us):=by
 rw[312,λs us L=>.of_eq (h kV z pm q G ct us L)]
theorem YQ:WalkOS q0 je .nR (λw h=>Frag.In (FC.kL .dc) h) PySem.Challenge.rw_fractioncode_s01_answers nZ [] (λf vs=>PySem.call f vs):=by
 refine L2.YR (K:=FC.kL) (k:=49) (CX:=λw=>L2.ai pP w) (ps:=["calls"]) (sp:=λw=>FC.Jo (FC.kL .dc)) IU OI Y rfl ⟨Y,.fw⟩ (λw h b=>b) ?F ?S (λw=>FC.fL _)
 case F=>
  intro w mg E h b i G n
  let T:=FC.txt i G
  rw[10,E,T.lh.f,by have g:some (Value.ref E)=some (Value.ref T.lh.f):=n.symm.trans T.lh.g;injection g with g;injection g]
  rw[15,⟨T.lh.fd,Ms T.lh.F (λ_ _ _ _ _ _=>L2.all1 λ_=>by kernel_rfl),λbase _ _ L hd=> ?_⟩,e,FC.Rx T L Yt hd]
 case S=>
  intro w H xs a X c d W
  cases W with
  |cons h1 h2=>
   cases h2
   cases h1 with
   |lst L N=>have e:=L2.FN a.1 _ N;subst e;have q: .c ((Codec.inLen 0 16000 a.1&&a.1.all (Codec.inInt (-1000000000000000000) 1000000000000000000))&&true):=c;rw[bU,bU]at q;have R:=(Codec.inNat_iff.mp q.1.1).2;obtain⟨cs,g,D,s,v⟩:=FC.Mo (l:=a.1) d;refine⟨_,cs,Y,by rw[<-g];exact L,D,by rw[<-g];exact .qn R,v,λH' p hp=> ?_⟩;have j:Codec.app PySem.Challenge.rw_fractioncode_s01_answers.args PySem.Challenge.rw_fractioncode_s01_answers.f a=PyVaunih.answers a.1:=rfl;rw[13,j,s,.lst (L2.ay.of hp) (L2.EZ _)]
theorem PySem.Challenge.cw_fractioncode_s01_answers_holds : PySem.Challenge.rw_fractioncode_s01_answers.Holds :=
 holds_os (XP:=.nR) (YP:=λw h=>Frag.In (FC.kL .dc) h) Qj (λw s e=>by
  rw[114,.G= .h6]
  rw[1,M,FC.Pp .dc]) (λw h h' x k b o e=>k _ _ (x b o e)) (λ_ _=>.ds) (λ_ _ _ _ _=>.ds) d1 d2 d3 (λs e=>recFacts_of (Cm.mp e).2) os_shapes IU Ri Mq Ov YQ
