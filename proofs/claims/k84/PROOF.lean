import PyProof.Rows.All
import KE.KDictOf
import KE.KIsAll
import KE.KSortTup
import KE.KIntText
import KE.KFromBytes
import PyProof.StationsW
import PyProof.RulesAs
import PyProof.NsDelKeeps
import PyProof.IsiBase
import PyProof.InstStoreFacts
import PyProof.ExcClass3
import PyProof.ExcBaseAll.ValueError
import PyProof.ExcArgsOwn
import PySem.Challenge.RW_relayholds_k84_stuck_nets
set_option genSizeOfSpec false
set_option genSizeOf false
set_option Elab.async false
set_option linter.all false
set_option maxRecDepth 1000000
set_option maxHeartbeats 4000000
set_option hygiene false
inductive EX1_2(A B:α->Prop):Prop
|mk(x:α)(_:A x)(_:B x)
inductive EX1_3(A B C:α->Prop):Prop
|mk(x:α)(_:A x)(_:B x)(_:C x)
inductive EX1_5(A B C D E:α->Prop):Prop
|mk(x:α)(_:A x)(_:B x)(_:C x)(_:D x)(_:E x)
inductive EX1_6(A B C D E F:α->Prop):Prop
|mk(x:α)(_:A x)(_:B x)(_:C x)(_:D x)(_:E x)(_:F x)
inductive EX2_1(A:α->β->Prop):Prop
|mk(x:α)(y:β)(_:A x y)
inductive EX2_2(A B:α->β->Prop):Prop
|mk(x:α)(y:β)(_:A x y)(_:B x y)
inductive EX2_3(A B C:α->β->Prop):Prop
|mk(x:α)(y:β)(_:A x y)(_:B x y)(_:C x y)
inductive EX2_4(A B C D:α->β->Prop):Prop
|mk(x:α)(y:β)(_:A x y)(_:B x y)(_:C x y)(_:D x y)
inductive EX2_5(A B C D E:α->β->Prop):Prop
|mk(x:α)(y:β)(_:A x y)(_:B x y)(_:C x y)(_:D x y)(_:E x y)
inductive EX2_6(A B C D E F:α->β->Prop):Prop
|mk(x:α)(y:β)(_:A x y)(_:B x y)(_:C x y)(_:D x y)(_:E x y)(_:F x y)
inductive EX3_1(A:α->β->γ->Prop):Prop
|mk(x:α)(y:β)(z:γ)(_:A x y z)
inductive EX3_2(A B:α->β->γ->Prop):Prop
|mk(x:α)(y:β)(z:γ)(_:A x y z)(_:B x y z)
inductive EX3_3(A B C:α->β->γ->Prop):Prop
|mk(x:α)(y:β)(z:γ)(_:A x y z)(_:B x y z)(_:C x y z)
inductive EX3_4(A B C D:α->β->γ->Prop):Prop
|mk(x:α)(y:β)(z:γ)(_:A x y z)(_:B x y z)(_:C x y z)(_:D x y z)
inductive EX3_5(A B C D E:α->β->γ->Prop):Prop
|mk(x:α)(y:β)(z:γ)(_:A x y z)(_:B x y z)(_:C x y z)(_:D x y z)(_:E x y z)
inductive EX3_6(A B C D E F:α->β->γ->Prop):Prop
|mk(x:α)(y:β)(z:γ)(_:A x y z)(_:B x y z)(_:C x y z)(_:D x y z)(_:E x y z)(_:F x y z)
inductive EX4_3(A B C:α->β->γ->δ->Prop):Prop
|mk(x:α)(y:β)(z:γ)(u:δ)(_:A x y z u)(_:B x y z u)(_:C x y z u)
inductive EX4_4(A B C D:α->β->γ->δ->Prop):Prop
|mk(x:α)(y:β)(z:γ)(u:δ)(_:A x y z u)(_:B x y z u)(_:C x y z u)(_:D x y z u)
inductive EX4_5(A B C D E:α->β->γ->δ->Prop):Prop
|mk(x:α)(y:β)(z:γ)(u:δ)(_:A x y z u)(_:B x y z u)(_:C x y z u)(_:D x y z u)(_:E x y z u)
inductive EX4_6(A B C D E F:α->β->γ->δ->Prop):Prop
|mk(x:α)(y:β)(z:γ)(u:δ)(_:A x y z u)(_:B x y z u)(_:C x y z u)(_:D x y z u)(_:E x y z u)(_:F x y z u)
inductive EX4_7(A B C D E F G:α->β->γ->δ->Prop):Prop
|mk(x:α)(y:β)(z:γ)(u:δ)(_:A x y z u)(_:B x y z u)(_:C x y z u)(_:D x y z u)(_:E x y z u)(_:F x y z u)(_:G x y z u)
inductive EX5_4(A B C D:α->β->γ->δ->ε->Prop):Prop
|mk(x:α)(y:β)(z:γ)(u:δ)(v:ε)(_:A x y z u v)(_:B x y z u v)(_:C x y z u v)(_:D x y z u v)
inductive EX5_5(A B C D E:α->β->γ->δ->ε->Prop):Prop
|mk(x:α)(y:β)(z:γ)(u:δ)(v:ε)(_:A x y z u v)(_:B x y z u v)(_:C x y z u v)(_:D x y z u v)(_:E x y z u v)
inductive EX5_6(A B C D E F:α->β->γ->δ->ε->Prop):Prop
|mk(x:α)(y:β)(z:γ)(u:δ)(v:ε)(_:A x y z u v)(_:B x y z u v)(_:C x y z u v)(_:D x y z u v)(_:E x y z u v)(_:F x y z u v)
inductive EX9_3(A B C:α->β->γ->δ->ε->ζ->η->θ->ι->Prop):Prop
|mk(x:α)(y:β)(z:γ)(u:δ)(v:ε)(w:ζ)(a:η)(b:θ)(c:ι)(_:A x y z u v w a b c)(_:B x y z u v w a b c)(_:C x y z u v w a b c)
def exConj:Nat->Lean.TSyntax `term->Array (Lean.TSyntax `term)
 | 0,t=>#[t]
 | n+1,t=>match t with
  | `($a ∧ $b)=>#[a] ++ exConj n b
  | _=>#[t]
def exBs (xs:Lean.TSyntax ``Lean.explicitBinders):Lean.MacroM (Array (Lean.TSyntax ``Lean.binderIdent × Option (Lean.TSyntax `term))):=do
 let x:=xs.raw[0]
 if x.getKind == ``Lean.unbracketedExplicitBinders then
  let ids:=x[0].getArgs.map fun i=>(⟨i⟩:Lean.TSyntax ``Lean.binderIdent)
  let ty:Option (Lean.TSyntax `term):=if x[1].getNumArgs == 0 then none else some ⟨x[1][1]⟩
  return ids.map fun i=>(i,ty)
 else
  let mut r:=#[]
  for g in x.getArgs do
   for i in g[1].getArgs do r:=r.push (⟨i⟩,some ⟨g[3]⟩)
  return r
def idsIn:Nat->Lean.Syntax->List Lean.Name
 | 0,_=>[]
 | n+1,s=>match s with
  | .ident _ _ v _=>[v]
  | .node _ _ as=>as.toList.flatMap (idsIn n)
  | _=>[]
local macro_rules
 | `(∃ $xs:explicitBinders,$b)=>do
  let bs<-exBs xs
  let cs:=exConj 20 b
  if bs.size == 1 && cs.size == 1 then Lean.Macro.throwUnsupported
  if !("12 13 15 16 21 22 23 24 25 26 31 32 33 34 35 36 43 44 45 46 47 54 55 56 93".splitOn " ").contains s!"{bs.size}{cs.size}" then Lean.Macro.throwUnsupported
  let mut seen:List Lean.Name:=[]
  for (i,t) in bs do
   if let some t:=t then
    if (idsIn 40 t).any (fun x=>seen.contains x.getRoot) then Lean.Macro.throwUnsupported
   if i.raw[0].isIdent then seen:=i.raw[0].getId :: seen
  let mut args:Array (Lean.TSyntax `term):=#[]
  for c in cs do
   let mut t:=c
   for (i,ty) in bs.reverse do
    let nm:Lean.TSyntax `term:=if i.raw[0].isIdent then ⟨i.raw[0]⟩ else ⟨Lean.mkHole i.raw⟩
    match ty with
    | some ty=>if i.raw[0].isIdent then t<-`(fun ($(⟨i.raw[0]⟩):ident:$ty)=>$t) else t<-`(fun (_:$ty)=>$t)
    | none=>if i.raw[0].isIdent then t<-`(fun $(⟨i.raw[0]⟩):ident=>$t) else t<-`(fun _=>$t)
   args:=args.push t
  let f:=Lean.mkIdent (Lean.Name.mkSimple s!"EX{bs.size}_{cs.size}")
  `($f $args*)
local macro_rules
|`(@$n:num)=>`(.var $n)
|`(@$n:str)=>`(.cst (.str $n))
|`(@($n:num))=>`(.cst (.int $n))
|`(@($t))=>`(some ($t))
local macro_rules
|`('o')=>`(by lia)
|`('s')=>`(by simp)
|`('k')=>`(by decide +kernel)
|`('d')=>`(by decide)
|`('l')=>`(by simp[lim];lia)
|`('m')=>`(by simp[lim])
|`(~~~$e)=>`(by simpa using $e)
|`($s⁻¹)=>`(($s).heap.objs.size)
local macro_rules
|`(%[$xs,*|$t])=>do
 if xs.elemsAndSeps.size%2==1 then Lean.Macro.throwUnsupported
 let mut r<-`(.cons $t .nil)
 for x in xs.getElems.reverse do r<-`(.cons $x $r)
 return r
def cvP:Nat->Lean.TSyntax `term->Lean.MacroM (Lean.TSyntax `rcasesPat)
|0,_=>Lean.Macro.throwUnsupported
|n+1,t=>match t with
 |`(⟨$xs,*⟩)=>do
  let ys<-xs.getElems.mapM (cvP n)
  let ys<-ys.mapM fun y=>`(Lean.Parser.Tactic.rcasesPatLo|$y:rcasesPat)
  `(rcasesPat|⟨$ys,*⟩)
 |`($i:ident)=>`(rcasesPat|$i:ident)
 |_=>`(rcasesPat|_)
local macro_rules
|`(tactic|let $p:term := $e)=>do
 let q<-cvP 9 p
 `(tactic|obtain $q:rcasesPat := $e)
local macro_rules
|`(tactic|ext $[$ps]*)=>do
 let mut xs:Array (Lean.TSyntax ``Lean.binderIdent):=#[]
 for p in ps do match p with
  |`(rintroPat|$i:ident)=>xs:=xs.push (<-`(Lean.binderIdent|$i:ident))
  |`(rintroPat|_)=>xs:=xs.push (<-`(Lean.binderIdent|_))
  |_=>Lean.Macro.throwUnsupported
 `(tactic|rename_i $xs*)
local macro_rules
|`(tactic|erw[$rs,*] $[$l]?)=>do
 let mut xs:Array (Lean.TSyntax ``Lean.Parser.Tactic.simpLemma):=#[]
 for r in rs.getElems do
  if r.raw[1].getId==`EWs||r.raw[1].getId==`EVs then
   for x in "aH bh cZ gC dM mH gp dg gq bZ dX bN fK bK cU iy cL fY bT lT fZ pV fc aF av jx f9 ay".splitOn " "++(if r.raw[1].getId==`EWs then "fC fD fE fF".splitOn " " else []) do xs:=xs.push (<-`(Lean.Parser.Tactic.simpLemma|$(Lean.mkIdent x.toName):ident))
  else match r with
  |`(Lean.Parser.Tactic.rwRule|<-$t)=>xs:=xs.push (<-`(Lean.Parser.Tactic.simpLemma|<-$t))
  |`(Lean.Parser.Tactic.rwRule|$t:term)=>xs:=xs.push (<-`(Lean.Parser.Tactic.simpLemma|$t:term))
  |_=>Lean.Macro.throwUnsupported
 `(tactic|simp only[$[$xs],*] $[$l]?)
local macro_rules
|`(def $i:declId $s:optDeclSig $v:declVal)=>`(noncomputable def $i:declId $s:optDeclSig $v:declVal)
noncomputable section
abbrev ae:=PySem.W.Frag
def Q0:=@Option.map_eq_some_iff
def Q2:=@PySem.wpAny_bind
def Q3:=@PySem.Heap.get?_push_of_some
def Q4:=@List.getElem?_eq_some_iff
def Q5:=@Bool.and_eq_true
def Q6:=@PySem.Heap.lt_size
def Q7:=@Nat.le_refl
def Q8:=@PySem.wpAny_pure
def Q9:=@List.size_toArray
def Ra:=@PySem.Heap.get?_push_size
def Rb:=@Nat.ne_of_lt
def Rc:=@List.getElem?_append_left
def Rf:=@if_pos
def Rg:=@Bool.and_eq_true_iff
def Rh:=@Nat.lt_of_lt_of_le
def Ri:=@if_neg
def Rj:=@List.getElem?_eq_getElem
def Rk:=@List.mem_cons
def Rl:=@List.lookup_cons
def Rm:=@PySem.wpAny_mono
def Rn:=@List.length_map
def Ro:=@List.mem_cons_of_mem
def Rp:=@List.getElem?_append_right
def Rq:=@List.getD_eq_getElem?_getD
def Rt:=@List.append_assoc
def Ru:=@List.length_append
def Rv:=@Nat.le_trans
def Rw:=@PySem.wpAny_loadPart_at
def Rx:=@List.not_mem_nil
def Ry:=@decide_eq_false
def Rz:=@if_false
def RA:=@Bool.false_eq_true
def RB:=@List.mem_append_right
def RC:=@List.mem_append
def RD:=@List.length_cons
def RE:=@Bool.not_eq_true
def RG:=@List.mem_cons_self
def RH:=@List.getElem?_set_self
def RI:=@List.all_eq_true
def RJ:=@List.mem_append_left
def RK:=@List.getElem_mem
def RM:=@List.mem_cons
def RN:=@List.getElem?_set_ne
def RP:=@List.mem_of_getElem?
def RQ:=@if_true
def RS:=@Bool.not_eq_true'
def RT:=@beq_iff_eq
def RU:=@List.map_cons
def RV:=@PySem.wpAny_Call_Name_kw
def RX:=@decide_eq_true
def RY:=@PySem.mem_of_lookup
def RZ:=@List.mem_singleton
def R0:=@or_false
def R1:=@Option.some.inj
def R3:=@PySem.W.kia_one
def R4:=@Bool.false_ne_true
def R5:=@PySem.W.looks_findIn
def R6:=@List.append_nil
def R7:=@PySem.Heap.size_push
def R8:=@PySem.wpAny_standAt
def R9:=@PySem.wpAny_field
def Sa:=@decide_eq_true_eq
def Sb:=@List.length_take
def Sd:=@PySem.wpAny_holding
def Se:=@PySem.wpAny_truthy_bool
def Sf:=@PySem.wpAny_newObj_type
def Sg:=@List.mem_map
def Sh:=@PySem.W.callWith_K
def Si:=@PySem.wpAny_callSpecial?_slot
def Sj:=@beq_self_eq_true
def Sk:=@decide_eq_decide
def Sl:=@PySem.F.plainAttrs_list
def Sn:=@Nat.ne_of_gt
def So:=@PySem.codeAny_mono
def Sq:=@PySem.Heap.get?_update_other
def Su:=@Nat.lt_succ_of_lt
def Sv:=@Array.length_toList
def Sw:=@PySem.wpAny_isSubtype_exc
def Sx:=@List.getElem_map
def Sy:=@PyProof.Rows.slot_tuple_getitem
def Sz:=@PySem.W.Looks.at
def SD:=@PySem.W.mg_of
def SH:=@of_decide_eq_true
def SJ:=@Nat.add_sub_cancel_left
def SK:=@beq_eq_false_iff_ne
def SN:=@PyProof.Rows.callWith_type1
def SO:=@Option.map_eq_none_iff
def SQ:=@Nat.lt_irrefl
def SR:=@Nat.lt_succ_self
def SV:=@PySem.wpAny_pyIter_tuple
def SW:=@PySem.F.slot_tuple_iterator_next
def SX:=@Array.getElem?_eq_some_iff
def SY:=@PySem.F.excBase_ValueError
def S0:=@PySem.Heap.get?_update_self
def S1:=@List.mem_filter
def S2:=@Option.map_some
def S3:=@PySem.sizeLine_eq
def S4:=@Int.toNat_natCast
def S5:=@PySem.codeAny_call_builtin
def S6:=@Option.isSome_iff_exists
def S7:=@List.getElem?_take_of_lt
def S8:=@PySem.wpAny_call_entry
def S9:=@PySem.cellsFrom.eq_def
def Tc:=@Nat.le_succ
def Td:=@List.getElem?_map
def Te:=@PySem.wpAny_setField_rec
def Tf:=@PySem.F.slot_enumerate_next
def Tg:=@List.contains_iff_mem
def Th:=@List.take_of_length_le
def Ti:=@PySem.F.typeOf_object_class
def Tj:=@List.nodup_append
def Tn:=@List.drop_eq_nil_of_le
def To:=@Nat.min_le_right
def Tp:=@List.filterMap_append
def Tq:=@List.getElem?_eq_none_iff
def Tr:=@PySem.F.args_tuple_add_2
def Tt:=@PySem.wpAny_passesOwn
def Tv:=@List.nodup_cons
def Tw:=@Bool.or_eq_true
def Tz:=@List.find?_cons
def TF:=@PySem.Code.quiet_builtin
def TH:=@PySem.Obj.data_mapFields
def TJ:=@List.mem_singleton
def TL:=@Nat.zero_le
def TM:=@PySem.F.entry_tuple_add
def TN:=@List.all_eq_true
def TQ:=@List.mem_range
def TR:=@congrArg
def TU:=@Bool.false_and
def TV:=@PySem.wpAny_pyIter_list
def TX:=@PySem.W.cellsFrom_some
def TY:=@PySem.F.slot_tuple_add
def TZ:=@List.any_cons
def T3:=@PySem.wpAny_pyIter_enum
def T4:=@List.nodup_append
def T5:=@PySem.W.KeysLit.eq_def
def T6:=@PySem.plainObj_wpAny_Assign_Attribute
def T7:=@PySem.Obj.isFreed_of_fields
def T8:=@PySem.call_meets
def T9:=@List.map_append
def Ua:=@List.set_append_right
def Ub:=@List.contains_cons
def Uc:=@Bool.true_and
def Ud:=@List.length_drop
def Ue:=@List.drop_eq_getElem_cons
def Ug:=@List.mem_iff_getElem
def Uh:=@PySem.F.args_tuple_iterator_next_1
def Ui:=@Nat.min_eq_left
def Uj:=@PySem.Value.isStrOf_shape
def Uk:=@PySem.W.plainGet_of
def Ul:=@PySem.W.callWith_K0
def Um:=@PySem.F.entry_tuple_iterator_next
def Uo:=@Bool.or_true
def Up:=@List.filterMap_cons
def Uq:=@PySem.Calls.Name_function_global
def Ur:=@PyProof.Rows.assignInOrder_cons
def Us:=@PySem.wpAny_rule
def Ut:=@Int.fdiv_eq_ediv_of_nonneg
def Uu:=@Int.fmod_eq_emod_of_nonneg
def Uv:=@List.length_nil
def Uw:=@PySem.wpAny_call
def Ux:=@List.all_cons
def Uy:=@PySem.wpAny_letOwnedTupleGo_enum
def Uz:=@not_or
def UA:=@PySem.wpAny_setField
def UB:=@Int.emod_lt_of_pos
def UC:=@PySem.W.kitx_list
def UD:=@Option.isSome_map
def UE:=@Function.comp_def
def UG:=@List.set_set
def UH:=@Array.all_eq_true
def UI:=@decide_true
def UJ:=@PySem.wpAny_getItem_list_slice
def UK:=@Bool.and_true
def UL:=@PySem.noFill_tuple_add
def UM:=@List.length_singleton
def UO:=@Nat.le_of_not_lt
def UP:=@PySem.F.args_enumerate_next_1
def UQ:=@Option.getD_some
def UR:=@List.take_append_drop
def US:=@Nat.le_of_lt
def UT:=@PySem.wpAny_pyNext_list_item
def UU:=@PyProof.noPylong_small
def UW:=@List.take_sublist
def UX:=@PySem.concat_meets
def UZ:=@List.length_set
def U0:=@Nat.not_lt
def U1:=@List.all_map
def U3:=@PySem.F.entry_enumerate_next
def U4:=@List.reverse_cons
def U5:=@PySem.Calls.callWith_builtin
def U6:=@PySem.wpAny_execs_nil
def U7:=@PySem.codeAny_of_tree
def U8:=@PySem.W.mapOf_K
def U9:=@List.getElem?_of_mem
def Va:=@Int.emod_nonneg
def Vc:=@PySem.F.entry_bexc_ga
def Vd:=@List.getElem_inj
def Ve:=@PySem.wpAny_notIn_of
def Vf:=@PySem.intItems_at
def Vg:=@List.take_length
def Vh:=@List.map_take
def Vi:=@List.map_nil
def Vj:=@PySem.Paired.length
def Vk:=@PySem.seq_tuple_add
def Vl:=@PySem.evalPart_none
def Vm:=@Prod.mk.injEq
def Vn:=@Bool.not_true
def Vo:=@List.foldl_cons
def Vq:=@List.countP_map
def Vr:=@List.nodup_cons
def Vs:=@List.nil_append
def Vt:=@List.any_eq_false
def Vu:=@Nat.le_of_eq
def Vv:=@PySem.wpAny_typeOf
def Vx:=@PySem.seqIndex_neg
def Vy:=@Nat.lt_trans
def Vz:=@List.getElem?_set
def VA:=@Nat.add_zero
def VC:=@List.take_add_one
def VD:=@List.map_drop
def VF:=@List.nodup_nil
namespace My
open PySem List
def top(i:Nat):Stmt:=PySem.Challenge.pw_relayholds_k84_stuck_nets.main.body.getD i (.Pass ⟨0,0,0,0⟩)
noncomputable abbrev VS(x:Str)(t:Tok):Value:=.str x t
noncomputable abbrev VI(x:Int)(t:Tok):Value:=.int x t
noncomputable abbrev VR(x:Addr):Value:=.ref x
noncomputable abbrev VN:Value:=.none
noncomputable abbrev VT(x:String):Value:=.type x
noncomputable abbrev VB(x:String):Value:=.builtin x
noncomputable abbrev KE(P:Params)(x:Str)(t:Tok)(v:Value):DictEntry:=⟨PyData.keyHash P x,.str x t,v⟩
noncomputable abbrev hI(i j:Nat):Stmt:=match top i with
 |.ClassDef _ _ _ b _ _ _ _ _ _ _=>b.getD j (top i)
 |s=>s
noncomputable abbrev Qa(st:Stmt)(q:Str)(g:Addr)(i:List (Str×Addr))(d c a b:Value)(h:Option Addr)(code ct:Value)(e:Addr):Data:=match st with
 |.FunctionDef nm f body _ _ _ sc _ _ _=>.func ⟨nm,q,f,.stmts body,sc,g,i,d,c,a,b,h,code,ct,e⟩
 |_=>.plain
noncomputable abbrev hf(t:Tok):Value:=VS "/claim/cut.py" t
noncomputable abbrev hO(A:Addr)(n q:Str)(t a b r u v:Nat)(x y z:Value):Addr×Obj:=(A,⟨VT "code",none,.fields #[VS n t,VS q (t+1),hf (t+2),VI a 0,VI b 0,VI 0 0,VI 0 0,VI 3 0,VR r,.bool true,VI 181 0,VR (r+1),VN,x,y,z,VI u 0,VI a 0,hf v],#[]⟩)
noncomputable abbrev hC(A:Addr)(n q:Str)(t b a r u v:Nat):Addr×Obj:=hO A n q t b a r u v (VR (r+2)) (VR (r+3)) (VR (r+4))
noncomputable abbrev hc(A:Addr)(n q:Str)(t b a r u v:Nat):Addr×Obj:=hO A n q t b a r u v VN VN (VR (r+2))
noncomputable abbrev hF(A:Addr)(st:Stmt)(q:Str)(a:Value)(c:Addr):Addr×Obj:=(A,⟨VT "function",none,Qa st q 3 [] VN VN VN a none (VR c) VN 0,#[]⟩)
noncomputable abbrev mw:Value:=VS "relayholds.nets" 410
noncomputable abbrev ur:Value:=VS "law_relayholds_k84_stuck_nets" 694
noncomputable abbrev wk:Value:=VS "relayholds.errors" 187
def kk:Params->ae:=λ P=>[(2,⟨VN,none,(.dict #[] 0),#[]⟩),
 (3,⟨(VT "dict"),none,(.dict #[KE P "__name__" 165 ur,KE P "__doc__" 166 VN,KE P "__package__" 167 VN,KE P "__loader__" 168 (VB "__main__.__loader__#opaque"),KE P "__spec__" 169 VN,KE P "__annotations__" 170 (VR 6),KE P "__builtins__" 171 (VR 4),KE P "__file__" 173 (VS "/claim/cut.py" 172),KE P "__cached__" 174 VN,KE P "RelayError" 206 (VR 24),KE P "NoNet" 231 (VR 44),KE P "NoText" 247 (VR 56),KE P "NoTable" 272 (VR 75),KE P "NoNames" 288 (VR 87),KE P "NoName" 304 (VR 99),KE P "NoPiece" 320 (VR 111),KE P "NoPosition" 336 (VR 123),KE P "NoState" 352 (VR 135),KE P "NotResting" 368 (VR 147),KE P "Raced" 393 (VR 166),KE P "NotSure" 409 (VR 178),KE P "MOST_SIGNS" 413 (VI 8 412),KE P "MOST_KEYS" 415 (VI 2 414),KE P "MOST_RELAYS" 417 (VI 4 416),KE P "MOST_LAMPS" 419 (VI 2 418),KE P "LEAST_NODES" 421 (VI 2 420),KE P "MOST_NODES" 423 (VI 640 422),KE P "MOST_PIECES" 425 (VI 800 424),KE P "LEAST_TIME" 427 (VI 1 426),KE P "MOST_TIME" 429 (VI 4 428),KE P "MANY_ENDS" 448 (VR 181),KE P "CONTACT_WORDS" 452 (VR 182),KE P "Net" 533 (VR 241),KE P "check_net" 545 (VR 252),KE P "check_words" 555 (VR 259),KE P "first_wrong_word" 565 (VR 266),KE P "is_word" 571 (VR 271),KE P "check_many" 584 (VR 278),KE P "check_sizes" 592 (VR 285),KE P "check_pieces" 607 (VR 292),KE P "is_piece" 618 (VR 299),KE P "ends_of" 625 (VR 306),KE P "are_unlike_nodes" 631 (VR 311),KE P "is_whole" 638 (VR 318),KE P "check_just_one" 644 (VR 323),KE P "check_times" 654 (VR 330),KE P "are_times" 660 (VR 335),KE P "stuck_net" 675 (VR 342),KE P "contact_of" 684 (VR 349),KE P "with_pieces" 693 (VR 356),KE P "_law_pot" 704 (VR 363),KE P "_law_digit" 713 (VR 370),KE P "_law_two" 722 (VR 377),KE P "_law_contact" 728 (VR 382),KE P "_law_coil" 740 (VR 389),KE P "_law_time" 751 (VR 396),KE P "_law_wild" 757 (VR 401),KE P "_law_shown" 764 (VR 408),KE P "_law_is_just" 772 (VR 415),KE P "_law_is_refused" 783 (VR 422),KE P "_law_stuck" 794 (VR 429),KE P "_law_right" 806 (VR 436),KE P "law" 820 (VR 443)] 63),#[]⟩),
 (23,⟨(VT "dict"),none,(.dict #[KE P "__module__" 196 wk,KE P "__firstlineno__" 200 (VI 2 199),KE P "__static_attributes__" 201 (VR 22),KE P "__weakref__" 203 (VR 25),KE P "__doc__" 204 VN] 3),#[]⟩),
 (24,⟨(VT "type"),none,(.cls {name:="RelayError",bases:=[.type "ValueError"],mro:=[.ref 24,.type "ValueError",.type "Exception",.type "BaseException",.type "object"],ns:=23,qualname:="RelayError",subclasses:=[.ref 44,.ref 56,.ref 75,.ref 87,.ref 99,.ref 111,.ref 123,.ref 135,.ref 147,.ref 166,.ref 178]}),#[@(VR 15),none,@(VS "RelayError" 189),@(VS "RelayError" 197),@(VB "ValueError.__new__"),@(.bool true)]⟩),
 hC 40 "__init__" "NoNet.__init__" 219 6 2 35 224 225,
 hF 41 (hI 2 0) "NoNet.__init__" wk 40,
 (43,⟨(VT "dict"),none,(.dict #[KE P "__module__" 214 wk,KE P "__firstlineno__" 218 (VI 4 217),KE P "__init__" 226 (VR 41),KE P "__static_attributes__" 228 (VR 42),KE P "__doc__" 229 VN] 2),#[]⟩),
 (44,⟨(VT "type"),none,(.cls {name:="NoNet",bases:=[.ref 24],mro:=[.ref 44,.ref 24,.type "ValueError",.type "Exception",.type "BaseException",.type "object"],ns:=43,qualname:="NoNet"}),#[@(VR 28),none,@(VS "NoNet" 207),@(VS "NoNet" 215),@(VB "ValueError.__new__"),@(.bool true)]⟩),
 (55,⟨(VT "dict"),none,(.dict #[KE P "__module__" 239 wk,KE P "__firstlineno__" 243 (VI 8 242),KE P "__static_attributes__" 244 (VR 54),KE P "__doc__" 245 VN] 2),#[]⟩),
 (56,⟨(VT "type"),none,(.cls {name:="NoText",bases:=[.ref 24],mro:=[.ref 56,.ref 24,.type "ValueError",.type "Exception",.type "BaseException",.type "object"],ns:=55,qualname:="NoText"}),#[@(VR 47),none,@(VS "NoText" 232),@(VS "NoText" 240),@(VB "ValueError.__new__"),@(.bool true)]⟩),
 (74,⟨(VT "dict"),none,(.dict #[KE P "__module__" 255 wk,KE P "__firstlineno__" 259 (VI 10 258),KE P "__init__" 267 (VR 72),KE P "__static_attributes__" 269 (VR 73),KE P "__doc__" 270 VN] 2),#[]⟩),
 (75,⟨(VT "type"),none,(.cls {name:="NoTable",bases:=[.ref 24],mro:=[.ref 75,.ref 24,.type "ValueError",.type "Exception",.type "BaseException",.type "object"],ns:=74,qualname:="NoTable"}),#[@(VR 59),none,@(VS "NoTable" 248),@(VS "NoTable" 256),@(VB "ValueError.__new__"),@(.bool true)]⟩),
 (86,⟨(VT "dict"),none,(.dict #[KE P "__module__" 280 wk,KE P "__firstlineno__" 284 (VI 14 283),KE P "__static_attributes__" 285 (VR 85),KE P "__doc__" 286 VN] 2),#[]⟩),
 (87,⟨(VT "type"),none,(.cls {name:="NoNames",bases:=[.ref 24],mro:=[.ref 87,.ref 24,.type "ValueError",.type "Exception",.type "BaseException",.type "object"],ns:=86,qualname:="NoNames"}),#[@(VR 78),none,@(VS "NoNames" 273),@(VS "NoNames" 281),@(VB "ValueError.__new__"),@(.bool true)]⟩),
 (98,⟨(VT "dict"),none,(.dict #[KE P "__module__" 296 wk,KE P "__firstlineno__" 300 (VI 16 299),KE P "__static_attributes__" 301 (VR 97),KE P "__doc__" 302 VN] 2),#[]⟩),
 (99,⟨(VT "type"),none,(.cls {name:="NoName",bases:=[.ref 24],mro:=[.ref 99,.ref 24,.type "ValueError",.type "Exception",.type "BaseException",.type "object"],ns:=98,qualname:="NoName"}),#[@(VR 90),none,@(VS "NoName" 289),@(VS "NoName" 297),@(VB "ValueError.__new__"),@(.bool true)]⟩),
 (110,⟨(VT "dict"),none,(.dict #[KE P "__module__" 312 wk,KE P "__firstlineno__" 316 (VI 18 315),KE P "__static_attributes__" 317 (VR 109),KE P "__doc__" 318 VN] 2),#[]⟩),
 (111,⟨(VT "type"),none,(.cls {name:="NoPiece",bases:=[.ref 24],mro:=[.ref 111,.ref 24,.type "ValueError",.type "Exception",.type "BaseException",.type "object"],ns:=110,qualname:="NoPiece"}),#[@(VR 102),none,@(VS "NoPiece" 305),@(VS "NoPiece" 313),@(VB "ValueError.__new__"),@(.bool true)]⟩),
 (122,⟨(VT "dict"),none,(.dict #[KE P "__module__" 328 wk,KE P "__firstlineno__" 332 (VI 20 331),KE P "__static_attributes__" 333 (VR 121),KE P "__doc__" 334 VN] 2),#[]⟩),
 (123,⟨(VT "type"),none,(.cls {name:="NoPosition",bases:=[.ref 24],mro:=[.ref 123,.ref 24,.type "ValueError",.type "Exception",.type "BaseException",.type "object"],ns:=122,qualname:="NoPosition"}),#[@(VR 114),none,@(VS "NoPosition" 321),@(VS "NoPosition" 329),@(VB "ValueError.__new__"),@(.bool true)]⟩),
 (134,⟨(VT "dict"),none,(.dict #[KE P "__module__" 344 wk,KE P "__firstlineno__" 348 (VI 22 347),KE P "__static_attributes__" 349 (VR 133),KE P "__doc__" 350 VN] 2),#[]⟩),
 (135,⟨(VT "type"),none,(.cls {name:="NoState",bases:=[.ref 24],mro:=[.ref 135,.ref 24,.type "ValueError",.type "Exception",.type "BaseException",.type "object"],ns:=134,qualname:="NoState"}),#[@(VR 126),none,@(VS "NoState" 337),@(VS "NoState" 345),@(VB "ValueError.__new__"),@(.bool true)]⟩),
 (146,⟨(VT "dict"),none,(.dict #[KE P "__module__" 360 wk,KE P "__firstlineno__" 364 (VI 24 363),KE P "__static_attributes__" 365 (VR 145),KE P "__doc__" 366 VN] 2),#[]⟩),
 (147,⟨(VT "type"),none,(.cls {name:="NotResting",bases:=[.ref 24],mro:=[.ref 147,.ref 24,.type "ValueError",.type "Exception",.type "BaseException",.type "object"],ns:=146,qualname:="NotResting"}),#[@(VR 138),none,@(VS "NotResting" 353),@(VS "NotResting" 361),@(VB "ValueError.__new__"),@(.bool true)]⟩),
 (165,⟨(VT "dict"),none,(.dict #[KE P "__module__" 376 wk,KE P "__firstlineno__" 380 (VI 26 379),KE P "__init__" 388 (VR 163),KE P "__static_attributes__" 390 (VR 164),KE P "__doc__" 391 VN] 2),#[]⟩),
 (166,⟨(VT "type"),none,(.cls {name:="Raced",bases:=[.ref 24],mro:=[.ref 166,.ref 24,.type "ValueError",.type "Exception",.type "BaseException",.type "object"],ns:=165,qualname:="Raced"}),#[@(VR 150),none,@(VS "Raced" 369),@(VS "Raced" 377),@(VB "ValueError.__new__"),@(.bool true)]⟩),
 (177,⟨(VT "dict"),none,(.dict #[KE P "__module__" 401 wk,KE P "__firstlineno__" 405 (VI 30 404),KE P "__static_attributes__" 406 (VR 176),KE P "__doc__" 407 VN] 2),#[]⟩),
 (178,⟨(VT "type"),none,(.cls {name:="NotSure",bases:=[.ref 24],mro:=[.ref 178,.ref 24,.type "ValueError",.type "Exception",.type "BaseException",.type "object"],ns:=177,qualname:="NotSure"}),#[@(VR 169),none,@(VS "NotSure" 394),@(VS "NotSure" 402),@(VB "ValueError.__new__"),@(.bool true)]⟩),
 (181,⟨(VT "dict"),none,(.dict #[KE P "wire" 430 (VI 2 431),KE P "made" 432 (VI 2 433),KE P "broken" 434 (VI 2 435),KE P "swap" 436 (VI 3 437),KE P "coil" 438 (VI 2 439),KE P "lamp" 440 (VI 2 441)] 6),#[]⟩),
 (182,⟨(VT "tuple"),none,(.seq #[(VS "made" 449),(VS "broken" 450),(VS "swap" 451)] 0),#[]⟩),
 hC 195 "__init__" "Net.__init__" 465 46 7 190 475 476,
 hF 196 (hI 25 0) "Net.__init__" mw 195,
 hC 202 "key_words" "Net.key_words" 478 55 1 197 482 483,
 hF 203 (hI 25 1) "Net.key_words" mw 202,
 hC 209 "relays" "Net.relays" 485 58 1 204 489 490,
 hF 210 (hI 25 2) "Net.relays" mw 209,
 hC 216 "lamps" "Net.lamps" 492 61 1 211 496 497,
 hF 217 (hI 25 3) "Net.lamps" mw 216,
 hC 223 "nodes" "Net.nodes" 499 64 1 218 503 504,
 hF 224 (hI 25 4) "Net.nodes" mw 223,
 hC 230 "pieces" "Net.pieces" 506 67 1 225 510 511,
 hF 231 (hI 25 5) "Net.pieces" mw 230,
 hC 237 "times" "Net.times" 513 70 1 232 517 518,
 hF 238 (hI 25 6) "Net.times" mw 237,
 (240,⟨(VT "dict"),none,(.dict #[KE P "__module__" 460 mw,KE P "__firstlineno__" 464 (VI 44 463),KE P "__init__" 477 (VR 196),KE P "key_words" 484 (VR 203),KE P "relays" 491 (VR 210),KE P "lamps" 498 (VR 217),KE P "nodes" 505 (VR 224),KE P "pieces" 512 (VR 231),KE P "times" 519 (VR 238),KE P "__static_attributes__" 526 (VR 239),KE P "__dict__" 528 (VR 242),KE P "__weakref__" 530 (VR 243),KE P "__doc__" 531 VN] 4),#[]⟩),
 (241,⟨(VT "type"),none,(.cls {name:="Net",bases:=[.type "object"],mro:=[.ref 241,.type "object"],ns:=240,qualname:="Net"}),#[none,none,@(VS "Net" 453),@(VS "Net" 461),@(VB "object.__new__"),@(.bool true)]⟩),
 hC 251 "check_net" "check_net" 534 72 6 246 543 544,
 hF 252 (top 26) "check_net" mw 251,
 hC 258 "check_words" "check_words" 546 80 3 253 553 554,
 hF 259 (top 27) "check_words" mw 258,
 hC 265 "first_wrong_word" "first_wrong_word" 556 84 1 260 563 564,
 hF 266 (top 28) "first_wrong_word" mw 265,
 hc 270 "is_word" "is_word" 566 91 1 267 569 570,
 hF 271 (top 29) "is_word" mw 270,
 hC 277 "check_many" "check_many" 572 93 3 272 582 583,
 hF 278 (top 30) "check_many" mw 277,
 hC 284 "check_sizes" "check_sizes" 585 98 2 279 590 591,
 hF 285 (top 31) "check_sizes" mw 284,
 hC 291 "check_pieces" "check_pieces" 593 103 5 286 605 606,
 hF 292 (top 32) "check_pieces" mw 291,
 hC 298 "is_piece" "is_piece" 608 109 3 293 616 617,
 hF 299 (top 33) "is_piece" mw 298,
 hC 305 "ends_of" "ends_of" 619 117 1 300 623 624,
 hF 306 (top 34) "ends_of" mw 305,
 hc 310 "are_unlike_nodes" "are_unlike_nodes" 626 119 2 307 629 630,
 hF 311 (top 35) "are_unlike_nodes" mw 310,
 hC 317 "is_whole" "is_whole" 632 121 1 312 636 637,
 hF 318 (top 36) "is_whole" mw 317,
 hc 322 "check_just_one" "check_just_one" 639 123 3 319 642 643,
 hF 323 (top 37) "check_just_one" mw 322,
 hC 329 "check_times" "check_times" 645 128 2 324 652 653,
 hF 330 (top 38) "check_times" mw 329,
 hc 334 "are_times" "are_times" 655 134 1 331 658 659,
 hF 335 (top 39) "are_times" mw 334,
 hC 341 "stuck_net" "stuck_net" 663 139 3 336 673 674,
 hF 342 (top 41) "stuck_net" (VS "relayholds.stuck" 661) 341,
 hC 348 "contact_of" "contact_of" 676 144 2 343 682 683,
 hF 349 (top 42) "contact_of" (VS "relayholds.stuck" 661) 348,
 hC 355 "with_pieces" "with_pieces" 685 149 3 350 691 692,
 hF 356 (top 43) "with_pieces" (VS "relayholds.stuck" 661) 355,
 hC 362 "_law_pot" "_law_pot" 696 152 2 357 702 703,
 hF 363 (top 45) "_law_pot" ur 362,
 hC 369 "_law_digit" "_law_digit" 705 155 2 364 711 712,
 hF 370 (top 46) "_law_digit" ur 369,
 hC 376 "_law_two" "_law_two" 714 161 2 371 720 721,
 hF 377 (top 47) "_law_two" ur 376,
 hc 381 "_law_contact" "_law_contact" 723 164 3 378 726 727,
 hF 382 (top 48) "_law_contact" ur 381,
 hC 388 "_law_coil" "_law_coil" 729 174 4 383 738 739,
 hF 389 (top 49) "_law_coil" ur 388,
 hC 395 "_law_time" "_law_time" 741 179 2 390 749 750,
 hF 396 (top 50) "_law_time" ur 395,
 hc 400 "_law_wild" "_law_wild" 752 185 1 397 755 756,
 hF 401 (top 51) "_law_wild" ur 400,
 hC 407 "_law_shown" "_law_shown" 758 196 1 402 762 763,
 hF 408 (top 52) "_law_shown" ur 407,
 hC 414 "_law_is_just" "_law_is_just" 765 198 1 409 770 771,
 hF 415 (top 53) "_law_is_just" ur 414,
 hC 421 "_law_is_refused" "_law_is_refused" 773 202 3 416 781 782,
 hF 422 (top 54) "_law_is_refused" ur 421,
 hC 428 "_law_stuck" "_law_stuck" 784 209 3 423 792 793,
 hF 429 (top 55) "_law_stuck" ur 428,
 hC 435 "_law_right" "_law_right" 795 213 4 430 804 805,
 hF 436 (top 56) "_law_right" ur 435,
 hC 442 "law" "law" 807 223 1 437 818 819,
 hF 443 (top 57) "law" ur 442]
def ka:List Addr:=[2,3,23,24,40,41,43,44,55,56,74,75,86,87,98,99,110,111,122,123,134,135,146,147,165,166,177,178,181,182,195,196,202,203,209,210,216,217,223,224,230,231,237,238,240,241,251,252,258,259,265,266,270,271,277,278,284,285,291,292,298,299,305,306,310,311,317,318,322,323,329,330,334,335,341,342,348,349,355,356,362,363,369,370,376,377,381,382,388,389,395,396,400,401,407,408,414,415,421,422,428,429,435,436,442,443]
theorem Qd:PySem.W.OpenLaw.wellSaid PySem.Challenge.rw_relayholds_k84_stuck_nets=true:=by kernel_rfl
end My
section
set_option hygiene false
set_option genSizeOfSpec false
set_option genSizeOf false
inductive Jt{α0:Sort _}(P0 P1:α0->Prop):Prop | mk (x0:α0) (h0:P0 x0) (h1:P1 x0):Jt P0 P1
inductive Ju{α0:Sort _}(P0 P1 P2:α0->Prop):Prop | mk (x0:α0) (h0:P0 x0) (h1:P1 x0) (h2:P2 x0):Ju P0 P1 P2
inductive Jv{α0:Sort _}(P0 P1 P2 P3:α0->Prop):Prop | mk (x0:α0) (h0:P0 x0) (h1:P1 x0) (h2:P2 x0) (h3:P3 x0):Jv P0 P1 P2 P3
inductive Jx{α0:Sort _}(P0 P1 P2 P3 P4:α0->Prop):Prop | mk (x0:α0) (h0:P0 x0) (h1:P1 x0) (h2:P2 x0) (h3:P3 x0) (h4:P4 x0):Jx P0 P1 P2 P3 P4
inductive Jy{α0:Sort _}(P0 P1 P2 P3 P4 P5:α0->Prop):Prop | mk (x0:α0) (h0:P0 x0) (h1:P1 x0) (h2:P2 x0) (h3:P3 x0) (h4:P4 x0) (h5:P5 x0):Jy P0 P1 P2 P3 P4 P5
inductive Jz{α0 α1:Sort _}(P0:α0->α1->Prop):Prop | mk (x0:α0) (x1:α1) (h0:P0 x0 x1):Jz P0
inductive JA{α0 α1:Sort _}(P0 P1:α0->α1->Prop):Prop | mk (x0:α0) (x1:α1) (h0:P0 x0 x1) (h1:P1 x0 x1):JA P0 P1
inductive JB{α0 α1:Sort _}(P0 P1 P2:α0->α1->Prop):Prop | mk (x0:α0) (x1:α1) (h0:P0 x0 x1) (h1:P1 x0 x1) (h2:P2 x0 x1):JB P0 P1 P2
inductive JC{α0 α1:Sort _}(P0 P1 P2 P3:α0->α1->Prop):Prop | mk (x0:α0) (x1:α1) (h0:P0 x0 x1) (h1:P1 x0 x1) (h2:P2 x0 x1) (h3:P3 x0 x1):JC P0 P1 P2 P3
inductive JD{α0 α1:Sort _}(P0 P1 P2 P3 P4:α0->α1->Prop):Prop | mk (x0:α0) (x1:α1) (h0:P0 x0 x1) (h1:P1 x0 x1) (h2:P2 x0 x1) (h3:P3 x0 x1) (h4:P4 x0 x1):JD P0 P1 P2 P3 P4
inductive JE{α0 α1:Sort _}(P0 P1 P2 P3 P4 P5:α0->α1->Prop):Prop | mk (x0:α0) (x1:α1) (h0:P0 x0 x1) (h1:P1 x0 x1) (h2:P2 x0 x1) (h3:P3 x0 x1) (h4:P4 x0 x1) (h5:P5 x0 x1):JE P0 P1 P2 P3 P4 P5
inductive JF{α0 α1:Sort _}(P0 P1 P2 P3 P4 P5 P6 P7:α0->α1->Prop):Prop | mk (x0:α0) (x1:α1) (h0:P0 x0 x1) (h1:P1 x0 x1) (h2:P2 x0 x1) (h3:P3 x0 x1) (h4:P4 x0 x1) (h5:P5 x0 x1) (h6:P6 x0 x1) (h7:P7 x0 x1):JF P0 P1 P2 P3 P4 P5 P6 P7
inductive JG{α0 α1 α2:Sort _}(P0:α0->α1->α2->Prop):Prop | mk (x0:α0) (x1:α1) (x2:α2) (h0:P0 x0 x1 x2):JG P0
inductive JH{α0 α1 α2:Sort _}(P0 P1:α0->α1->α2->Prop):Prop | mk (x0:α0) (x1:α1) (x2:α2) (h0:P0 x0 x1 x2) (h1:P1 x0 x1 x2):JH P0 P1
inductive JI{α0 α1 α2:Sort _}(P0 P1 P2:α0->α1->α2->Prop):Prop | mk (x0:α0) (x1:α1) (x2:α2) (h0:P0 x0 x1 x2) (h1:P1 x0 x1 x2) (h2:P2 x0 x1 x2):JI P0 P1 P2
inductive JJ{α0 α1 α2:Sort _}(P0 P1 P2 P3:α0->α1->α2->Prop):Prop | mk (x0:α0) (x1:α1) (x2:α2) (h0:P0 x0 x1 x2) (h1:P1 x0 x1 x2) (h2:P2 x0 x1 x2) (h3:P3 x0 x1 x2):JJ P0 P1 P2 P3
inductive JK{α0 α1 α2:Sort _}(P0 P1 P2 P3 P4:α0->α1->α2->Prop):Prop | mk (x0:α0) (x1:α1) (x2:α2) (h0:P0 x0 x1 x2) (h1:P1 x0 x1 x2) (h2:P2 x0 x1 x2) (h3:P3 x0 x1 x2) (h4:P4 x0 x1 x2):JK P0 P1 P2 P3 P4
inductive JL{α0 α1 α2:Sort _}(P0 P1 P2 P3 P4 P5:α0->α1->α2->Prop):Prop | mk (x0:α0) (x1:α1) (x2:α2) (h0:P0 x0 x1 x2) (h1:P1 x0 x1 x2) (h2:P2 x0 x1 x2) (h3:P3 x0 x1 x2) (h4:P4 x0 x1 x2) (h5:P5 x0 x1 x2):JL P0 P1 P2 P3 P4 P5
inductive JM{α0 α1 α2:Sort _}(P0 P1 P2 P3 P4 P5 P6:α0->α1->α2->Prop):Prop | mk (x0:α0) (x1:α1) (x2:α2) (h0:P0 x0 x1 x2) (h1:P1 x0 x1 x2) (h2:P2 x0 x1 x2) (h3:P3 x0 x1 x2) (h4:P4 x0 x1 x2) (h5:P5 x0 x1 x2) (h6:P6 x0 x1 x2):JM P0 P1 P2 P3 P4 P5 P6
inductive JN{α0 α1 α2 α3:Sort _}(P0:α0->α1->α2->α3->Prop):Prop | mk (x0:α0) (x1:α1) (x2:α2) (x3:α3) (h0:P0 x0 x1 x2 x3):JN P0
inductive JO{α0 α1 α2 α3:Sort _}(P0 P1:α0->α1->α2->α3->Prop):Prop | mk (x0:α0) (x1:α1) (x2:α2) (x3:α3) (h0:P0 x0 x1 x2 x3) (h1:P1 x0 x1 x2 x3):JO P0 P1
inductive JP{α0 α1 α2 α3:Sort _}(P0 P1 P2:α0->α1->α2->α3->Prop):Prop | mk (x0:α0) (x1:α1) (x2:α2) (x3:α3) (h0:P0 x0 x1 x2 x3) (h1:P1 x0 x1 x2 x3) (h2:P2 x0 x1 x2 x3):JP P0 P1 P2
inductive JQ{α0 α1 α2 α3:Sort _}(P0 P1 P2 P3:α0->α1->α2->α3->Prop):Prop | mk (x0:α0) (x1:α1) (x2:α2) (x3:α3) (h0:P0 x0 x1 x2 x3) (h1:P1 x0 x1 x2 x3) (h2:P2 x0 x1 x2 x3) (h3:P3 x0 x1 x2 x3):JQ P0 P1 P2 P3
inductive JR{α0 α1 α2 α3:Sort _}(P0 P1 P2 P3 P4:α0->α1->α2->α3->Prop):Prop | mk (x0:α0) (x1:α1) (x2:α2) (x3:α3) (h0:P0 x0 x1 x2 x3) (h1:P1 x0 x1 x2 x3) (h2:P2 x0 x1 x2 x3) (h3:P3 x0 x1 x2 x3) (h4:P4 x0 x1 x2 x3):JR P0 P1 P2 P3 P4
inductive JS{α0 α1 α2 α3:Sort _}(P0 P1 P2 P3 P4 P5:α0->α1->α2->α3->Prop):Prop | mk (x0:α0) (x1:α1) (x2:α2) (x3:α3) (h0:P0 x0 x1 x2 x3) (h1:P1 x0 x1 x2 x3) (h2:P2 x0 x1 x2 x3) (h3:P3 x0 x1 x2 x3) (h4:P4 x0 x1 x2 x3) (h5:P5 x0 x1 x2 x3):JS P0 P1 P2 P3 P4 P5
inductive JT{α0 α1 α2 α3:Sort _}(P0 P1 P2 P3 P4 P5 P6:α0->α1->α2->α3->Prop):Prop | mk (x0:α0) (x1:α1) (x2:α2) (x3:α3) (h0:P0 x0 x1 x2 x3) (h1:P1 x0 x1 x2 x3) (h2:P2 x0 x1 x2 x3) (h3:P3 x0 x1 x2 x3) (h4:P4 x0 x1 x2 x3) (h5:P5 x0 x1 x2 x3) (h6:P6 x0 x1 x2 x3):JT P0 P1 P2 P3 P4 P5 P6
inductive JU{α0 α1 α2 α3:Sort _}(P0 P1 P2 P3 P4 P5 P6 P7:α0->α1->α2->α3->Prop):Prop | mk (x0:α0) (x1:α1) (x2:α2) (x3:α3) (h0:P0 x0 x1 x2 x3) (h1:P1 x0 x1 x2 x3) (h2:P2 x0 x1 x2 x3) (h3:P3 x0 x1 x2 x3) (h4:P4 x0 x1 x2 x3) (h5:P5 x0 x1 x2 x3) (h6:P6 x0 x1 x2 x3) (h7:P7 x0 x1 x2 x3):JU P0 P1 P2 P3 P4 P5 P6 P7
inductive JV{α0 α1 α2 α3:Sort _}(P0 P1 P2 P3 P4 P5 P6 P7 P8:α0->α1->α2->α3->Prop):Prop | mk (x0:α0) (x1:α1) (x2:α2) (x3:α3) (h0:P0 x0 x1 x2 x3) (h1:P1 x0 x1 x2 x3) (h2:P2 x0 x1 x2 x3) (h3:P3 x0 x1 x2 x3) (h4:P4 x0 x1 x2 x3) (h5:P5 x0 x1 x2 x3) (h6:P6 x0 x1 x2 x3) (h7:P7 x0 x1 x2 x3) (h8:P8 x0 x1 x2 x3):JV P0 P1 P2 P3 P4 P5 P6 P7 P8
inductive JW{α0 α1 α2 α3 α4:Sort _}(P0:α0->α1->α2->α3->α4->Prop):Prop | mk (x0:α0) (x1:α1) (x2:α2) (x3:α3) (x4:α4) (h0:P0 x0 x1 x2 x3 x4):JW P0
inductive JX{α0 α1 α2 α3 α4:Sort _}(P0 P1 P2 P3:α0->α1->α2->α3->α4->Prop):Prop | mk (x0:α0) (x1:α1) (x2:α2) (x3:α3) (x4:α4) (h0:P0 x0 x1 x2 x3 x4) (h1:P1 x0 x1 x2 x3 x4) (h2:P2 x0 x1 x2 x3 x4) (h3:P3 x0 x1 x2 x3 x4):JX P0 P1 P2 P3
inductive JY{α0 α1 α2 α3 α4:Sort _}(P0 P1 P2 P3 P4:α0->α1->α2->α3->α4->Prop):Prop | mk (x0:α0) (x1:α1) (x2:α2) (x3:α3) (x4:α4) (h0:P0 x0 x1 x2 x3 x4) (h1:P1 x0 x1 x2 x3 x4) (h2:P2 x0 x1 x2 x3 x4) (h3:P3 x0 x1 x2 x3 x4) (h4:P4 x0 x1 x2 x3 x4):JY P0 P1 P2 P3 P4
inductive JZ{α0 α1 α2 α3 α4:Sort _}(P0 P1 P2 P3 P4 P5:α0->α1->α2->α3->α4->Prop):Prop | mk (x0:α0) (x1:α1) (x2:α2) (x3:α3) (x4:α4) (h0:P0 x0 x1 x2 x3 x4) (h1:P1 x0 x1 x2 x3 x4) (h2:P2 x0 x1 x2 x3 x4) (h3:P3 x0 x1 x2 x3 x4) (h4:P4 x0 x1 x2 x3 x4) (h5:P5 x0 x1 x2 x3 x4):JZ P0 P1 P2 P3 P4 P5
inductive J1{α0 α1 α2 α3 α4:Sort _}(P0 P1 P2 P3 P4 P5 P6 P7 P8:α0->α1->α2->α3->α4->Prop):Prop | mk (x0:α0) (x1:α1) (x2:α2) (x3:α3) (x4:α4) (h0:P0 x0 x1 x2 x3 x4) (h1:P1 x0 x1 x2 x3 x4) (h2:P2 x0 x1 x2 x3 x4) (h3:P3 x0 x1 x2 x3 x4) (h4:P4 x0 x1 x2 x3 x4) (h5:P5 x0 x1 x2 x3 x4) (h6:P6 x0 x1 x2 x3 x4) (h7:P7 x0 x1 x2 x3 x4) (h8:P8 x0 x1 x2 x3 x4):J1 P0 P1 P2 P3 P4 P5 P6 P7 P8
inductive J2{α0 α1 α2 α3 α4 α5:Sort _}(P0 P1:α0->α1->α2->α3->α4->α5->Prop):Prop | mk (x0:α0) (x1:α1) (x2:α2) (x3:α3) (x4:α4) (x5:α5) (h0:P0 x0 x1 x2 x3 x4 x5) (h1:P1 x0 x1 x2 x3 x4 x5):J2 P0 P1
inductive J3{α0 α1 α2 α3 α4 α5:Sort _}(P0 P1 P2 P3 P4 P5:α0->α1->α2->α3->α4->α5->Prop):Prop | mk (x0:α0) (x1:α1) (x2:α2) (x3:α3) (x4:α4) (x5:α5) (h0:P0 x0 x1 x2 x3 x4 x5) (h1:P1 x0 x1 x2 x3 x4 x5) (h2:P2 x0 x1 x2 x3 x4 x5) (h3:P3 x0 x1 x2 x3 x4 x5) (h4:P4 x0 x1 x2 x3 x4 x5) (h5:P5 x0 x1 x2 x3 x4 x5):J3 P0 P1 P2 P3 P4 P5
inductive J4{α0 α1 α2 α3 α4 α5 α6:Sort _}(P0:α0->α1->α2->α3->α4->α5->α6->Prop):Prop | mk (x0:α0) (x1:α1) (x2:α2) (x3:α3) (x4:α4) (x5:α5) (x6:α6) (h0:P0 x0 x1 x2 x3 x4 x5 x6):J4 P0
inductive J5{α0 α1 α2 α3 α4 α5 α6:Sort _}(P0 P1:α0->α1->α2->α3->α4->α5->α6->Prop):Prop | mk (x0:α0) (x1:α1) (x2:α2) (x3:α3) (x4:α4) (x5:α5) (x6:α6) (h0:P0 x0 x1 x2 x3 x4 x5 x6) (h1:P1 x0 x1 x2 x3 x4 x5 x6):J5 P0 P1
inductive J6{α0 α1 α2 α3 α4 α5 α6:Sort _}(P0 P1 P2 P3 P4 P5 P6 P7 P8:α0->α1->α2->α3->α4->α5->α6->Prop):Prop | mk (x0:α0) (x1:α1) (x2:α2) (x3:α3) (x4:α4) (x5:α5) (x6:α6) (h0:P0 x0 x1 x2 x3 x4 x5 x6) (h1:P1 x0 x1 x2 x3 x4 x5 x6) (h2:P2 x0 x1 x2 x3 x4 x5 x6) (h3:P3 x0 x1 x2 x3 x4 x5 x6) (h4:P4 x0 x1 x2 x3 x4 x5 x6) (h5:P5 x0 x1 x2 x3 x4 x5 x6) (h6:P6 x0 x1 x2 x3 x4 x5 x6) (h7:P7 x0 x1 x2 x3 x4 x5 x6) (h8:P8 x0 x1 x2 x3 x4 x5 x6):J6 P0 P1 P2 P3 P4 P5 P6 P7 P8
inductive J7{α0 α1 α2 α3 α4 α5 α6 α7:Sort _}(P0 P1:α0->α1->α2->α3->α4->α5->α6->α7->Prop):Prop | mk (x0:α0) (x1:α1) (x2:α2) (x3:α3) (x4:α4) (x5:α5) (x6:α6) (x7:α7) (h0:P0 x0 x1 x2 x3 x4 x5 x6 x7) (h1:P1 x0 x1 x2 x3 x4 x5 x6 x7):J7 P0 P1
inductive J8{α0 α1 α2 α3 α4 α5 α6 α7:Sort _}(P0 P1 P2 P3 P4 P5 P6 P7 P8:α0->α1->α2->α3->α4->α5->α6->α7->Prop):Prop | mk (x0:α0) (x1:α1) (x2:α2) (x3:α3) (x4:α4) (x5:α5) (x6:α6) (x7:α7) (h0:P0 x0 x1 x2 x3 x4 x5 x6 x7) (h1:P1 x0 x1 x2 x3 x4 x5 x6 x7) (h2:P2 x0 x1 x2 x3 x4 x5 x6 x7) (h3:P3 x0 x1 x2 x3 x4 x5 x6 x7) (h4:P4 x0 x1 x2 x3 x4 x5 x6 x7) (h5:P5 x0 x1 x2 x3 x4 x5 x6 x7) (h6:P6 x0 x1 x2 x3 x4 x5 x6 x7) (h7:P7 x0 x1 x2 x3 x4 x5 x6 x7) (h8:P8 x0 x1 x2 x3 x4 x5 x6 x7):J8 P0 P1 P2 P3 P4 P5 P6 P7 P8
inductive J9{α0 α1 α2 α3 α4 α5 α6 α7 α8:Sort _}(P0 P1 P2:α0->α1->α2->α3->α4->α5->α6->α7->α8->Prop):Prop | mk (x0:α0) (x1:α1) (x2:α2) (x3:α3) (x4:α4) (x5:α5) (x6:α6) (x7:α7) (x8:α8) (h0:P0 x0 x1 x2 x3 x4 x5 x6 x7 x8) (h1:P1 x0 x1 x2 x3 x4 x5 x6 x7 x8) (h2:P2 x0 x1 x2 x3 x4 x5 x6 x7 x8):J9 P0 P1 P2
inductive Ka{α0 α1 α2 α3 α4 α5 α6 α7 α8:Sort _}(P0 P1 P2 P3 P4 P5 P6 P7:α0->α1->α2->α3->α4->α5->α6->α7->α8->Prop):Prop | mk (x0:α0) (x1:α1) (x2:α2) (x3:α3) (x4:α4) (x5:α5) (x6:α6) (x7:α7) (x8:α8) (h0:P0 x0 x1 x2 x3 x4 x5 x6 x7 x8) (h1:P1 x0 x1 x2 x3 x4 x5 x6 x7 x8) (h2:P2 x0 x1 x2 x3 x4 x5 x6 x7 x8) (h3:P3 x0 x1 x2 x3 x4 x5 x6 x7 x8) (h4:P4 x0 x1 x2 x3 x4 x5 x6 x7 x8) (h5:P5 x0 x1 x2 x3 x4 x5 x6 x7 x8) (h6:P6 x0 x1 x2 x3 x4 x5 x6 x7 x8) (h7:P7 x0 x1 x2 x3 x4 x5 x6 x7 x8):Ka P0 P1 P2 P3 P4 P5 P6 P7
end
namespace L2
open PySem PySem.Spec PyProof.Rows List
abbrev Key:=Sum Int Str
def kM:Key->Value->Bool
 |.inl k,v=>Value.isInt k v
 |.inr x,v=>Value.isStrOf x v
def MY(w:World):Key->Int
 |.inl k=>hashInt k
 |.inr x=>hashStr w x
theorem bH:∀{k:Key} {v:Value},kM k v=true->(∃i t,k=Sum.inl i/\v=Value.int i t)\/(∃x t,k=Sum.inr x/\v=Value.str x t)
 |.inl i,v,h=>by
  let⟨t,e⟩:=Value.isInt_shape (k:=i) (v:=v) h;exact .inl ⟨i,t,rfl,e⟩
 |.inr x,v,h=>by
  let⟨t,e⟩:=Uj (x:=x) (v:=v) h;exact .inr ⟨x,t,rfl,e⟩
theorem mQ(i:Int)(t:Tok):kM (.inl i) (.int i t)=true:=by simp[kM,Value.isInt]
theorem mR(x:Str)(t:Tok):kM (.inr x) (.str x t)=true:=by simp[kM,Value.isStrOf]
theorem F7(a b:Int):decide ((Sum.inl a:Key)=Sum.inl b)=(a==b):=by
 by_cases e:a=b
 .subst e;simp
 .have h:¬(Sum.inl a:Key)=Sum.inl b:=λ q=>e (Sum.inl.inj q);rw[Ry h];exact(SK.mpr e).symm
theorem F8(a b:Str):decide ((Sum.inr a:Key)=Sum.inr b)=decide (a=b):=by
 by_cases e:a=b
 .subst e;simp
 .have h:¬(Sum.inr a:Key)=Sum.inr b:=λ q=>e (Sum.inr.inj q);rw[Ry h,Ry e]
theorem F9(a:Int)(b:Str):decide ((Sum.inl a:Key)=Sum.inr b)=false:=Ry (λ q=>nomatch q)
theorem Ga(a:Str)(b:Int):decide ((Sum.inr a:Key)=Sum.inl b)=false:=Ry (λ q=>nomatch q)
def aW(prog:Program)(w:World):PySem.KeyKind prog w Key where
 is:=kM
 hash:=MY w
 inj:=λ v a b ha f=>by
  rcases bH ha with⟨i,t,rfl,rfl⟩ | ⟨x,t,rfl,rfl⟩
  .rcases bH f with⟨j,u,rfl,e⟩ | ⟨y,u,rfl,e⟩
   .injection e with c _;rw[c]
   .exact nomatch e
  .rcases bH f with⟨j,u,rfl,e⟩ | ⟨y,u,rfl,e⟩
   .exact nomatch e
   .injection e with c _;rw[c]
 byValue:=λ k v h=>by
  rcases bH h with⟨i,t,rfl,rfl⟩ | ⟨x,t,rfl,rfl⟩<;>rfl
 pyHash:=λ d h=>by
  rcases bH d with⟨i,t,rfl,rfl⟩ | ⟨x,t,rfl,rfl⟩
  .exact wpAny_pyHash_int h
  .exact wpAny_pyHash_str h
 eqBool:=λ g d h=>by
  rcases bH g with⟨i,t,rfl,rfl⟩ | ⟨x,t,rfl,rfl⟩
  .rcases bH d with⟨j,u,rfl,rfl⟩ | ⟨y,u,rfl,rfl⟩
   .rw[F7] at h;exact wpAny_eqBool_int h
   .rw[F9] at h;exact SeqAt.EqAt.int_str i t y u _ _ _ _ h
  .rcases bH d with⟨j,u,rfl,rfl⟩ | ⟨y,u,rfl,rfl⟩
   .rw[Ga] at h;exact SeqAt.EqAt.str_int x t j u _ _ _ _ h
   .rw[F8] at h;exact wpAny_eqBool_str h
 «strs»:=λ k x t v h=>by
  rcases bH h with⟨i,u,rfl,e⟩ | ⟨y,u,rfl,e⟩
  .exact nomatch e
  .injection e with c _
   subst c;cases v<;>rfl
theorem jR(prog:Program)(w:World)(i:Int)(t:Tok):(aW prog w).is (.inl i) (.int i t)=true:=mQ i t
theorem jS(prog:Program)(w:World)(x:Str)(t:Tok):(aW prog w).is (.inr x) (.str x t)=true:=mR x t
variable{b:Addr}{h:Heap}
inductive V where
 |non | bl (b:Bool) | int (i:Int) | str (x:Str) | byt (b:Array UInt8) | g7 (b:UInt64) | ref (a:Addr) | ty (n:String)
 deriving DecidableEq
def RelV:V->Value->Prop
 |.non,u=>u=Value.none
 |.bl b,u=>u=Value.bool b
 |.int i,u=>∃t,u=Value.int i t
 |.str x,u=>∃t,u=Value.str x t
 |.byt b,u=>∃t,u=Value.bytes b t
 |.g7 b,u=>∃t,u=Value.float b t
 |.ref a,u=>u=Value.ref a
 |.ty n,u=>u=Value.type n
abbrev Vals:List V->List Value->Prop:=Paired RelV
theorem Vals.length{xs:List V}{us:List Value}(r:Vals xs us):xs.length=us.length:=Vj r
theorem Vals.get:∀{xs:List V} {us:List Value} {i:Nat} {x:V},Vals xs us->xs[i]?=some x->∃u,us[i]?=some u/\RelV x u
 |_,_,_,_,.nil,e=>by simp at e
 |_,_,0,_,.cons r _,e=>by simp at e;subst e;exact⟨_,rfl,r⟩
 |_,_,i+1,x,.cons _ t,e=>by
  let⟨u,c,a⟩:=Vals.get (i:=i) (x:=x) t (~~~e);exact⟨u,~~~c,a⟩
theorem Vals.set{x:V}{u:Value}(r:RelV x u):∀{xs:List V} {us:List Value} (i:Nat),Vals xs us->Vals (xs.set i x) (us.set i u)
 |_,_,_,.nil=>.nil
 |_,_,0,.cons _ t=>.cons r t
 |_,_,i+1,.cons q t=>.cons q (Vals.set r i t)
theorem Vals.append:∀{xs ys:List V} {us ws:List Value},Vals xs us->Vals ys ws->Vals (xs++ys) (us++ws)
 |_,_,_,_,.nil,s=>s
 |_,_,_,_,.cons r t,s=>.cons r (Vals.append t s)
theorem Vals.take:∀{xs:List V} {us:List Value} (n:Nat),Vals xs us->Vals (xs.take n) (us.take n)
 |_,_,0,_=>.nil
 |_,_,_+1,.nil=>.nil
 |_,_,n+1,.cons r t=>.cons r (Vals.take n t)
theorem Vals.drop:∀{xs:List V} {us:List Value} (n:Nat),Vals xs us->Vals (xs.drop n) (us.drop n)
 |_,_,0,r=>r
 |_,_,_+1,.nil=>.nil
 |_,_,n+1,.cons _ t=>Vals.drop n t
def eN:Option V->Option Value->Prop
 |some v,some u=>RelV v u
 |none,none=>True
 |_,_=>False
def KV{a:Type}:List (a×V)->List (a×Value)->Prop:=Paired λ (p:a×V) (q:a×Value)=>p.1=q.1/\RelV p.2 q.2
def kV:Key->V
 |.inl i=>.int i
 |.inr x=>.str x
inductive HO where
 |lst (xs:List V)
 |tup (xs:List V)
 |dK (kvs:List (Key×V)) | dT (kvs:List (List Key×V))
 |set (S:Int->Bool) (n:Nat)
 |ins (C dx:Addr) (fs:List (Str×V))
 |own (x:Addr)
 |xd (fs:List (Str×V))
 |met (f x:Addr)
 |rng (lo hi:Int)
 |frz (o:Obj) (u:HO)
 |tbl (ps:Array Value)
 |ext (φ:Heap->Prop)
abbrev Hp:=Addr->Option HO
def upd(H:Hp)(a:Addr)(o:HO):Hp:=λ b=>if b=a then some o else H b
theorem aC{H:Hp}{a:Addr}{o:HO}:upd H a o a=some o:=by unfold upd;rw[Rf rfl]
theorem ao{H:Hp}{a:Addr}{o:HO}(h:b≠a):upd H a o b=H b:=by unfold upd;rw[Ri h]
theorem aB{H:Hp}{a:Addr}{o:HO}(h:H a=some o)(h':H b=none):a≠b:=by
 intro e;subst e;rw[h] at h';cases h'
def mC(h:Heap)(a:Addr)(items:Array Value):Prop:=∃o,h.get? a=some o/\(o.cls=.type "tuple"/\o.dict=none)/\∃n,o.data=.seq items n
theorem mC.t{a:Addr}{items:Array Value}(x:mC h a items):IsTup h a items:=let ⟨o,e,c,d⟩:=x;⟨o,e,c.1,d⟩
theorem mC.lt{a:Addr}{items:Array Value}(x:mC h a items):a<h.objs.size:=x.t.lt
theorem mC.new(h:Heap)(items:Array Value):mC (h.push {cls:=.type "tuple",data:=.seq items}) h.objs.size items:=⟨_,Ra _ rfl,⟨rfl,rfl⟩,_,rfl⟩
section
variable(P:Program)(w:World)
def aX(H:Hp)(h:Heap)(a:Addr):HO->Prop
 |.lst xs=>xs.length<=sizeLine/\∃(its:List Value) (n:Nat),Vals xs its/\h.get? a=some {cls:=.type "list",data:=.seq its.toArray n}
 |.tup xs=>xs.length<=sizeLine/\∃its:List Value,Vals xs its/\mC h a its.toArray
 |.dK c=>c.length<=sizeLine/\(a==sysModules)=false/\∃vs,KV c vs/\h.DictOf (aW P w) a vs
 |.dT c=>c.length<=sizeLine/\(a==sysModules)=false/\∃xs:List (List Key×Addr×Value),
   Paired (λ (p:List Key×V) (q:List Key×Addr×Value)=>p.1=q.1/\H q.2.1=some (.tup (p.1.map kV))/\RelV p.2 q.2.2) c xs/\
   ∃o es j,h.get? a=some o/\o.ExactDict/\o.data=.dict es j/\es.toList=xs.map (entryOfKey (tupleKind (aW P w)))/\(xs.map (·.1)).Nodup
 |.set S n=>h.SetOf (intKind P w) a S n
 |.ins C dx fs=>H dx=some (.own a)/\fs.length<=1000/\dx≠a/\h.get? a=some (PySem.W.instObj C dx)/\
   ∃d,h.Ns1 dx d/\(∀f,eN (fs.lookup f) (d f))/\PySem.Within d (fs.map (·.1))
 |.own _=>∃o,h.get? a=some o
 |.xd fs=>∃d,h.Ns1 a d/\∀f,eN (fs.lookup f) (d f)
 |.rng lo hi=>∃t u v,h.get? a=some {cls:=.type "range",data:=.fields #[.int lo t,.int hi u,.int 1 v]}
 |.frz o u=>h.get? a=some o/\aX H h a u
 |.tbl ps=>h.get? a=some {cls:=.none,data:=.fields ps}
 |.met f x=>h.get? a=@(PySem.W.methodObj (.ref f) (.ref x))
 |.ext e=>e h/\(∃o,h.get? a=some o)/\∀i g:Heap,e i->(∀o,i.get? a=some o->g.get? a=some o)->e g
def fQ(H:Hp)(h:Heap):Prop:=∀a o,H a=some o->aX P w H h a o
end
section
variable{P:Program}{w:World}{H H':Hp}{h h':Heap}{a:Addr}{o:HO}
theorem aX.lt(x:aX P w H h a o):a<h.objs.size:=by
 cases o with
 |lst xs=>let⟨_,_,_,_,e⟩:=x;exact Q6 e
 |tup xs=>let⟨_,_,_,p⟩:=x;exact p.lt
 |dK c=>let⟨_,_,_,_,o,_,_,e,_⟩:=x;exact Q6 e
 |dT c=>let⟨_,_,_,_,o,_,_,e,_⟩:=x;exact Q6 e
 |set S n=>let⟨o,_,_,_,e,_⟩:=x;exact Q6 e
 |ins C i fs=>let⟨_,_,_,e,_⟩:=x;exact Q6 e
 |own y=>let⟨_,e⟩:=x;exact Q6 e
 |xd fs=>let⟨_,⟨_,_,_,e,_⟩,_⟩:=x;exact Q6 e
 |rng lo hi=>let⟨_,_,_,e⟩:=x;exact Q6 e
 |frz g u=>let⟨e,_⟩:=x;exact Q6 e
 |tbl ps=>exact Q6 (show h.get? a=some _ from x)
 |met f y=>exact Q6 (show h.get? a=some _ from x)
 |ext d=>let⟨_,⟨_,e⟩,_⟩:=x;exact Q6 e
theorem Paired.Gb{c J:Type}{F G:c->J->Prop}:∀{l₁:List c} {l₂:List J},Paired F l₁ l₂->(∀a b,F a b->G a b)->Paired G l₁ l₂
 |_,_,.nil,_=>.nil
 |_,_,.cons r t,f=>.cons (f _ _ r) (Paired.Gb t f)
theorem aX.stay(x:aX P w H h a o)(k:∀b u,(b=a\/H b=@(.own a))->h.get? b=some u->h'.get? b=some u)
  (ho:∀b,H b=some (.own a)->H' b=@(.own a)) (I:∀b xs,H b=some (.tup xs)->H' b=@(.tup xs)):aX P w H' h' a o:=by
 induction o with
 |lst xs=>let⟨z,l,n,r,e⟩:=x;exact⟨z,l,n,r,k _ _ (.inl rfl) e⟩
 |tup xs=>let⟨z,l,r,g,e,c,d⟩:=x;exact⟨z,l,r,g,k _ _ (.inl rfl) e,c,d⟩
 |dK A=>let⟨z,y,D,r,g,i,j,e,c⟩:=x;exact⟨z,y,D,r,g,i,j,k _ _ (.inl rfl) e,c⟩
 |dT A=>
  let⟨z,y,xs,r,g,i,j,e,c,M,L,K⟩:=x;exact⟨z,y,xs,Paired.Gb r λ p q z=>⟨z.1,I _ _ z.2.1,z.2.2⟩,g,i,j,k _ _ (.inl rfl) e,c,M,L,K⟩
 |set S n=>let⟨g,i,j,t,e,c⟩:=x;exact⟨g,i,j,t,k _ _ (.inl rfl) e,c⟩
 |ins C O fs=>
  let⟨d,z,F,e,s,⟨m,i,j,J,c⟩,r,E⟩:=x;exact⟨ho _ d,z,F,k _ _ (.inl rfl) e,s,⟨m,i,j,k _ _ (.inr d) J,c⟩,r,E⟩
 |own y=>let⟨g,e⟩:=x;exact⟨g,k _ _ (.inl rfl) e⟩
 |xd fs=>let⟨s,⟨m,i,j,e,c⟩,r⟩:=x;exact⟨s,⟨m,i,j,k _ _ (.inl rfl) e,c⟩,r⟩
 |rng lo hi=>let⟨t,u,v,e⟩:=x;exact⟨t,u,v,k _ _ (.inl rfl) e⟩
 |frz g u G=>let⟨e,q⟩:=x;exact⟨k _ _ (.inl rfl) e,G q⟩
 |tbl ps=>
  have e:h.get? a=some {cls:=.none,data:=.fields ps}:=x;show h'.get? a=some {cls:=.none,data:=.fields ps};exact k a _ (.inl rfl) e
 |met f y=>
  have e:h.get? a=some (PySem.W.methodObj (.ref f) (.ref y)):=x;show h'.get? a=@(PySem.W.methodObj (.ref f) (.ref y));exact k a _ (.inl rfl) e
 |ext N=>let⟨p,⟨o,e⟩,B⟩:=x;exact⟨B _ _ p λ o q=>k _ _ (.inl rfl) q,⟨o,k _ _ (.inl rfl) e⟩,B⟩
theorem fQ.lt(x:fQ P w H h)(e:H a=some o):a<h.objs.size:=(x a o e).lt
theorem fQ.fresh(x:fQ P w H h)(e:h.objs.size<=a):H a=none:=by
 cases q:H a with
 |none=>rfl
 |some u=>exact absurd (Rh (x.lt q) e) (SQ _)
theorem fQ.kept(x:fQ P w H h)(k:∀b u,h.get? b=some u->h'.get? b=some u):fQ P w H h':=λ a o e=>
 (x a o e).stay (λ b u _ q=>k b u q) (λ _ q=>q) λ _ _ q=>q
theorem fQ.laid(x:fQ P w H h)(k:∀b u,h.get? b=some u->h'.get? b=some u)(i:h.objs.size<=a)(d:aX P w (upd H a o) h' a o):fQ P w (upd H a o) h':=λ b u e=>by
 have f:=x.fresh i
 by_cases g:b=a
 .subst g;rw[aC] at e;cases e;exact d
 .rw[ao g] at e;exact(x b u e).stay (λ c v _ q=>k c v q) (λ c q=>by rw[ao (aB q f)];exact q) λ c j q=>by rw[ao (aB q f)];exact q
end
def Rd(H:Hp)(a:Addr)(u:HO):Prop:=H a=some u\/∃o,H a=@(.frz o u)
theorem Rd.ok{P:Program}{w:World}{H:Hp}{a:Addr}{u:HO}(r:Rd H a u)(x:fQ P w H h):aX P w H h a u:=by
 rcases r with r | ⟨o,r⟩
 .exact x a u r
 .let⟨_,q⟩:=x a _ r;exact q
def Kc:Option HO->Prop
 |some (.lst _)=>True
 |some (.dK _)=>True
 |some (.dT _)=>True
 |some (.set _ _)=>True
 |some (.ins _ _ _)=>True
 |some (.ext _)=>True
 |_=>False
section
variable{P:Program}{w:World}{H:Hp}{h h':Heap}{x e:Addr}{o':HO}
theorem fQ.write(o:fQ P w H h)(f:Kc (H x))(m:e=x\/H e=@(.own x))(k:∀b u,b≠e->h.get? b=some u->h'.get? b=some u)(t:∃u,h'.get? e=some u)
  (j:aX P w (upd H x o') h' x o'):fQ P w (upd H x o') h':=λ b u q=>by
 have n:∀c y,H c=some (.own y)->c≠x:=λ c y r z=>by subst z;rw[r] at f;exact f
 have s:∀c d,H c=some (.tup d)->c≠x:=λ c d r z=>by subst z;rw[r] at f;exact f
 by_cases i:b=x
 .subst i;rw[aC] at q;cases q;exact j
 .rw[ao i] at q
  by_cases a:b=e
  .have l:H b=some (.own x):=by
    rcases m with z | z
    .exact absurd (a.trans z) i
    .rw[a];exact z
   rw[q] at l;cases l;let⟨v,p⟩:=t;exact⟨v,by rw[a];exact p⟩
  .refine(o b u q).stay (λ c v g r=>k c v ?_ r) (λ c r=>by rw[ao (n c b r)];exact r) λ c d r=>by rw[ao (s c d r)];exact r
   rcases g with rfl | g
   .exact a
   .rintro rfl;rcases m with z | z
    .exact n c b g z
    .rw[g] at z;cases z;exact i rfl
end
structure Un(fs ex:List Addr)(H H':Hp)(h h':Heap):Prop where
 keep:∀b o,h.get? b=some o->H b=none->b∉fs->b∉ex->h'.get? b=some o
 slot:∀b o,h.get? b=some o->H b=none->b∈fs->b∉ex->∃sl,h'.get? b=some {o with slots:=sl}
 free:∀b o,h.get? b=some o->H b=none->b∉ex->H' b=none
 there:∀b o,h.get? b=some o->b∉ex->∃o',h'.get? b=some o'
 tups:∀b xs,H b=some (.tup xs)->H' b=@(.tup xs)
 gw:∀b o u,H b=some (.frz o u)->H' b=@(.frz o u)
 g8:∀b ps,H b=some (.tbl ps)->∃more,H' b=@(.tbl (ps++more))
section
variable{fs fs' ex ex':List Addr}{H H1 H2:Hp}{h h1 h2 h':Heap}{a x e:Addr}{o:HO}
theorem Un.any(u:Un fs ex H H1 h h1){c:Obj}(q:h.get? b=some c)(n:H b=none)(d:b∉ex):∃g,h1.get? b=some {c with slots:=g}:=by
 by_cases f:b∈fs
 .exact u.slot b c q n f d
 .exact⟨c.slots,u.keep b c q n f d⟩
theorem Un.kept(k:∀b u,h.get? b=some u->h'.get? b=some u):Un fs ex H H h h':=
 ⟨λ b c q _ _ _=>k b c q,λ b c q _ _ _=>⟨c.slots,k b c q⟩,λ _ _ _ n _=>n,λ b c q _=>⟨c,k b c q⟩,λ _ _ q=>q,λ _ _ _ q=>q,λ _ d q=>⟨#[],by rw[q];simp⟩⟩
theorem Un.refl:Un fs ex H H h h:=Un.kept λ _ _ q=>q
theorem Un.laid(k:∀b u,h.get? b=some u->h'.get? b=some u)(c:h.objs.size<=a)(hn:H a=none):Un fs ex H (upd H a o) h h' where
 keep:=λ b u q _ _ _=>k b u q
 slot:=λ b u q _ _ _=>⟨u.slots,k b u q⟩
 free:=λ b u q n _=>by rw[ao (Rb (Rh (Q6 q) c))];exact n
 there:=λ b u q _=>⟨u,k b u q⟩
 tups:=λ b xs q=>by rw[ao (aB q hn)];exact q
 gw:=λ b u xs q=>by rw[ao (aB q hn)];exact q
 g8:=λ b ps q=>⟨#[],by rw[ao (aB q hn),q];simp⟩
theorem Un.write(d:Kc (H x))(m:e=x\/H e=@(.own x))(k:∀b u,b≠e->h.get? b=some u->h'.get? b=some u)(p:∃u,h'.get? e=some u):Un fs ex H (upd H x o) h h':=by
 have g:∀b,H b=none->b≠x:=λ b n z=>by subst z;rw[n] at d;exact d
 have i:∀b,H b=none->b≠e:=λ b n z=>by
  subst z;rcases m with r | r
  .exact g b n r
  .rw[n] at r;cases r
 have f:∀b u,H b=some u->¬Kc (some u)->b≠x:=λ b u q l z=>by subst z;rw[q] at d;exact l d
 refine⟨λ b u q n _ _=>k b u (i b n) q,λ b u q n _ _=>⟨u.slots,k b u (i b n) q⟩,λ b u q n _=>by rw[ao (g b n)];exact n,λ b u q _=>?_,
  λ b j q=>by rw[ao (f b _ q λ z=>z)];exact q,λ b u j q=>by rw[ao (f b _ q λ z=>z)];exact q,λ b s q=>⟨#[],by rw[ao (f b _ q λ z=>z),q];simp⟩⟩
 by_cases c:b=e
 .subst c;exact p
 .exact⟨u,k b u c q⟩
end
def Mu(h:Heap)(H:Hp):List Addr:=(List.range h.objs.size).filter λ a=>(H a).isSome
def oH(h:Heap)(H:Hp):Heap:=PySem.W.hideAll h (Mu h H)
theorem wm(h:Heap)(H:Hp):(oH h H).objs.size=h.objs.size:=PySem.W.hideAll_size _ _
theorem yk{H:Hp}{o:Obj}(e:h.get? b=some o)(n:H b=none):(oH h H).get? b=some o:=
 PySem.W.hideAll_get _ e λ a=>by
  have q:(H b).isSome=true:=(S1.mp a).2;rw[n] at q;simp at q
theorem BP{H:Hp}{o:Obj}(e:(oH h H).get? b=some o):h.get? b=some o/\H b=none:=by
 have a:h.get? b=some o:=PySem.W.of_hideAll (Mu h H) e;refine⟨a,?_⟩;cases q:H b with
 |none=>rfl
 |some x=>
  have c:b∈Mu h H:=S1.mpr ⟨TQ.mpr (Q6 a),by simp[q]⟩;have z:(oH h H).get? b=none:=PySem.W.hideAll_none (Mu h H) c;rw[z] at e;cases e
end L2
namespace L2
open PySem PySem.Spec PyProof.Rows List
variable{M:Model}{ch:List Addr}{i t':Nat}
structure Mod(K:ae)(mg:Str->Option Value)(base:Heap):Prop where
 kin:K.In base
 glob:base.Ns mainGlobals mg
 blt:∃mb,base.Ns builtinsNs mb/\∀x:Str,x≠"__name__"->mb x=bootBuiltins x
 nolimit:base.NoLimit
set_option genInjectivity false in
structure Cx where
 prog:Program
 w:World
 K:ae
 mg:Str->Option Value
 base:Heap
 A:Around
 N:List Str
 s₀:Shared
 H₀:Hp
 env:Env
 outer:List Env
 stack:List Env
 ex:List Addr
 fn:Str->Bool
 calm:Bool
 pn:List (Addr×Obj)
 xe:Value->Shared->Prop
def frs(l:List Env):List Addr:=l.filterMap (·.frame)
abbrev Cx.fs(X:Cx):List Addr:=frs X.outer
def Eo(a:Scope)(x:Str):Prop:=a.names.lookup x=some .local\/a.names.lookup x=some .cell\/a.names.lookup x=some .free
def Loc(a:Scope)(x:Str):Prop:=a.names.lookup x=some .local\/a.names.lookup x=some .cell
def Look(env:Env)(h:Heap)(m:Str->Option Value)(x:Str)(u:Value):Prop:=
 (env.kindOf x=some .local/\m x=some u)\/((env.kindOf x=some .cell\/env.kindOf x=some .free)/\∃c,env.cells.lookup x=some c/\h.IsCell c (some u))
structure Cx.Ok(X:Cx):Prop where
 mod:Mod X.K X.mg X.base
 kind:X.env.scope.kind=.function
 glob:X.env.globals=mainGlobals
 blt:X.env.builtins=builtinsNs
 above:X.s₀⁻¹<=X.env.locals
 inj:∀x y c,X.env.cells.lookup x=some c->X.env.cells.lookup y=some c->x=y
 has:∀x,(X.env.kindOf x=some .cell\/X.env.kindOf x=some .free)->∃c,X.env.cells.lookup x=some c
 cab:∀x c,X.fn x=true->X.env.cells.lookup x=some c->X.s₀⁻¹<=c
 hd:X.calm=true->X.A.handled=none
 frames:X.A.frames=some X.stack
 stk:X.stack=X.outer\/(X.stack=X.env::X.outer/\X.env.frame=some X.env.locals)
 exf:∀b∈X.ex,b≠X.env.locals/\∀x c,X.env.cells.lookup x=some c->c≠b
 bs:∀b o,X.base.get? b=some o->X.s₀.heap.get? b=some o/\X.H₀ b=none
 bsz:X.base.objs.size<=X.s₀⁻¹
 noex:∀b o,X.base.get? b=some o->b∉X.ex
 exfs:∀b∈X.ex,b∉X.fs
 iC:X.s₀.heap.FunFrames X.base X.outer
 frf:∀b∈X.fs,X.H₀ b=none
structure Inv(X:Cx)(aa:List (Addr×Obj))(Y:List (Option V))(H:Hp)(s:Shared):Prop where
 ok:X.Ok
 os:s.os=X.s₀.os
 bare:AllBare s.gens
 base:Un X.fs X.ex X.H₀ H X.s₀.heap s.heap
 loc:∃m,s.heap.Ns X.env.locals m/\∀(i:Nat) (x:Str) (v:V),X.N[i]?=some x->Y[i]?=some (some v)->Eo X.env.scope x->∃u,RelV v u/\Look X.env s.heap m x u
 cell:∀x c,X.env.cells.lookup x=some c->∃v,s.heap.IsCell c v
 free:H X.env.locals=none
 freeC:∀x c,X.env.cells.lookup x=some c->H c=none
 pin:∀p∈X.pn++aa,s.heap.get? p.1=some p.2/\H p.1=none/\p.1≠X.env.locals/\p.1∉X.fs/\∀v,p.2.data≠.cell v
 hok:fQ X.prog X.w H s.heap
 len:Y.length=X.N.length
section
variable{X:Cx}{aa:List (Addr×Obj)}{Y:List (Option V)}{H H':Hp}{s:Shared}{h':Heap}
theorem Cx.Ok.yl(a:X.Ok){b:Addr}{o:Obj}(e:X.base.get? b=some o):b∉X.fs:=λ c=>by
 have:=(a.iC.mem c).1;rw[e] at this;cases this
theorem Inv.bs(I:Inv X aa Y H s):∀b o,X.base.get? b=some o->s.heap.get? b=some o/\H b=none:=λ b o e=>
 ⟨I.base.keep b o (I.ok.bs b o e).1 (I.ok.bs b o e).2 (I.ok.yl e) (I.ok.noex b o e),I.base.free b o (I.ok.bs b o e).1 (I.ok.bs b o e).2 (I.ok.noex b o e)⟩
theorem Inv.bk(I:Inv X aa Y H s):∀b o,X.base.get? b=some o->s.heap.get? b=some o:=λ b o e=>(I.bs b o e).1
theorem Inv.mod(I:Inv X aa Y H s):Mod X.K X.mg X.base:=I.ok.mod
theorem Inv.cQ(I:Inv X aa Y H s):X.K.In s.heap:=I.ok.mod.kin.keeps I.bk
theorem Inv.fr(I:Inv X aa Y H s):∃m,Fr X.base X.env.locals s.heap m:=
 let ⟨m,a,_⟩:=I.loc
 ⟨m,a,I.bk,Rv I.ok.bsz I.ok.above⟩
theorem Inv.lt(I:Inv X aa Y H s):X.env.locals<s⁻¹:=let ⟨_,a,_⟩:=I.loc;a.lt
theorem Inv.sz(I:Inv X aa Y H s):X.s₀⁻¹<=s⁻¹:=Rv I.ok.above (US I.lt)
theorem Inv.M0(I:Inv X aa Y H s){a:Addr}(h:s⁻¹<=a):a∉X.fs:=λ c=>by
 let⟨_,o,b,_⟩:=I.ok.iC.mem c;exact absurd (Rh (Q6 b) (Rv I.sz h)) (SQ _)
theorem Inv.ym(I:Inv X aa Y H s):∀x c,X.env.cells.lookup x=some c->c≠X.env.locals:=λ x c e z=>by
 let⟨v,o,d,f⟩:=I.cell x c e;let⟨m,⟨g,h,j,a,b,_⟩,_⟩:=I.loc;rw[z,a] at d;cases d;rw[b] at f;cases f
theorem Inv.iC(I:Inv X aa Y H s):s.heap.FunFrames X.base X.outer:=by
 have f:∀(l:List Env),(∀b∈frs l,b∈X.fs)->X.s₀.heap.FunFrames X.base l->s.heap.FunFrames X.base l:=by
  intro l
  induction l with
  |nil=>intro _ _;trivial
  |cons env r h=>
   intro g n;let⟨p,⟨L,o,a,m,k,q⟩,j⟩:=n;have d:L∈X.fs:=g L (by unfold frs;rw[Up,a];exact RG);let⟨t,e⟩:=I.base.slot L o k (I.ok.frf L d) d λ z=>I.ok.exfs L z d;exact⟨p,⟨L,_,a,m,e,q⟩,h (λ b c=>g b (by unfold frs;rw[Up,a];exact Ro _ c)) j⟩
 exact f X.outer (λ _ c=>c) I.ok.iC
theorem Inv.stack(I:Inv X aa Y H s):s.heap.FunFrames X.base X.stack:=by
 rcases I.ok.stk with e | ⟨e,hf⟩
 .rw[e];exact I.iC
 .rw[e];let⟨m,a,_⟩:=I.loc;refine .cons (by rw[I.ok.kind];decide) hf a ?_ I.iC;exact Heap.get?_none_of_le (Rv I.ok.bsz I.ok.above)
theorem Inv.ji(I:Inv X aa Y H s):∀b∈frs X.stack,b∈X.env.locals::X.fs:=λ b a=>by
 rcases I.ok.stk with e | ⟨e,hf⟩
 .rw[e] at a;exact Ro _ a
 .rw[e] at a;unfold frs at a;rw[Up,hf] at a;exact a
theorem Inv.kB(I:Inv X aa Y H s):∀b∈frs X.stack,H b=none:=λ b a=>by
 rcases Rk.mp (I.ji b a) with e | a
 .rw[e];exact I.free
 .let⟨_,o,c,_⟩:=I.ok.iC.mem a;exact I.base.free b o c (I.ok.frf b a) λ z=>I.ok.exfs b z a
theorem Inv.step{g':Array GenState}{d':Drawn}(I:Inv X aa Y H s)
  (h:∀b∈ch,(b∈X.ex\/X.s₀⁻¹<=b)/\b≠X.env.locals/\(∀x c,X.env.cells.lookup x=some c->c≠b)/\∀p∈X.pn++aa,p.1≠b)
  (g:∀b o,b≠X.env.locals->b∉X.fs->b∉ch->s.heap.get? b=some o->H b=none->h'.get? b=some o)
  (A:∀b o,b≠X.env.locals->b∈X.fs->b∉ch->s.heap.get? b=some o->H b=none->∃P,h'.get? b=some {o with slots:=P}) (f:∀b o,b∉ch->s.heap.get? b=some o->H b=none->H' b=none)
  (B:∀b o,b∉ch->s.heap.get? b=some o->∃F,h'.get? b=some F)
  (E:∀b y,H b=some (.tup y)->H' b=@(.tup y)) (gw:∀b o u,H b=some (.frz o u)->H' b=@(.frz o u)) (g8:∀b L,H b=some (.tbl L)->∃G,H' b=@(.tbl (L++G)))
  (ns:∀m,s.heap.Ns X.env.locals m->h'.Ns X.env.locals m) (Q:fQ X.prog X.w H' h') (hg:AllBare g') :
  Inv X aa Y H' {s with heap:=h',gens:=g',drawn:=d',toks:=t'}:=by
 have Z:∀b o,X.s₀.heap.get? b=some o->b≠X.env.locals:=λ b o e=>Rb (Rh (Q6 e) I.ok.above);have N:∀b o,X.s₀.heap.get? b=some o->b∉X.ex->b∉ch:=λ b o e a C=>by
  rcases (h b C).1 with z | z
  .exact a z
  .exact absurd (Rh (Q6 e) z) (SQ _)
 have j:∀x c,X.env.cells.lookup x=some c->∀v,s.heap.IsCell c v->h'.IsCell c v:=λ x c e v ⟨o,D,R⟩=>by
  have K:c∉ch:=λ z=>(h c z).2.2.1 x c e rfl
  by_cases W:c∈X.fs
  .let⟨P,q⟩:=A c o (I.ym x c e) W K D (I.freeC x c e);exact⟨_,q,R⟩
  .exact⟨o,g c o (I.ym x c e) W K D (I.freeC x c e),R⟩
 refine⟨I.ok,I.os,hg,⟨λ b o e n C a=>?_,λ b o e n C a=>?_,λ b o e n a=>?_,λ b o e a=>?_,λ b y e=>E b y (I.base.tups b y e),λ b o y e=>gw b o y (I.base.gw b o y e),λ b L e=>?_⟩,?_,λ x c e=>?_,?_,λ x c e=>?_,λ p U=>?_,Q,I.len⟩
 .exact g b o (Z b o e) C (N b o e a) (I.base.keep b o e n C a) (I.base.free b o e n a)
 .let⟨P,t⟩:=I.base.slot b o e n C a;let⟨O,J⟩:=A b _ (Z b o e) C (N b o e a) t (I.base.free b o e n a);exact⟨O,J⟩
 .let⟨F,t⟩:=I.base.there b o e a;exact f b F (N b o e a) t (I.base.free b o e n a)
 .let⟨F,t⟩:=I.base.there b o e a;exact B b F (N b o e a) t
 .let⟨m1,t⟩:=I.base.g8 b L e;let⟨m2,J⟩:=g8 b _ t;exact⟨m1++m2,by rw[J,Array.append_assoc]⟩
 .let⟨m,hn,hl⟩:=I.loc;refine⟨m,ns m hn,λ i x v t J e3=>?_⟩;let⟨u,r,l⟩:=hl i x v t J e3;refine⟨u,r,?_⟩;rcases l with l | ⟨k,c,e,z⟩
  .exact .inl l
  .exact .inr ⟨k,c,e,j x c e _ z⟩
 .let⟨v,z⟩:=I.cell x c e;exact⟨v,j x c e v z⟩
 .let⟨m,⟨o,_,_,D,_⟩,_⟩:=I.loc;exact f _ o (λ z=>(h _ z).2.1 rfl) D I.free
 .let⟨v,o,D,R⟩:=I.cell x c e;exact f c o (λ z=>(h c z).2.2.1 x c e rfl) D (I.freeC x c e)
 .let⟨e,n,T,S,d⟩:=I.pin p U;have K:p.1∉ch:=λ z=>(h p.1 z).2.2.2 p U rfl;exact⟨g p.1 p.2 T S K e n,f p.1 p.2 K e n,T,S,d⟩
theorem Inv.un(I:Inv X aa Y H s)(u:Un X.fs [] H H' s.heap h')(c:fQ X.prog X.w H' h'):Inv X aa Y H' {s with heap:=h',toks:=t'}:=by
 let⟨m,⟨o,v,x,h,r⟩,_⟩:=id I.loc;let⟨p,l⟩:=u.any h I.free 's';exact I.step (g':=s.gens) (d':=s.drawn) (ch:=[]) (λ _ z=>nomatch z) (λ b o _ d _ e n=>u.keep b o e n d 's') (λ b o _ d _ e n=>u.slot b o e n d 's') (λ b o _ e n=>u.free b o e n 's') (λ b o _ e=>u.there b o e 's') u.tups u.gw u.g8 (λ t k=>by
  let⟨q,f,g,a,j⟩:=k;rw[h] at a;cases a;exact⟨_,f,g,l,j⟩) c I.bare
theorem Inv.call{g':Array GenState}{d':Drawn}(I:Inv X aa Y H s)(u:Un (frs X.stack) ch H H' s.heap h')(g:fQ X.prog X.w H' h')(v:AllBare g')
  (f:∀b∈ch,(b∈X.ex\/X.s₀⁻¹<=b)/\b≠X.env.locals/\(∀x c,X.env.cells.lookup x=some c->c≠b)/\∀p∈X.pn++aa,p.1≠b) :
  Inv X aa Y H' {s with heap:=h',gens:=g',drawn:=d',toks:=t'}:=by
 let⟨m,⟨o,D,E,l,r⟩,_⟩:=id I.loc;let⟨A,h⟩:=u.any l I.free λ z=>(f _ z).2.1 rfl;exact I.step (ch:=ch) f (λ b o h y a e n=>u.keep b o e n (λ z=>(Rk.mp (I.ji b z)).elim h y) a) (λ b o _ _ a e n=>u.any e n a) (λ b o a e n=>u.free b o e n a) (λ b o a e=>u.there b o e a) u.tups u.gw u.g8 (λ C t=>by
  let⟨B,j,k,d,q⟩:=t;rw[l] at d;cases d;exact⟨_,j,k,h,q⟩) g v
theorem Inv.turned{it:Addr}(I:Inv X aa Y H s)(k:∀b o,b≠it->s.heap.get? b=some o->h'.get? b=some o)(h:H it=none)(d:it≠X.env.locals)
  (y:it∈X.ex\/X.s₀⁻¹<=it) (w:∀x c,X.env.cells.lookup x=some c->c≠it) (t:∀p∈X.pn++aa,p.1≠it):Inv X aa Y H {s with heap:=h',toks:=t'}:=by
 have f:∀b u,H b=some u->b≠it:=λ b u e z=>by rw[z,h] at e;cases e
 refine I.step (g':=s.gens) (d':=s.drawn) (ch:=[it]) (λ b l=>?_) (λ b o _ _ a e _=>k b o (λ z=>a (by simp[z])) e) (λ b o _ _ a e _=>⟨o.slots,k b o (λ z=>a (by simp[z])) e⟩) (λ _ _ _ _ n=>n)
  (λ b o a e=>⟨o,k b o (λ z=>a (by simp[z])) e⟩) (λ _ _ e=>e) (λ _ _ _ e=>e) (λ b C e=>⟨#[],by rw[e];simp⟩) (λ m j=>?_) (λ b u e=>?_) I.bare
 .have e:b=it:=by simpa using l
  subst e;exact⟨y,d,w,t⟩
 .let⟨o,A,B,g,r⟩:=j;exact⟨o,A,B,k _ o (Ne.symm d) g,r⟩
 .refine(I.hok b u e).stay (λ c v a q=>k c v ?_ q) (λ _ q=>q) λ _ _ q=>q;rcases a with z | z
  .rw[z];exact f b u e
  .exact f c _ z
theorem Inv.tok(I:Inv X aa Y H s)(t:Nat):Inv X aa Y H {s with toks:=t}:=I.un (h':=s.heap) (t':=t) Un.refl I.hok
theorem Inv.kept(I:Inv X aa Y H s)(k:∀b u,s.heap.get? b=some u->h'.get? b=some u):Inv X aa Y H {s with heap:=h',toks:=t'}:=I.un (Un.kept k) (I.hok.kept k)
theorem Inv.laid{a:Addr}{o:HO}(I:Inv X aa Y H s)(k:∀b u,s.heap.get? b=some u->h'.get? b=some u)(d:s⁻¹<=a)(c:aX X.prog X.w (upd H a o) h' a o) :
  Inv X aa Y (upd H a o) {s with heap:=h',toks:=t'}:=I.un (Un.laid k d (I.hok.fresh d)) (I.hok.laid k d c)
theorem Inv.write{x e:Addr}{o:HO}(I:Inv X aa Y H s)(c:Kc (H x))(d:e=x\/H e=@(.own x))(k:∀b u,b≠e->s.heap.get? b=some u->h'.get? b=some u)(f:∃u,h'.get? e=some u)
  (a:aX X.prog X.w (upd H x o) h' x o):Inv X aa Y (upd H x o) {s with heap:=h',toks:=t'}:=I.un (Un.write c d k f) (I.hok.write c d k f a)
theorem Inv.uu{a:List (Addr×Obj)}(I:Inv X aa Y H s)(h:∀p∈a,s.heap.get? p.1=some p.2/\H p.1=none/\p.1≠X.env.locals/\p.1∉X.fs/\∀v,p.2.data≠.cell v):Inv X a Y H s:=
 ⟨I.ok,I.os,I.bare,I.base,I.loc,I.cell,I.free,I.freeC,λ p b=>(RC.mp b).elim (λ z=>I.pin p (RJ _ z)) (h p),I.hok,I.len⟩
theorem kN{N:List Str}(c:N.Nodup){j:Nat}{x:Str}(a:N[i]?=some x)(b:N[j]?=some x):i=j:=by
 let⟨g,e⟩:=Q4.mp a;let⟨f,d⟩:=Q4.mp b;exact(Vd c).mp (e.trans d.symm)
theorem mS{A:Around}{E:Value->Shared->Prop}{x:Str}{v:V}{u:Value}{Q:Unit->Shared->Prop}(I:Inv X aa Y H s)(hN:X.N.Nodup)(hi:X.N[i]?=some x)(B:Loc X.env.scope x)(r:RelV v u)
  (h:∀s',Inv X aa (Y.set i (some v)) H s'->(∃a,Heap.SameBut a s.heap s'.heap/\(a=X.env.locals\/X.env.cells.lookup x=some a))->Q () s') (hf:X.fn x=true\/X.env.scope.names.lookup x=some .local:=by first | exact .inl rfl | exact .inr rfl | assumption):wpAny M A (storeName X.env x u) Q E s:=by
 let⟨m,hn,hl⟩:=id I.loc;have R:(X.env.scope.kind==.class||(X.env.scope.kind==.module&&X.env.locals != X.env.globals))=false:=by rw[I.ok.kind];rfl
 have P:i<Y.length:=by rw[I.len];exact(Q4.mp hi).1
 have ym:=I.ym;have g:∀{a:Addr} {h':Heap},(∃o,s.heap.get? a=some o/\H a=none)->Heap.SameBut a s.heap h'->fQ X.prog X.w H h':=λ {a h'} ha f b ob e=>by
  let⟨_,_,C⟩:=ha;refine(I.hok b ob e).stay (λ c U t q=>(f.2 c ?_).trans q) (λ _ q=>q) λ _ _ q=>q;rintro rfl;rcases t with rfl | t
  .rw[C] at e;cases e
  .rw[C] at t;cases t
 rcases B with F | F
 .refine wpAny_storeName_local F hn (λ h' hn' f=>?_) R;let⟨oL,_,_,hoL,_⟩:=id hn;refine h _ ⟨I.ok,I.os,I.bare,⟨λ b o e n K B=>?_,λ b o e n K B=>?_,I.base.free,λ b o e B=>?_,I.base.tups,I.base.gw,I.base.g8⟩,⟨_,hn',λ j y v' l D e3=>?_⟩,λ y c e=>?_,I.free,I.freeC,λ p hp=>?_,g ⟨oL,hoL,I.free⟩ f,~~~I.len⟩ ⟨_,f,.inl rfl⟩
  .exact(f.2 b (Rb (Rh (Q6 e) I.ok.above))).trans (I.base.keep b o e n K B)
  .let⟨sl,l⟩:=I.base.slot b o e n K B;exact⟨sl,(f.2 b (Rb (Rh (Q6 e) I.ok.above))).trans l⟩
  .let⟨o',l⟩:=I.base.there b o e B;exact⟨o',(f.2 b (Rb (Rh (Q6 e) I.ok.above))).trans l⟩
  .by_cases G:j=i
   .subst G;rw[hi] at l;cases l;rw[RH P] at D;cases D;exact⟨u,r,.inl ⟨F,by simp⟩⟩
   .rw[RN (Ne.symm G)] at D;let⟨u',r',q⟩:=hl j y v' l D e3;refine⟨u',r',?_⟩;rcases q with⟨k,e⟩ | ⟨k,c,e,z⟩
    .refine .inl ⟨k,?_⟩;have:y≠x:=λ e=>G (kN hN l (e▸hi));simp[this,e]
    .exact .inr ⟨k,c,e,z.sameBut f (ym y c e)⟩
  .let⟨U,z⟩:=I.cell y c e;exact⟨U,z.sameBut f (ym y c e)⟩
  .let⟨e,n,W,nf,d⟩:=I.pin p hp;exact⟨(f.2 p.1 W).trans e,n,W,nf,d⟩
 .have J:X.fn x=true:=by
   rcases hf with z | z
   .exact z
   .rw[z] at F;cases F
  let⟨c,t⟩:=I.ok.has x (.inl F);let⟨U,z⟩:=I.cell x c t;refine wpAny_storeName_cell I.ok.kind F t z (λ h' T f=>?_);let⟨oc,O,L⟩:=id z;refine h {s with heap:=h'} ⟨I.ok,I.os,I.bare,⟨λ b o e n K B=>?_,λ b o e n K B=>?_,I.base.free,λ b o e B=>?_,I.base.tups,I.base.gw,I.base.g8⟩,⟨m,hn.sameBut f (Ne.symm (ym x c t)),λ j y v' l D e3=>?_⟩,λ y Z e=>?_,I.free,I.freeC,λ p hp=>?_,g ⟨oc,O,I.freeC x c t⟩ f,~~~I.len⟩ ⟨c,f,.inr t⟩
  .exact(f.2 b (Rb (Rh (Q6 e) (I.ok.cab x c J t)))).trans (I.base.keep b o e n K B)
  .let⟨sl,l⟩:=I.base.slot b o e n K B;exact⟨sl,(f.2 b (Rb (Rh (Q6 e) (I.ok.cab x c J t)))).trans l⟩
  .let⟨o',l⟩:=I.base.there b o e B;exact⟨o',(f.2 b (Rb (Rh (Q6 e) (I.ok.cab x c J t)))).trans l⟩
  .by_cases G:j=i
   .subst G;rw[hi] at l;cases l;rw[RH P] at D;cases D;exact⟨u,r,.inr ⟨.inl F,c,t,T⟩⟩
   .rw[RN (Ne.symm G)] at D;let⟨u',r',q⟩:=hl j y v' l D e3;refine⟨u',r',?_⟩;rcases q with q | ⟨k,Z,e,z'⟩
    .exact .inl q
    .refine .inr ⟨k,Z,e,z'.sameBut f ?_⟩;rintro rfl;exact G (kN hN l (I.ok.inj _ _ _ e t▸hi))
  .by_cases S:Z=c
   .subst S;exact⟨_,T⟩
   .let⟨w2,z2⟩:=I.cell y Z e;exact⟨w2,z2.sameBut f S⟩
  .let⟨e,n,W,nf,d⟩:=I.pin p hp;refine⟨(f.2 p.1 ?_).trans e,n,W,nf,d⟩;intro q;rw[q,O] at e;have q':oc=p.2:=R1 e;exact d U (by rw[<-q'];exact L)
theorem gx{A:Around}{E:Value->Shared->Prop}{x:Str}{v:V}{u:Value}{Q:Unit->Shared->Prop}(I:Inv X aa Y H s)(d:X.N.Nodup)(hi:X.N[i]?=some x)(b:Loc X.env.scope x)(r:RelV v u)
  (h:∀a,Inv X aa (Y.set i (some v)) H a->Q () a) (c:X.fn x=true\/X.env.scope.names.lookup x=some .local:=by first | exact .inl rfl | exact .inr rfl | assumption):wpAny M A (storeName X.env x u) Q E s:=
 mS I d hi b r (λ a e _=>h a e) c
theorem Inv.Ep{a:Shared}(I:Inv X aa Y H s)(ho:a.os=s.os)(u:Un (frs X.stack) ch H H' s.heap a.heap)(d:fQ X.prog X.w H' a.heap)(h:AllBare a.gens)
  (f:∀b∈ch,(b∈X.ex\/X.s₀⁻¹<=b)/\b≠X.env.locals/\(∀x c,X.env.cells.lookup x=some c->c≠b)/\∀p∈X.pn++aa,p.1≠b):Inv X aa Y H' a:=by
 let⟨h',g',d',t',g⟩:=a;have e:g=s.os:=ho;subst e;exact I.call (g':=g') (t':=t') (d':=d') u d h f
end
abbrev XK:=Value->Option Addr->Hp->Prop
abbrev St:=List (Option V)
abbrev VK:=V->Hp->Prop
abbrev TE:=St->Hp->VK->Prop
abbrev TT:=St->Hp->(Bool->Hp->Prop)->Prop
abbrev TA:=St->Hp->(List V->Hp->Prop)->Prop
set_option genInjectivity false in
structure Ends where
 nx:St->Hp->Prop
 rt:VK
 bk:St->Hp->Prop:=λ _ _=>False
 ct:St->Hp->Prop:=λ _ _=>False
abbrev TS:=Ends->St->Hp->Prop
def EP(X:Cx)(c:List (Addr×Obj))(Y:St)(Q:VK)(u:Value)(b:Shared):Prop:=∃v a,Inv X c Y a b/\RelV v u/\Q v a
def TP(X:Cx)(d:List (Addr×Obj))(Y:St)(Q:Bool->Hp->Prop)(b:Bool)(c:Shared):Prop:=∃a,Inv X d Y a c/\Q b a
def AP(X:Cx)(d:List (Addr×Obj))(Y:St)(Q:List V->Hp->Prop)(us:List Value)(c:Shared):Prop:=∃a b,Inv X d Y b c/\Vals a us/\Q a b
def SP(X:Cx)(d:List (Addr×Obj))(D:Ends)(f:Flow)(c:Shared):Prop:=
 match f with
 |.next=>∃a b,Inv X d a b c/\D.nx a b
 |.brk=>∃a b,Inv X d a b c/\D.bk a b
 |.cont=>∃a b,Inv X d a b c/\D.ct a b
 |.ret u=>∃v a b,Inv X d a b c/\RelV v u/\D.rt v b
def PE(X:Cx)(e:Expr)(t:TE):Prop:=
 ∀(a:List (Addr×Obj)) (s:Shared) (Y:St) (H:Hp) (Q:VK),Inv X a Y H s->t Y H Q->wpAny (model X.prog X.w) X.A (eval e X.env) (EP X a Y Q) X.xe s
def PT(X:Cx)(e:Expr)(t:TT):Prop:=
 ∀(a:List (Addr×Obj)) (s:Shared) (Y:St) (H:Hp) (Q:Bool->Hp->Prop),Inv X a Y H s->t Y H Q->wpAny (model X.prog X.w) X.A (isTrue e X.env (eval e X.env)) (TP X a Y Q) X.xe s
def PW(X:Cx)(e:Expr)(t:TT):Prop:=
 ∀(a:Sem Value) (b:List (Addr×Obj)) (s:Shared) (Y:St) (H:Hp) (Q:Bool->Hp->Prop),Inv X b Y H s->t Y H Q->wpAny (model X.prog X.w) X.A (isTrue e X.env a) (TP X b Y Q) X.xe s
theorem PW.pt{X:Cx}{e:Expr}{t:TT}(h:PW X e t):PT X e t:=h _
def PA(X:Cx)(es:List Expr)(t:TA):Prop:=
 ∀(a:Pos) (b:List (Addr×Obj)) (s:Shared) (Y:St) (H:Hp) (Q:List V->Hp->Prop),Inv X b Y H s->t Y H Q->wpAny (model X.prog X.w) X.A (spliced (backTo a (starEach es X.env))) (AP X b Y Q) X.xe s
def PS(X:Cx)(st:Stmt)(t:TS):Prop:=
 ∀(a:List (Addr×Obj)) (s:Shared) (Y:St) (H:Hp) (D:Ends),Inv X a Y H s->t D Y H->wpAny (model X.prog X.w) X.A (exec st X.env) (SP X a D) X.xe s
def iD(X:Cx)(st:List Stmt)(t:TS):Prop:=
 ∀(a:List (Addr×Obj)) (s:Shared) (Y:St) (H:Hp) (D:Ends),Inv X a Y H s->t D Y H->wpAny (model X.prog X.w) X.A (execs st X.env) (SP X a D) X.xe s
theorem bF{b:Type}{t:Sem b}{Q Q':b->Shared->Prop}{A:Around}{E:Value->Shared->Prop}{s:Shared}(h:wpAny M A t Q E s)(c:∀a s,Q a s->Q' a s):wpAny M A t Q' E s:=Rm h c λ _ _ x=>x
end L2
namespace L2
open PySem PySem.Spec PyProof.Rows List
variable{H:Hp}{aa:List (Addr×Obj)}{pos:Pos}{s:Shared}{Y:St}
section
variable{X:Cx}
theorem bin{a b:Expr}{k tb:TE}(t:PE X a k)(r:PE X b tb){R:V->V->Hp->Prop}(I:Inv X aa Y H s)(h:k Y H λ x i=>tb Y i λ y c=>R x y c)
  {j:Type} {Q:j->Shared->Prop} {f:Value->Value->Sem j}
  (q:∀v u g x y c,Inv X aa Y c g->RelV x v->RelV y u->R x y c->wpAny (model X.prog X.w) X.A (f v u) Q X.xe g) :
  wpAny (model X.prog X.w) X.A (eval a X.env) (λ v e=>wpAny (model X.prog X.w) X.A (eval b X.env) (λ u d=>wpAny (model X.prog X.w) X.A (f v u) Q X.xe d) X.xe e) X.xe s:=by
 refine bF (t aa s Y H _ I h) λ v l ⟨x,i,B,n,p⟩=>?_;refine bF (r aa l Y i _ B p) λ u g ⟨y,c,z,m,o⟩=>?_;exact q v u g x y c z n m o
def M7(i:Nat):TE:=fun Y H Q=>∃v,Y[i]?=some (some v)/\Q v H
def tC(v:V):TE:=λ _ H Q=>Q v H
theorem sE{i:Nat}{x:Str}(n:X.N[i]?=some x)(g:Eo X.env.scope x)(d:(x==("__debug__":Str))=false:=by decide)(f:(x==("__classdict__":Str))=false:=by decide):PE X (.Name x pos) (M7 i):=by
 intro aa s Y H Q I h;let⟨v,e,h⟩:=h;let⟨m,j,k⟩:=I.loc;let⟨u,r,l⟩:=k i x v n e g;have b:EP X aa Y Q u s:=⟨v,H,I,r,h⟩;rcases l with⟨a,hm⟩ | ⟨a,c,hc,hcell⟩
 .exact wpAny_Name (wpAny_loadName_local I.ok.kind a j hm b) d
 .rcases a with a | a
  .exact wpAny_Name (wpAny_loadName_cell I.ok.kind a hc hcell b) d
  .exact wpAny_Name (wpAny_loadName_free I.ok.kind a hc hcell b f) d
theorem Ge{i j pos}:PE X (.Constant (.int i) j pos) (tC (.int i)):=λ _ _ _ H _ I h=>wpAny_Constant_int ⟨.int i,H,I.tok _,⟨_,rfl⟩,h⟩
theorem Kg{b j pos}:PE X (.Constant (.bool b) j pos) (tC (.bl b)):=λ _ _ _ H _ I h=>Constant_bool ⟨.bl b,H,I,rfl,h⟩
theorem Gf{j pos}:PE X (.Constant .none j pos) (tC .non):=λ _ _ _ H _ I h=>Constant_none ⟨.non,H,I,rfl,h⟩
theorem yo{x j pos}:PE X (.Constant (.str x) j pos) (tC (.str x)):=λ _ _ _ H _ I h=>Calls.Constant_str ⟨.str x,H,I.tok _,⟨_,rfl⟩,h⟩
def Gl(X:Cx)(x:Str):Prop:=X.env.kindOf x=some .globalImplicit
theorem cV{E:Value->Shared->Prop}{x:Str}{u:Value}{Q:Value->Shared->Prop}(I:Inv X aa Y H s)(b:Gl X x)(a:X.mg x=some u)(h:Q u s)
  (c:(x==("__debug__":Str))=false:=by decide):wpAny (model X.prog X.w) X.A (eval (.Name x pos) X.env) Q E s:=
 Uq I.ok.kind b (Calls.loadGlobal_global (by rw[I.ok.glob];exact I.mod.glob.keeps I.bk) a h) c
theorem iE{E:Value->Shared->Prop}{x:Str}{u:Value}{Q:Value->Shared->Prop}(I:Inv X aa Y H s)(d:Gl X x)(c:X.mg x=none)(a:bootBuiltins x=some u)(h:Q u s)
  (b:x≠"__name__":=by decide) (e:(x==("__debug__":Str))=false:=by decide):wpAny (model X.prog X.w) X.A (eval (.Name x pos) X.env) Q E s:=by
 let⟨i,g,f⟩:=I.mod.blt;exact Uq I.ok.kind d (Calls.loadGlobal_builtin (by rw[I.ok.glob];exact I.mod.glob.keeps I.bk) c (by rw[I.ok.blt];exact g.keeps I.bk) ((f x b).trans a) h) e
theorem iJ{x:Str}{v:V}{u:Value}(b:Gl X x)(a:X.mg x=some u)(r:RelV v u)(c:(x==("__debug__":Str))=false:=by decide):PE X (.Name x pos) (tC v):=
 λ _ _ _ H _ I h=>cV I b a ⟨v,H,I,r,h⟩ c
theorem uv{x:Str}{v:V}{u:Value}(d:Gl X x)(c:X.mg x=none)(a:bootBuiltins x=some u)(r:RelV v u)(b:x≠"__name__":=by decide)(e:(x==("__debug__":Str))=false:=by decide):PE X (.Name x pos) (tC v):=
 λ _ _ _ H _ I h=>iE I d c a ⟨v,H,I,r,h⟩ b e
variable{a b:Expr}{ta tb:TE}{pos:Pos}
variable{tA Mw:TT}{rest:List Expr}
def M8(t u:TT):TT:=fun Y H Q=>t Y H λ c d=>if c=true then u Y d Q else Q false d
def Qe(t u:TT):TT:=fun Y H Q=>t Y H λ c d=>if c=true then Q true d else u Y d Q
def M9(t:TT):TT:=fun Y H Q=>t Y H λ c d=>Q (!c) d
theorem BQ(d:PT X a tA):PW X (.BoolOp .And [a] pos) tA:=by
 intro f aa s Y H Q I h;refine isTrue_and (bF (d aa s Y H Q I h) λ c g e=>?_);cases c with
 |true=>exact isTrue_and_nil e
 |false=>exact e
theorem Gg(d:PT X a tA):PW X (.BoolOp .Or [a] pos) tA:=by
 intro f aa s Y H Q I h;refine isTrue_or (bF (d aa s Y H Q I h) λ c g e=>?_);cases c with
 |false=>exact isTrue_or_nil e
 |true=>exact e
theorem Gh(k:PT X a tA)(j:PW X (.BoolOp .And (b::rest) pos) Mw):PW X (.BoolOp .And (a::b::rest) pos) (M8 tA Mw):=by
 intro g aa s Y H Q I h;refine isTrue_and (bF (k aa s Y H _ I h) λ c i ⟨f,e,d⟩=>?_);cases c with
 |true=>exact j g aa i Y f Q e d
 |false=>exact⟨f,e,d⟩
theorem Kh(k:PT X a tA)(j:PW X (.BoolOp .Or (b::rest) pos) Mw):PW X (.BoolOp .Or (a::b::rest) pos) (Qe tA Mw):=by
 intro g aa s Y H Q I h;refine isTrue_or (bF (k aa s Y H _ I h) λ c i ⟨f,e,d⟩=>?_);cases c with
 |true=>exact⟨f,e,d⟩
 |false=>exact j g aa i Y f Q e d
theorem Gj(d:PT X a tA):PT X (.UnaryOp .Not a pos) (M9 tA):=by
 intro aa s Y H Q I h;exact isTrue_not (d aa s Y H (λ c e=>Q (!c) e) I h)
def Kl(ta tb:TE):TE:=fun Y H Q=>ta Y H λ x d=>∃c,x=.bl c/\if c=true then tb Y d Q else Q (.bl false) d
def Km(ta:TE):TE:=fun Y H Q=>ta Y H λ x d=>∃c,x=.bl c/\Q (.bl (!c)) d
theorem yp{op}{t:TE}(h:PE X a t):PE X (.BoolOp op [a] pos) t:=λ aa s Y H Q I c=>BoolOp_one (h aa s Y H Q I c)
theorem Gk(k:PE X a ta)(j:PE X (.BoolOp .And (b::rest) pos) tb):PE X (.BoolOp .And (a::b::rest) pos) (Kl ta tb):=by
 intro aa s Y H Q I h;refine BoolOp_and (bF (k aa s Y H _ I h) λ v g ⟨x,f,e,i,d⟩=>?_);let⟨c,rfl,d⟩:=d;cases i;refine Se ?_;cases c with
 |true=>exact j aa g Y f Q e d
 |false=>exact⟨.bl false,f,e,rfl,d⟩
theorem Gm(f:PE X a ta):PE X (.UnaryOp .Not a pos) (Km ta):=by
 intro aa s Y H Q I h;refine UnaryOp_ (bF (f aa s Y H _ I h) λ v j ⟨x,i,g,e,d⟩=>?_);let⟨c,rfl,d⟩:=d;cases e;exact not_of (Se ⟨.bl (!c),i,g,rfl,d⟩)
def Qf(t:TT)(ta tb:TE):TE:=fun Y H Q=>t Y H λ c d=>if c=true then ta Y d Q else tb Y d Q
theorem yq{c:Expr}(j:PT X c tA)(l:PE X a ta)(k:PE X b tb):PE X (.IfExp c a b pos) (Qf tA ta tb):=by
 intro aa s Y H Q I h;refine wpAny_IfExp (bF (j aa s Y H _ I h) λ d e ⟨i,g,f⟩=>?_);cases d with
 |true=>exact l aa e Y i Q g f
 |false=>exact k aa e Y i Q g f
end
end L2
namespace L2
open PySem PySem.Spec PyProof.Rows List
variable{K:ae}{P:Program}{X:Cx}{e tg:Expr}{i:Nat}{s:Shared}{w:World}
def fS(K:ae)(H:Hp)(a:Addr)(xs:List V):Prop:=
 Rd H a (.lst xs)\/
  ∃(o:Obj) (b:Array Value) (n:Nat),K.lookup a=some o/\o.cls=.type "list"/\o.dict=none/\o.data=.seq b n/\b.size<=sizeLine/\Vals xs b.toList
def dw(K:ae)(H:Hp)(a:Addr)(xs:List V):Prop:=
 Rd H a (.tup xs)\/
  ∃(o:Obj) (b:Array Value) (n:Nat),(K.lookup a=some o/\o.dict=none)/\o.cls=.type "tuple"/\o.data=.seq b n/\b.size<=sizeLine/\Vals xs b.toList
def Na:Value->Option V
 |.none=>some .non
 |.bool b=>some (.bl b)
 |.int i _=>some (.int i)
 |.str x _=>some (.str x)
 |.bytes b _=>some (.byt b)
 |.float b _=>some (.g7 b)
 |.ref a=>some (.ref a)
 |.type n=>some (.ty n)
 |_=>none
theorem RelV.abs{x:V}{u:Value}(r:RelV x u):Na u=some x:=by
 cases x with
 |non=>cases r;rfl
 |bl _=>cases r;rfl
 |int _=>let⟨t,rfl⟩:=r;rfl
 |str _=>let⟨t,rfl⟩:=r;rfl
 |byt _=>let⟨t,rfl⟩:=r;rfl
 |g7 _=>let⟨t,rfl⟩:=r;rfl
 |ref _=>cases r;rfl
 |ty _=>cases r;rfl
theorem RelV.inj{x y:V}{u:Value}(r:RelV x u)(q:RelV y u):x=y:=R1 (r.abs.symm.trans q.abs)
theorem Vals.inj{xs ys:List V}{us:List Value}(h:Vals xs us)(g:Vals ys us):xs=ys:=by
 induction h generalizing ys with
 |nil=>cases g;rfl
 |cons r t c=>cases g with | cons b a=>rw[r.inj b,c a]
section
variable{X:Cx}{aa:List (Addr×Obj)}{Y:St}{H:Hp}{s:Shared}{a:Addr}{xs ys:List V}
theorem dw.of(h:H a=@(.tup xs)):dw K H a xs:=.inl (.inl h)
theorem Inv.list(I:Inv X aa Y H s)(h:fS X.K H a xs):∃its:List Value,Vals xs its/\PlainL s.heap a its.toArray/\xs.length<=sizeLine:=by
 rcases h with h | ⟨o,its,n,b,hc,hd,hs,c,r⟩
 .let⟨z,its,n,r,e⟩:=h.ok I.hok;exact⟨its,r,⟨_,n,e,rfl,rfl,rfl⟩,z⟩
 .refine⟨its.toList,r,⟨o,n,I.cQ a o b,hc,hd,~~~hs⟩,?_⟩;have e:=r.length;erw[Sv] at e;lia
theorem Inv.tuple(I:Inv X aa Y H s)(h:dw X.K H a xs):∃its:List Value,Vals xs its/\IsTup s.heap a its.toArray/\xs.length<=sizeLine:=by
 rcases h with h | ⟨o,its,n,b,hc,hs,c,r⟩
 .let⟨z,its,r,p⟩:=h.ok I.hok;exact⟨its,r,p.t,z⟩
 .refine⟨its.toList,r,⟨o,I.cQ a o b.1,hc,n,~~~hs⟩,?_⟩;have e:=r.length;erw[Sv] at e;lia
theorem Inv.Nb(I:Inv X aa Y H s)(h:dw X.K H a xs):s.TypeIs (.ref a) "tuple"/\Exists λ g=>s.heap.get? a=some g/\g.dict=none:=by
 rcases h with h | ⟨o,b,n,f,hc,hs,j,r⟩
 .let⟨z,b,r,p⟩:=h.ok I.hok;let⟨o,e,c,d⟩:=p;exact⟨⟨o,e,c.1⟩,o,e,c.2⟩
 .exact⟨⟨o,I.cQ a o f.1,hc⟩,o,I.cQ a o f.1,f.2⟩
theorem Inv.qf(I:Inv X aa Y H s)(h:fS X.K H a xs)(h':fS X.K H a ys):xs=ys:=by
 let⟨c,r,⟨o,n,e,_,_,d⟩,_⟩:=I.list h;let⟨b,j,⟨l,m,f,_,_,g⟩,_⟩:=I.list h';rw[e] at f;cases f;rw[d] at g;injection g with k _
 have:c=b:=by simpa using TR Array.toList k
 subst this;exact r.inj j
theorem Inv.mT(I:Inv X aa Y H s)(h:dw X.K H a xs)(h':dw X.K H a ys):xs=ys:=by
 let⟨c,r,⟨o,e,_,n,d⟩,_⟩:=I.tuple h;let⟨b,j,⟨l,f,_,m,g⟩,_⟩:=I.tuple h';rw[e] at f;cases f;rw[d] at g;injection g with k _
 have:c=b:=by simpa using TR Array.toList k
 subst this;exact r.inj j
end
abbrev Cx.g9(X:Cx)(E:Value->Shared->Prop):Cx:={X with xe:=E}
abbrev Cx.dD(X:Cx):Cx:=X.g9 λ _ _=>False
theorem Cx.Ok.g9(a:X.Ok)(E:Value->Shared->Prop):(X.g9 E).Ok:=
 ⟨a.mod,a.kind,a.glob,a.blt,a.above,a.inj,a.has,a.cab,a.hd,a.frames,a.stk,a.exf,a.bs,a.bsz,a.noex,a.exfs,a.iC,a.frf⟩
theorem Cx.Ok.cW{E:Value->Shared->Prop}(a:(X.g9 E).Ok):X.Ok:=
 ⟨a.mod,a.kind,a.glob,a.blt,a.above,a.inj,a.has,a.cab,a.hd,a.frames,a.stk,a.exf,a.bs,a.bsz,a.noex,a.exfs,a.iC,a.frf⟩
section
variable{X:Cx}{aa:List (Addr×Obj)}{Y:St}{H:Hp}{s:Shared}{E:Value->Shared->Prop}
theorem Inv.g9(I:Inv X aa Y H s)(E:Value->Shared->Prop):Inv (X.g9 E) aa Y H s:=⟨I.ok.g9 E,I.os,I.bare,I.base,I.loc,I.cell,I.free,I.freeC,I.pin,I.hok,I.len⟩
theorem Inv.cW(I:Inv (X.g9 E) aa Y H s):Inv X aa Y H s:=⟨I.ok.cW,I.os,I.bare,I.base,I.loc,I.cell,I.free,I.freeC,I.pin,I.hok,I.len⟩
theorem SP.cW{D:Ends}{f:Flow}{c:Shared}(h:SP (X.g9 E) aa D f c):SP X aa D f c:=by
 cases f with
 |next=>let⟨a,b,I,q⟩:=h;exact⟨a,b,I.cW,q⟩
 |brk=>let⟨a,b,I,q⟩:=h;exact⟨a,b,I.cW,q⟩
 |cont=>let⟨a,b,I,q⟩:=h;exact⟨a,b,I.cW,q⟩
 |ret u=>let⟨v,a,b,I,r,q⟩:=h;exact⟨v,a,b,I.cW,r,q⟩
theorem PE.dD{t:TE}(h:PE X.dD e t):PE X e t:=λ aa s Y H Q I a=>
 Rm (h aa s Y H Q (I.g9 _) a) (λ _ _ ⟨v,c,b,r,q⟩=>⟨v,c,b.cW,r,q⟩) λ _ _ z=>False.elim z
theorem PT.dD{t:TT}(h:PT X.dD e t):PT X e t:=λ aa s Y H Q I a=>
 Rm (h aa s Y H Q (I.g9 _) a) (λ _ _ ⟨c,b,q⟩=>⟨c,b.cW,q⟩) λ _ _ z=>False.elim z
theorem iD.dD{st:List Stmt}{t:TS}(h:iD X.dD st t):iD X st t:=λ aa s Y H D I a=>
 Rm (h aa s Y H D (I.g9 _) a) (λ _ _ q=>q.cW) λ _ _ z=>False.elim z
end
section
variable{X:Cx}{st:Stmt}{rest:List Stmt}{t u:TS}{e:Expr}{te:TE}{pos:Pos}
def Er:TS:=λ D Y H=>D.nx Y H
def Nc(t u:TS):TS:=λ D Y H=>t {D with nx:=u D} Y H
theorem uw:iD X [] Er:=λ _ _ Y H _ I h=>U6 ⟨Y,H,I,h⟩
theorem yr(g:PS X st t)(d:iD X rest u):iD X (st::rest) (Nc t u):=by
 intro b s Y H D I h;refine wpAny_execs_cons (bF (g b s Y H {D with nx:=u D} I h) λ f c q=>?_);cases f with
 |next=>
  let⟨a,k,j,q⟩:=q;exact d b c a k D j q
 |ret v=>exact q
 |brk=>exact q
 |cont=>exact q
theorem BR(a:PS X st t):iD X [st] t:=by
 intro b s Y H D I h;refine wpAny_execs_cons (bF (a b s Y H D I h) λ f c q=>?_);cases f with
 |next=>exact U6 q
 |ret v=>exact q
 |brk=>exact q
 |cont=>exact q
def Gn:TS:=λ D Y H=>D.bk Y H
def Kn:TS:=λ D Y H=>D.ct Y H
theorem BS:PS X (.Pass pos) Er:=λ _ _ Y H _ I h=>wpAny_Pass ⟨Y,H,I,h⟩
theorem yt:PS X (.Break pos) Gn:=λ _ _ Y H _ I h=>wpAny_Break ⟨Y,H,I,h⟩
theorem qg:PS X (.Continue pos) Kn:=λ _ _ Y H _ I h=>wpAny_Continue ⟨Y,H,I,h⟩
theorem Inv.quiet{a:List (Addr×Obj)}{Y:St}{H:Hp}(I:Inv X a Y H s):interactive X.env=false:=by simp[interactive,I.ok.kind]
def Ko(te:TE):TS:=λ D Y H=>te Y H λ _ a=>D.nx Y a
theorem oJ(c:PE X e te)(b:swapsWith e none pos.line X.env=pure false:=by rfl):PS X (.Expr e pos) (Ko te):=by
 intro d s Y H D I h;exact wpAny_Expr_any (bF (c d s Y H _ I h) λ v j ⟨x,g,f,k,a⟩=>⟨Y,g,f,a⟩) I.quiet b
def Nd(te:TE):TS:=λ D Y H=>te Y H D.rt
theorem sF(c:PE X e te):PS X (.Return (some e) pos) (Nd te):=by
 intro d s Y H D I h;exact wpAny_Return_some (bF (c d s Y H _ I h) λ v j ⟨x,g,f,a,b⟩=>⟨x,Y,g,f,a,b⟩)
def Kp:TS:=λ D _ H=>D.rt .non H
theorem BU:PS X (.Return none pos) Kp:=λ _ _ Y H _ I h=>wpAny_Return_none ⟨.non,Y,H,I,rfl,h⟩
def Nf(c:TT)(t u:TS):TS:=λ D Y H=>c Y H λ b a=>if b=true then t D Y a else u D Y a
theorem Kq{c:Expr}{a b:List Stmt}{g:TT}(n:PT X c g)(p:iD X a t)(o:iD X b u):PS X (.If c a b pos) (Nf g t u):=by
 intro f s Y H D I h;refine wpAny_If (bF (n f s Y H _ I h) λ d j ⟨m,l,k⟩=>?_);cases d with
 |true=>exact p f j Y m D l k
 |false=>exact o f j Y m D l k
def Gq:TS:=λ _ _ _=>False
theorem yu:PS X st Gq:=λ _ _ _ _ _ _ h=>h.elim
end
abbrev TG:=V->St->Hp->(St->Hp->Prop)->Prop
abbrev BD:=List V->St->Hp->(St->Hp->Prop)->Prop
def PG(X:Cx)(a:Expr)(t:TG):Prop:=
 ∀(c:List (Addr×Obj)) (s:Shared) (Y:St) (H:Hp) (v:V) (u:Value) (Q:St->Hp->Prop),Inv X c Y H s->RelV v u->t v Y H Q->
  wpAny (model X.prog X.w) X.A (assign a X.env u) (λ _ f=>∃b d,Inv X c b d f/\Q b d) X.xe s
def su(X:Cx)(ts:List Expr)(t:BD):Prop:=
 ∀(d:List (Addr×Obj)) (s:Shared) (Y:St) (H:Hp) (b:List V) (c:List Value) (Q:St->Hp->Prop),Inv X d Y H s->Vals b c->t b Y H Q->
  wpAny (model X.prog X.w) X.A (assignInOrder ((assignEach ts X.env).map (·.2)) c) (λ _ g=>∃a f,Inv X d a f g/\Q a f) X.xe s
abbrev Gr:=V->V->V->Hp->(Hp->Prop)->Prop
def Gs(X:Cx)(t:Gr):Prop:=
 ∀(c:List (Addr×Obj)) (s:Shared) (Y:St) (H:Hp) (o i v:V) (a b u:Value) (Q:Hp->Prop),Inv X c Y H s->RelV o a->RelV i b->RelV v u->t o i v H Q->
  wpAny (model X.prog X.w) X.A (setItem a b u) (λ _ f=>∃d,Inv X c Y d f/\Q d) X.xe s
section
variable{X:Cx}{pos:Pos}
def Et(i:Nat):TG:=λ v Y H Q=>Q (Y.set i (some v)) H
theorem BV{x:Str}(c:X.N.Nodup)(hi:X.N[i]?=some x)(a:Loc X.env.scope x)(b:X.fn x=true\/X.env.scope.names.lookup x=some .local:=by first | exact .inl rfl | exact .inr rfl | assumption):PG X (.Name x pos) (Et i):=by
 intro g s Y H v u Q I r h;exact wpAny_assign_Name (gx I c hi a r (λ f d=>⟨_,H,d,h⟩) b)
def Ng:BD:=λ a Y H Q=>a=[]/\Q Y H
def Kr(t:TG)(u:BD):BD:=λ b Y H Q=>∃v r,b=v::r/\t v Y H fun a c=>u r a c Q
theorem BW:su X [] Ng:=by
 intro c s Y H a b Q I r h;let⟨e,h⟩:=h;subst e;cases r;exact assignInOrder_nil ⟨Y,H,I,h⟩
theorem yv{es:List Expr}{t:TG}{u:BD}(k:PG X e t)(j:su X es u)
  (g:(assignEach (e::es) X.env).map (·.2)=assign e X.env::(assignEach es X.env).map (·.2):=by rfl):su X (e::es) (Kr t u):=by
 intro b s Y H o q Q I r h;let⟨v,p,l,h⟩:=h;subst l;cases r with
 |cons r d=>
  rw[g];refine Ur (bF (k b s Y H _ _ _ I r h) λ _ c ⟨a,n,m,f⟩=>?_);exact j b c a n _ _ Q m d f
def Nh(K:ae)(n:Nat)(t:BD):TG:=λ v Y H Q=>∃a b,v=.ref a/\dw K H a b/\b.length=n/\t b Y H Q
theorem Gu{es:List Expr}{k:Nat}{t:BD}{n:Nat}(z:X.calm=true)(h:su X es t)
  (x:(assignEach es X.env).length=n:=by rfl) (d:(assignEach es X.env).findIdx? (·.1)=none:=by rfl):PG X (.Tuple es k pos) (Nh X.K n t):=by
 intro g s Y H v u Q I r c;let⟨a,j,B,q,y,c⟩:=c;subst B;cases r;let⟨l,f,p,D⟩:=I.tuple q;refine assign_Tuple_tuple (I.ok.hd z) p (by simp[x,<-y,f.length]) d λ A m=>?_;have C:Inv X g Y H {s with heap:=A}:=I.kept (t':=s.toks) λ b o e=>m b o (Rb (Q6 e)) e;exact h g _ Y H j _ Q C (~~~f) c
def Ni(a b:TE)(t:Gr):TG:=λ v Y H Q=>a Y H λ o f=>b Y f λ i d=>t o i v d λ c=>Q Y c
theorem Gv{o i:Expr}{d f:TE}{t:Gr}(ho:PE X o d)(hi:PE X i f)(q:Gs X t)
  (z:∀v,assign (.Subscript o i pos) X.env v=(do
   let a <-holding [v] (eval o X.env)
   let b <-holding [v,a] (eval i X.env)
   standAt pos
   holding [v,a,b] (setItem a b v)
   release [v,a,b] []):=by intro _;rfl):PG X (.Subscript o i pos) (Ni d f t):=by
 intro c s Y H v u Q I r h;rw[z];refine Q2 (Sd (bF (ho c s Y H _ I h) λ a j ⟨x,F,C,l,p⟩=>?_));refine Q2 (Sd (bF (hi c j Y F _ C p) λ b g ⟨y,E,B,k,n⟩=>?_));refine Q2 (R8 (Q2 (Sd (bF (q c g Y E x y v a b u _ B l k r n) λ _ G ⟨D,A,m⟩=>?_))));exact wpAny_release ⟨Y,D,A,m⟩
def Ks(a:TE)(g:TG):TS:=λ D Y H=>a Y H λ x b=>g x Y b D.nx
theorem oK{a:TE}{g:TG}(m:PE X e a)(l:PG X tg g)(k:swapsWithSole [tg] e pos.line X.env=pure false:=by rfl)(j:swappedStores [tg] e X.env=pure none:=by rfl)
  (n:(assignEach [tg] X.env).map (·.2)=[assign tg X.env]:=by rfl):PS X (.Assign [tg] e pos) (Ks a g):=by
 intro b s Y H D I h;refine wpAny_Assign_stores (bF (m b s Y H _ I h) λ v c ⟨x,p,o,d,f⟩=>?_) k j;rw[n];exact bF (l b c Y p x v _ o d f) λ _ r q=>q
theorem Gw{x:Str}{b:TE}{a:Pos}(l:X.N.Nodup)(hi:X.N[i]?=some x)(f:Loc X.env.scope x)(k:PE X e b)(g:swapsWith e @(.Name x a) pos.line X.env=pure false:=by rfl)(j:X.fn x=true\/X.env.scope.names.lookup x=some .local:=by first | exact .inl rfl | exact .inr rfl | assumption) :
  PS X (.Assign [.Name x a] e pos) (Ks b (Et i)):=by
 intro m s Y H D I h;refine wpAny_Assign_Name (bF (k m s Y H _ I h) λ v r ⟨y,p,o,c,d⟩=>?_) g;exact gx o l hi f c (λ q n=>⟨_,p,n,d⟩) j
def Nj(i j:Nat)(b:TA):TS:=λ D Y H=>b Y H λ a c=>∃v w,a=[v,w]/\D.nx ((Y.set i (some v)).set j (some w)) c
theorem Gx{j:Nat}{x y:Str}{a b:Expr}{B:TA}{n m r:Pos}{kt t g}(hc:X.calm=true)(F:X.N.Nodup)(hi:X.N[i]?=some x)(T:X.N[j]?=some y)(z:i≠j)
  (E:X.env.scope.names.lookup x=some .local) (C:X.env.scope.names.lookup y=some .local) (ha:PA X [a,b] B)
  (hw:swappedStores [.Tuple [.Name x n,.Name y m] kt r] (.Tuple [a,b] t g) X.env=pure (some [x,y]))
  (hs:swapsWithSole [.Tuple [.Name x n,.Name y m] kt r] (.Tuple [a,b] t g) pos.line X.env=pure false:=by rfl) :
  PS X (.Assign [.Tuple [.Name x n,.Name y m] kt r] (.Tuple [a,b] t g) pos) (Nj i j B):=by
 intro G s Y H D I h;rw[exec_Assign_arm];refine Q2 (R8 ?_);rw[hs];refine Q2 (Q8 ?_);rw[Ri 'd'];refine Q2 (Tuple_ (bF (ha _ G s Y H _ I h) λ M f ⟨vs,L,I1,Q,l⟩=>?_));let⟨v,w,U,l⟩:=l;subst U;obtain⟨d,c,rfl,O,k⟩:∃d c,M=[d,c]/\RelV v d/\RelV w c:=by
  cases Q with
  |cons p q=>
   cases q with
   |cons S R=>
    cases R;exact⟨_,_,rfl,p,S⟩
 refine Sf ?_ (by show 2<=sizeLine;decide);have I2:Inv X G Y L {f with heap:=f.heap.push {cls:=.type "tuple",data:=.seq [d,c].toArray}}:=I1.kept (t':=f.toks) λ b o e=>Q3 _ e;rw[hw];refine Q2 (Q8 ?_);show wpAny (model X.prog X.w) X.A (do rule "assign.swapped-stores";let items <-unpackItems (.ref f⁻¹) 2 none;assignInOrder [λ v=>bindName X.env y v,λ v=>bindName X.env x v] items.reverse;pure Flow.next) _ _ _;refine Q2 (Us (Q2 (unpackItems_tuple (items:=#[d,c]) (I.ok.hd hc) (IsTup.new f.heap _) λ h' u=>?_)));have Z:=I2.kept (h':=h') (t':=f.toks) λ b o e=>u b o (Rb (Q6 e)) e;show wpAny _ _ (assignInOrder [λ v=>bindName X.env y v,λ v=>bindName X.env x v] [c,d] >>= λ _=>pure Flow.next) _ _ _;refine Q2 (Ur (wpAny_bindName (gx Z F T (.inl C) k (λ s2 V=>?_) (.inr C))));refine Ur (wpAny_bindName (gx V F hi (.inl E) O (λ s3 J=>assignInOrder_nil (Q8 ?_)) (.inr E)));rw[set_comm _ _ (Ne.symm z)] at J;exact⟨_,L,J,l⟩
end
set_option genInjectivity false in
structure It where
 go:Nat->Hp->Prop
 yld:Nat->Hp->V->Hp->Prop
 stop:Nat->Hp->Prop
def jj(X:Cx)(a:List (Addr×Obj))(H:Hp)(b:Addr):Prop:=
 H b=none/\b≠X.env.locals/\b∉X.fs/\(b∈X.ex\/X.s₀⁻¹<=b)/\(∀x c,X.env.cells.lookup x=some c->c≠b)/\∀p∈X.pn++a,p.1≠b
theorem Inv.qh{d:List (Addr×Obj)}{Y:St}{H f:Hp}{b:Addr}(I:Inv X d Y H s)(a:s⁻¹<=b)(h:f b=none):jj X d f b:=by
 refine⟨h,Sn (Rh I.lt a),I.M0 a,.inr (Rv I.sz a),λ x c e z=>?_,λ p g z=>?_⟩
 .let⟨v,q⟩:=I.cell x c e;exact absurd (Rh q.lt (by rw[z];exact a)) (SQ _)
 .exact absurd (Rh (Q6 (I.pin p g).1) (by rw[z];exact a)) (SQ _)
structure Turn(P:Program)(w:World)(K:ae)(tg:Expr)(QZ:It)(fp:List Addr)(it:Addr)(tn:Nat->Heap->Prop):Prop where
 mem:it∈fp
 obj:∀i h,tn i h->∀b∈fp,∃o,h.get? b=some o/\∀v,o.data≠.cell v
 keep:∀i h h',tn i h->(∀b∈fp,∀o,h.get? b=some o->h'.get? b=some o)->tn i h'
 item:∀(X:Cx),X.prog=P->X.w=w->X.K=K->X.calm=true->∀(i:Nat) (aa:List (Addr×Obj)) (s:Shared) (Y:St) (H:Hp) (E:Value->Shared->Prop),Inv X aa Y H s->(∀b∈fp,jj X aa H b)->tn i s.heap->QZ.go i H->
  wpAny (model P w) X.A (pyNext (.ref it)) (λ r s1=>∃u,r=some u/\
   wpAny (model P w) X.A (letOwnedTupleGo tg (.ref it) u) (λ _ s2=>∃x H',Inv X aa Y H' s2/\RelV x u/\QZ.yld i H x H'/\tn (i+1) s2.heap/\∀b∈fp,H' b=none) E s1) E s
 done:∀(X:Cx),X.prog=P->X.w=w->X.K=K->X.calm=true->∀(i:Nat) (aa:List (Addr×Obj)) (s:Shared) (Y:St) (H:Hp) (E:Value->Shared->Prop),Inv X aa Y H s->(∀b∈fp,jj X aa H b)->tn i s.heap->QZ.stop i H->
  wpAny (model P w) X.A (pyNext (.ref it)) (λ r s1=>r=none/\Inv X aa Y H s1) E s
 self:∀(A:Around) (i:Nat) (s:Shared) (Q:Value->Shared->Prop) (E:Value->Shared->Prop),tn i s.heap->Q (.ref it) s->wpAny (model P w) A (pyIter (.ref it)) Q E s
abbrev TI:=St->Hp->(It->Hp->Prop)->Prop
def Pb(X:Cx)(j:List (Addr×Obj))(Y:St)(tg:Expr)(R:It->Hp->Prop)(a:Value)(f:Shared):Prop:=
 ∃(g:Addr) (h:List Addr) (d:Nat->Heap->Prop) (k:It) (c:Hp),a=.ref g/\Inv X j Y c f/\Turn X.prog X.w X.K tg k h g d/\d 0 f.heap/\(∀b∈h,jj X j c b)/\R k c
def PI(X:Cx)(tg a:Expr)(c:TI):Prop:=
 ∀(b:List (Addr×Obj)) (s:Shared) (Y:St) (H:Hp) (R:It->Hp->Prop),Inv X b Y H s->c Y H R->
  wpAny (model X.prog X.w) X.A (eval a X.env) (λ v d=>wpAny (model X.prog X.w) X.A (pyIter v) (Pb X b Y tg R) X.xe d) X.xe s
theorem ux{M:Model}{A:Around}{E:Value->Shared->Prop}{it:Addr}{u:Value}{o:Obj}{n:String}{vs:Array Value}{Q:Unit->Shared->Prop}(ho:s.heap.get? it=some o)(d:o.cls=.type n)(c:o.data=.fields vs)
  (b:["enumerate","zip","dict_itemiterator","dict_reverseitemiterator","odict_iterator","itertools.zip_longest","itertools.pairwise"].contains n=false) (a:Q () s):wpAny M A (letOwnedTupleGo tg (.ref it) u) Q E s:=by
 unfold letOwnedTupleGo;cases tg<;>first
  |exact Q8 a
  |(cases u<;>first
    |exact Q8 a
    |(refine Q2 (wpAny_load ho ?_);rw[d,c];show wpAny M A (if (["enumerate","zip","dict_itemiterator","dict_reverseitemiterator","odict_iterator","itertools.zip_longest","itertools.pairwise"].contains n&&vs[0]?==@(rawInt _))=true then _ else _) Q E s;rw[Ri (by intro h;rw[b,TU] at h;cases h)];exact Q8 a))
def Mx(K:ae)(a:Addr):It:=
 ⟨λ i H=>∃b x,fS K H a b/\b[i]?=some x,λ i H x c=>c=H/\∀b,fS K H a b->b[i]?=some x,λ i H=>∃b,fS K H a b/\b.length<=i⟩
def Nk(K:ae)(a:Addr):It:=
 ⟨λ i H=>∃b x,dw K H a b/\b[i]?=some x,λ i H x c=>c=H/\∀b,dw K H a b->b[i]?=some x,λ i H=>∃b,dw K H a b/\b.length<=i⟩
def Mz(lo:Int)(n:Nat):It:=⟨λ i _=>i<n,λ i H x a=>a=H/\x=.int (lo+i),λ i _=>n<=i⟩
theorem wA(a it:Addr):Turn P w K tg (Mx K a) [it] it (λ i h=>h.IsListIter it a i) where
 mem:=by simp
 obj:=λ i h st b f=>by
  have e:b=it:=by simpa using f
  subst e;let⟨o,e,c,d⟩:=st;exact⟨o,e,λ v z=>by rw[d] at z;cases z⟩
 keep:=λ i h l st k=>st.at λ o e=>k it 's' o e
 item:=by
  intro X r hw t hc i B s Y H E I hf st q;subst r hw t;let⟨xs,x,j,n⟩:=q;let⟨its,m,p,F⟩:=I.list j;let⟨u,J,D⟩:=m.get n;let⟨f0,f1,f2,A,f4,y⟩:=hf it 's';refine UT st p.isList (x:=u) (~~~J) λ l g C=>?_;have M:Inv X B Y H {s with heap:=l}:=I.turned (t':=s.toks) (λ b o f e=>(C.2 b f).trans e) f0 f1 A f4 y;let⟨o,e,c,d⟩:=id g;exact⟨u,rfl,ux (s:={s with heap:=l}) e c d 'd' ⟨x,H,M,D,⟨rfl,λ N G=>by rw[I.qf G j];exact n⟩,g,λ b f=>(hf b f).1⟩⟩
 done:=by
  intro X r hw t hc i B s Y H E I hf st q;subst r hw t;let⟨xs,j,n⟩:=q;let⟨its,m,p,F⟩:=I.list j;let⟨f0,f1,f2,A,f4,y⟩:=hf it 's';have O:=m.length;exact wpAny_pyNext_list_end (I.ok.hd hc) st p.isList (by simp;lia) λ l L=>⟨rfl,I.turned (t':=s.toks) (λ b o f e=>L b o f e) f0 f1 A f4 y⟩
 self:=λ _ _ _ _ _ st h=>wpAny_pyIter_listiter st h
theorem sG(a it:Addr):Turn P w K tg (Nk K a) [it] it (λ i h=>h.IsTupleIter it a i) where
 mem:=by simp
 obj:=λ i h st b f=>by
  have e:b=it:=by simpa using f
  subst e;let⟨o,e,c,d⟩:=st;exact⟨o,e,λ v z=>by rw[d] at z;cases z⟩
 keep:=λ i h l st k=>st.at λ o e=>k it 's' o e
 item:=by
  intro X r hw t hc i B s Y H E I hf st q;subst r hw t;let⟨xs,x,j,n⟩:=q;let⟨its,m,p,F⟩:=I.tuple j;let⟨u,J,D⟩:=m.get n;let⟨f0,f1,f2,A,f4,y⟩:=hf it 's';refine wpAny_pyNext_tuple_item st (show s.heap.IsTuple a its.toArray from p) (x:=u) (~~~J) λ l g C=>?_;have M:Inv X B Y H {s with heap:=l}:=I.turned (t':=s.toks) (λ b o f e=>(C.2 b f).trans e) f0 f1 A f4 y;let⟨o,e,c,d⟩:=id g;exact⟨u,rfl,ux (s:={s with heap:=l}) e c d 'd' ⟨x,H,M,D,⟨rfl,λ N G=>by rw[I.mT G j];exact n⟩,g,λ b f=>(hf b f).1⟩⟩
 done:=by
  intro X r hw t hc i B s Y H E I hf st q;subst r hw t;let⟨xs,j,n⟩:=q;let⟨its,m,p,F⟩:=I.tuple j;let⟨f0,f1,f2,A,f4,y⟩:=hf it 's';have O:=m.length;exact wpAny_pyNext_tuple_end (I.ok.hd hc) st (show s.heap.IsTuple a its.toArray from p) (by simp;lia) λ l L=>⟨rfl,I.turned (t':=s.toks) (λ b o f e=>L b o f e) f0 f1 A f4 y⟩
 self:=λ _ _ _ _ _ st h=>wpAny_pyIter_tupleiter st h
theorem sH(it:Addr)(lo:Int)(n:Nat):Turn P w K tg (Mz lo n) [it] it (λ i h=>IsRangeIter h it (lo+(i:Nat)*1) ((n:Int) - (i:Nat)) 1) where
 mem:=by simp
 obj:=λ i h st b a=>by
  have e:b=it:=by simpa using a
  subst e;exact⟨_,st,λ v z=>by
   have r:Data.fields _=Data.cell v:=z;cases r⟩
 keep:=λ i h d st k=>k it 's' _ st
 item:=by
  intro X g hw j hc i q s Y H E I hf st f;subst g hw j;let⟨f0,f1,f2,m,f4,l⟩:=hf it 's';have W:=Walks.range (prog:=X.prog) (w:=X.w) (I.ok.hd hc) it lo 1 n;refine W.item i s _ _ f st λ v d p u c kk=>?_;let⟨t,rfl⟩:=u;have y:Inv X q Y H {s with heap:=d,toks:=p}:=I.turned (λ b o a e=>kk b o (~~~a) e) f0 f1 m f4 l;refine⟨_,rfl,ux (s:={s with heap:=d,toks:=p}) (n:="range_iterator") c rfl rfl 'd' ⟨.int (lo+i),H,y,⟨t,?_⟩,⟨rfl,rfl⟩,c,λ b a=>(hf b a).1⟩⟩;rw[Int.mul_one]
 done:=by
  intro X g hw j hc i q s Y H E I hf st f;subst g hw j;let⟨f0,f1,f2,m,f4,l⟩:=hf it 's';exact wpAny_pyNext_range_end (I.ok.hd hc) st (by have:n<=i:=f;lia) λ d x=>⟨rfl,I.turned (t':=s.toks) (λ b o a e=>x b o a e) f0 f1 m f4 l⟩
 self:=λ _ _ _ _ _ st h=>wpAny_pyIter_rangeiter st h
end L2
namespace L2
open PySem PySem.Spec PyProof.Rows List
variable{H:Hp}{fp:List Addr}{aa:List (Addr×Obj)}{s:Shared}{Y:St}
section
variable{X:Cx}{tg:Expr}
def Ku(K:ae)(d:TE):TI:=fun Y H R=>d Y H λ x b=>∃a,x=.ref a/\(∃c,fS K b a c)/\R (Mx K a) b
def Nl(K:ae)(d:TE):TI:=fun Y H R=>d Y H λ x b=>∃a,x=.ref a/\(∃c,dw K b a c)/\R (Nk K a) b
theorem BX{l:Expr}{f:TE}(m:PE X l f):PI X tg l (Ku X.K f):=by
 intro aa s Y H R I h;refine bF (m aa s Y H _ I h) λ v c ⟨x,r,d,g,i⟩=>?_;let⟨a,e,⟨t,k⟩,q⟩:=i;subst e;cases g;let⟨j,u,p,w⟩:=d.list k;refine TV p.isList ?_;refine⟨c⁻¹,[c⁻¹],_,_,r,rfl,d.kept (t':=c.toks) λ b o e=>Q3 _ e,wA a _,⟨_,Ra _ rfl,rfl,rfl⟩,λ b n=>?_,q⟩;have e:b=c⁻¹:=by simpa using n
 subst e;exact d.qh (Q7 _) (d.hok.fresh (Q7 _))
theorem Gy{l:Expr}{g:TE}(m:PE X l g):PI X tg l (Nl X.K g):=by
 intro aa s Y H R I h;refine bF (m aa s Y H _ I h) λ v c ⟨x,r,d,i,j⟩=>?_;let⟨a,e,⟨t,k⟩,q⟩:=j;subst e;cases i;let⟨f,u,p,w⟩:=d.tuple k;refine SV (show c.heap.IsTuple a f.toArray from p) ?_;refine⟨c⁻¹,[c⁻¹],_,_,r,rfl,d.kept (t':=c.toks) λ b o e=>Q3 _ e,sG a _,⟨_,Ra _ rfl,rfl,rfl⟩,λ b n=>?_,q⟩;have e:b=c⁻¹:=by simpa using n
 subst e;exact d.qh (Q7 _) (d.hok.fresh (Q7 _))
theorem yw{R:It->Hp->Prop}{E:Value->Shared->Prop}{lo hi:Int}{t u v:Tok}{tk:Nat}(I:Inv X aa Y H s)(h:-(2^62)<=lo)(g:lo<2^62)(f:-(2^62)<=hi)(d:hi<2^62)
  (q:R (Mz lo (hi - lo).toNat) H):wpAny (model X.prog X.w) X.A (pyIter (.ref s⁻¹)) (Pb X aa Y tg R) E {s with heap:=s.heap.push {cls:=.type "range",data:=.fields #[.int lo t,.int hi u,.int 1 v]},toks:=tk}:=by
 refine wpAny_pyIter_range (IsRange.new ..) (small_one h g f d) ?_;have a:Inv X aa Y H {s with heap:=s.heap.push {cls:=.type "range",data:=.fields #[.int lo t,.int hi u,.int 1 v]},toks:=tk}:=I.kept λ b o e=>Q3 _ e;refine⟨(s.heap.push {cls:=.type "range",data:=.fields #[.int lo t,.int hi u,.int 1 v]}).objs.size,[(s.heap.push {cls:=.type "range",data:=.fields #[.int lo t,.int hi u,.int 1 v]}).objs.size],_,_,H,rfl,
  a.kept (t':=tk) λ b o e=>Q3 _ e,sH _ lo (hi - lo).toNat,?_,λ b c=>?_,q⟩
 .have j:lo+((0:Nat):Int)*1=lo:=by simp
  have i:(((hi - lo).toNat:Nat):Int) - ((0:Nat):Int)=Builtin.Range.rangeSize lo hi 1:=by rw[rangeSize_one];split<;>lia
  show IsRangeIter _ _ (lo+((0:Nat):Int)*1) ((((hi - lo).toNat:Nat):Int) - ((0:Nat):Int)) 1;rw[j,i];exact Ra _ rfl
 .have e:b=(s.heap.push {cls:=.type "range",data:=.fields #[.int lo t,.int hi u,.int 1 v]}).objs.size:=by simpa using c
  subst e;exact a.qh (Q7 _) (a.hok.fresh (Q7 _))
def Kv(b:TA):TI:=fun Y H R=>b Y H λ a c=>∃j:Int,a=[.int j]/\-(2^62)<=j/\j<2^62/\R (Mz 0 j.toNat) c
theorem wB{a:Expr}{c:TA}{p pos:Pos}(l:Gl X "range")(k:X.mg "range"=none)(m:PA X [a] c)(i:starEach [a] X.env=[(false,eval a X.env)]:=by rfl):PI X tg (.Call (.Name "range" p) [a] [] pos) (Kv c):=by
 intro aa s Y H R I h;refine Call_ (iE I l k boot_range (SN (bF (m pos aa s Y H _ I h) λ u v ⟨o,w,n,f,b⟩=>?_) i rfl));let⟨j,e,b,g,q⟩:=b;subst e;cases f with
 |cons r d=>
  cases d;let⟨t,rfl⟩:=r;exact call_range_1 (yw n 'o' 'o' b g (~~~q))
def Nm(f:TI)(g:TG)(tb:TS):TS:=λ D Y H=>f Y H λ d j=>∃W:Nat->Nat->St->Hp->Prop,(∃m,W 0 m Y j)/\∀i m Y H,W i m Y H->
 (d.stop i H/\D.nx Y H)\/(d.go i H/\∃N:St->Hp->Prop,(∀a b,N a b->∃e,e<m/\W (i+1) e a b)/\∀x b,d.yld i H x b->g x Y b fun c h=>tb {D with nx:=N,ct:=N,bk:=D.nx} c h)
def kP(fp:List Addr)(h:Heap):List (Addr×Obj):=fp.filterMap λ b=>(h.get? b).map λ o=>(b,o)
theorem fT{h:Heap}{b:Addr}{o:Obj}(a:b∈fp)(e:h.get? b=some o):(b,o)∈kP fp h:=List.mem_filterMap.mpr ⟨b,a,by rw[e];rfl⟩
theorem wC{h:Heap}{p:Addr×Obj}(a:p∈kP fp h):p.1∈fp/\h.get? p.1=some p.2:=by
 let⟨b,c,e⟩:=List.mem_filterMap.mp a;cases q:h.get? b with
 |none=>rw[q] at e;cases e
 |some o=>
  rw[q] at e;have d:(b,o)=p:=R1 e;subst d;exact⟨c,q⟩
theorem Inv.pinned(I:Inv X aa Y H s)(g:∀b∈fp,jj X aa H b)(ho:∀b∈fp,∃o,s.heap.get? b=some o/\∀v,o.data≠.cell v):Inv X (aa++kP fp s.heap) Y H s:=
 I.uu λ p f=>(RC.mp f).elim (λ z=>I.pin p (RB _ z)) λ z=>by
  let⟨a,e⟩:=wC z;let⟨j,i,h,_⟩:=g p.1 a;let⟨o,c,d⟩:=ho p.1 a;rw[e] at c;cases c;exact⟨e,j,i,h,d⟩
theorem Inv.iK{a:List (Addr×Obj)}(I:Inv X (aa++a) Y H s):Inv X aa Y H s:=I.uu λ p b=>I.pin p (RB _ (RJ _ b))
theorem Gz{j:Expr}{body:List Stmt}{R:TI}{g:TG}{tb:TS}{pos:Pos}(G:PassesOwn (model X.prog X.w) X.A X.env X.xe)(hc:X.calm=true)(hi:PI X tg j R)(hg:PG X tg g)(k:iD X body tb)
  (hs:∀x,foldedSetIterable j X.env x=pure x:=by intro _;rfl):PS X (.For tg j body [] pos) (Nm R g tb):=by
 intro aa s Y H D I h;refine wpAny_For (bF (hi aa s Y H _ I h) λ v s1 h1=>bF h1 λ itv s2 h2=>?_) hs;let⟨it,fp,S,QZ,H2,e,I2,T,M,f2,W,⟨m0,w0⟩,C⟩:=h2;subst e;have c:∀{y:Hp},(∀b∈fp,y b=none)->∀b∈fp,jj X aa y b:=λ hn b k=>⟨hn b k,(f2 b k).2⟩;refine codeAny_forLoop_any (λ n Z=>∃i a y,Inv X aa a y Z/\S i Z.heap/\(∀b∈fp,y b=none)/\W i n a y) ?_ m0 ⟨0,Y,H2,I2,M,λ b k=>(f2 b k).1,w0⟩;rintro n V ⟨i,K,L,I3,E,J,w3⟩;rcases C i n K L w3 with⟨stop,qn⟩ | ⟨go,N,hN,step⟩
 .refine Tt G (bF (T.done X rfl rfl rfl hc i aa V K L X.xe I3 (c J) E stop) λ r s4 ⟨P,I4⟩=>?_);subst P;exact U6 ⟨K,L,I4,qn⟩
 .refine Tt G (bF (T.item X rfl rfl rfl hc i aa V K L X.xe I3 (c J) E go) λ r s4 ⟨u,P,h4⟩=>?_);subst P;refine Tt G (bF h4 λ _ U ⟨x,H5,I5,r5,y5,B,Q⟩=>?_);have Qg:=I5.pinned (c Q) (T.obj _ _ B);refine Tt G (bF (hg _ U K H5 x u _ Qg r5 (step x H5 y5)) λ _ s6 ⟨Y6,H6,I6,q6⟩=>?_);refine Tt G (bF (k _ s6 Y6 H6 _ I6 q6) λ f O z=>?_);have l:∀{p:St} {t:Hp},Inv X (aa++kP fp U.heap) p t O->N p t->Exists λ m=>m<n/\∃i a y,Inv X aa a y O/\S i O.heap/\(∀b∈fp,y b=none)/\W i m a y:=λ {p t} q F=>by
   let⟨m',hm,w7⟩:=hN p t F;refine⟨m',hm,i+1,p,t,q.iK,T.keep _ _ _ B λ b k o e=>(q.pin (b,o) (RB _ (RB _ (fT k e)))).1,λ b k=>?_,w7⟩;let⟨o,e,d⟩:=T.obj _ _ B b k;exact(q.pin (b,o) (RB _ (RB _ (fT k e)))).2.1
  cases f with
  |next=>let⟨p,t,q,F⟩:=z;exact l q F
  |cont=>let⟨p,t,q,F⟩:=z;exact l q F
  |brk=>let⟨p,t,q,z⟩:=z;exact⟨p,t,q.iK,z⟩
  |ret v=>let⟨x7,p,t,q,r7,z⟩:=z;exact⟨x7,p,t,q.iK,r7,z⟩
end
end L2
namespace L2
open PySem PySem.Spec PyProof.Rows List
variable{f:Value->Value->Sem Value}{op:CmpOp}
abbrev R2:=V->V->Hp->VK->Prop
def fU(X:Cx)(f:Value->Value->Sem Value)(r:R2):Prop:=
 ∀(a:List (Addr×Obj)) (s:Shared) (Y:St) (H:Hp) (x y:V) (v u:Value) (Q:VK),Inv X a Y H s->RelV x v->RelV y u->r x y H Q->
  wpAny (model X.prog X.w) X.A (f v u) (EP X a Y Q) X.xe s
def Nn(X:Cx)(f:Value->Sem Value)(r:V->Hp->VK->Prop):Prop:=
 ∀(a:List (Addr×Obj)) (s:Shared) (Y:St) (H:Hp) (x:V) (v:Value) (Q:VK),Inv X a Y H s->RelV x v->r x H Q->
  wpAny (model X.prog X.w) X.A (f v) (EP X a Y Q) X.xe s
def cj(X:Cx)(f:Value)(r:List V->Hp->VK->Prop):Prop:=
 ∀(c:List (Addr×Obj)) (s:Shared) (Y:St) (H:Hp) (a:List V) (b:List Value) (Q:VK),Inv X c Y H s->Vals a b->r a H Q->
  wpAny (model X.prog X.w) X.A (call f b) (EP X c Y Q) X.xe s
def Np(X:Cx)(r:V->Hp->(Bool->Hp->Prop)->Prop):Prop:=
 ∀(a:List (Addr×Obj)) (s:Shared) (Y:St) (H:Hp) (x:V) (v:Value) (Q:Bool->Hp->Prop),Inv X a Y H s->RelV x v->r x H Q->
  wpAny (model X.prog X.w) X.A (truthy v) (TP X a Y Q) X.xe s
def MA(r:R2)(a tb:TE):TE:=fun Y H Q=>a Y H λ x c=>tb Y c λ y b=>r x y b Q
def Qh(r:V->Hp->VK->Prop)(a:TE):TE:=fun Y H Q=>a Y H λ x b=>r x b Q
def rI(C:Int->Int->Prop)(g:Int->Int->V):R2:=λ x y H Q=>∃i j,x=.int i/\y=.int j/\C i j/\Q (g i j) H
def Eu(g:Int->Int->V):R2:=λ x y H Q=>∃i j,x=.int i/\y=.int j/\Q (g i j) H
def rU(g:Int->V):V->Hp->VK->Prop:=λ x H Q=>∃i,x=.int i/\Q (g i) H
section
variable{X:Cx}{a b c:Expr}{ta tb tc:TE}{pos:Pos}
theorem GA(t:PE X a ta)(r:PE X b tb){j:List (Addr×Obj)}{s:Shared}{Y:St}{H:Hp}{R:V->V->Hp->Prop}(I:Inv X j Y H s)
  (h:ta Y H λ x k=>tb Y k λ y d=>R x y d) {Q:Value->Shared->Prop}
  (q:∀v u i x y d,Inv X j Y d i->RelV x v->RelV y u->R x y d->wpAny (model X.prog X.w) X.A (f v u) Q X.xe i) :
  wpAny (model X.prog X.w) X.A (eval a X.env) (λ v g=>wpAny (model X.prog X.w) X.A (eval b X.env) (λ u e=>wpAny (model X.prog X.w) X.A (f v u) Q X.xe e) X.xe g) X.xe s:=by
 refine bF (t j s Y H _ I h) λ v l ⟨x,k,B,n,p⟩=>?_;refine bF (r j l Y k _ B p) λ u i ⟨y,d,z,m,o⟩=>?_;exact q v u i x y d z n m o
theorem Kw{op:Operator}{r:R2}(ho:fU X (binaryOp op) r)(j:PE X a ta)(i:PE X b tb):PE X (.BinOp a op b pos) (MA r ta tb):=by
 intro k s Y H Q I h;exact wpAny_BinOp (GA j i I h λ v u d x y m l g e q=>ho k d Y m x y v u Q l g e q)
theorem Ky{op:UnaryOp}{r:V->Hp->VK->Prop}(ho:Nn X (unaryOp op) r)(j:PE X a ta):PE X (.UnaryOp op a pos) (Qh r ta):=by
 intro d s Y H Q I h;exact UnaryOp_ (bF (j d s Y H _ I h) λ v e ⟨x,l,k,g,i⟩=>ho d e Y l x v Q k g i)
theorem MB{C:Int->Int->Prop}{g:Int->Int->Int}
  (d:∀(i j:Int) (t u:Tok) (s:Shared) (Q:Value->Shared->Prop) (E:Value->Shared->Prop),C i j->Q (.int (g i j) s.toks) {s with toks:=s.toks+1}->wpAny (model X.prog X.w) X.A (f (.int i t) (.int j u)) Q E s) :
  fU X f (rI C λ i j=>.int (g i j)):=by
 intro n s Y H x y v u Q I l k h;let⟨i,j,rfl,rfl,m,q⟩:=h;let⟨t,rfl⟩:=l;let⟨e,rfl⟩:=k;exact d i j t e s _ _ m ⟨.int (g i j),H,I.tok _,⟨_,rfl⟩,q⟩
theorem Kz{g:Int->Int->Int}
  (d:∀(i j:Int) (t u:Tok) (s:Shared) (Q:Value->Shared->Prop) (E:Value->Shared->Prop),Q (.int (g i j) s.toks) {s with toks:=s.toks+1}->wpAny (model X.prog X.w) X.A (f (.int i t) (.int j u)) Q E s) :
  fU X f (Eu λ i j=>.int (g i j)):=by
 intro m s Y H x y v u Q I l k h;let⟨i,j,rfl,rfl,q⟩:=h;let⟨t,rfl⟩:=l;let⟨e,rfl⟩:=k;exact d i j t e s _ _ ⟨.int (g i j),H,I.tok _,⟨_,rfl⟩,q⟩
theorem BY{g:Int->Int->Bool}
  (d:∀(i j:Int) (t u:Tok) (s:Shared) (Q:Value->Shared->Prop) (E:Value->Shared->Prop),Q (.bool (g i j)) s->wpAny (model X.prog X.w) X.A (f (.int i t) (.int j u)) Q E s) :
  fU X f (Eu λ i j=>.bl (g i j)):=by
 intro m s Y H x y v u Q I l k h;let⟨i,j,rfl,rfl,q⟩:=h;let⟨t,rfl⟩:=l;let⟨e,rfl⟩:=k;exact d i j t e s _ _ ⟨.bl (g i j),H,I,rfl,q⟩
def KA(i j:Int):Prop:=0<j/\j<1073741824
def Nq(i j:Int):Prop:=0<=j/\j<=1000000/\i.natAbs<2^64
def BZ(i j:Int):Prop:=(-(2^64)<i/\i<2^64)\/(-(2^64)<j/\j<2^64)
theorem BZ.ok{i j:Int}(h:BZ i j):IntMulOk i j:=by
 rcases h with⟨e,d⟩ | ⟨e,d⟩
 .exact .of_left (intBits_le_64 e d)
 .exact .of_right (intBits_le_64 e d)
theorem GB:fU X (binaryOp .Add) (Eu λ i j=>.int (i+j)):=Kz λ _ _ _ _ _ _ _ q=>add_int q
theorem GC:fU X (binaryOp .Sub) (Eu λ i j=>.int (i - j)):=Kz λ _ _ _ _ _ _ _ q=>sub_int q
theorem GD:fU X (binaryOp .Mult) (rI BZ λ i j=>.int (i*j)):=MB λ _ _ _ _ _ _ _ d q=>mul_int q d.ok
theorem B9:fU X (binaryOp .FloorDiv) (rI KA λ i j=>.int (i / j)):=MB λ i j _ _ _ _ _ d q=>by
 have g:(0:Int)<j:=d.1;have e:j<1073741824:=d.2;exact floordiv_int 'o' (by rw[Ut i 'o'];exact q) (.inl (UU 'o'))
theorem GF:fU X (binaryOp .Mod) (rI (λ _ j=>0<j) λ i j=>.int (i%j)):=MB λ i j _ _ _ _ _ d q=>by
 have e:(0:Int)<j:=d;exact mod_int' 'o' (by rw[Uu i 'o'];exact q)
theorem GG:fU X (binaryOp .Pow) (rI Nq λ i j=>.int (i^j.toNat)):=MB λ _ _ _ _ _ _ _ d q=>pow_int_small d.1 d.2.1 d.2.2 q
theorem Qi{f:Value->Sem Value}{g:Int->Int}
  (d:∀(i:Int) (t:Tok) (s:Shared) (Q:Value->Shared->Prop) (E:Value->Shared->Prop),Q (.int (g i) s.toks) {s with toks:=s.toks+1}->wpAny (model X.prog X.w) X.A (f (.int i t)) Q E s) :
  Nn X f (rU λ i=>.int (g i)):=by
 intro j s Y H x v Q I e h;let⟨i,rfl,q⟩:=h;let⟨t,rfl⟩:=e;exact d i t s _ _ ⟨.int (g i),H,I.tok _,⟨_,rfl⟩,q⟩
theorem GH:Nn X (unaryOp .USub) (rU λ i=>.int (-i)):=Qi λ _ _ _ _ _ q=>neg_int q
end
section
variable{X:Cx}{a b c:Expr}{ta tb tc:TE}{pos:Pos}
theorem sI{g:List (Addr×Obj)}{Y:St}{H:Hp}{s:Shared}{Q:VK}{k d:Bool}(I:Inv X g Y H s)(q:Q (.bl k) H)(e:k=d):EP X g Y Q (.bool d) s:=by
 subst e;exact⟨.bl k,H,I,rfl,q⟩
theorem KC:fU X (compareOp .Lt) (Eu λ i j=>.bl (decide (i<j))):=BY λ _ _ _ _ _ _ _ q=>lt_int q
theorem KD:fU X (compareOp .LtE) (Eu λ i j=>.bl (decide (i<=j))):=BY λ _ _ _ _ _ _ _ q=>le_int q
theorem KG:fU X (compareOp .Gt) (Eu λ i j=>.bl (decide (j<i))):=BY λ _ _ _ _ _ _ _ q=>gt_int q
theorem KH:fU X (compareOp .GtE) (Eu λ i j=>.bl (decide (j<=i))):=BY λ _ _ _ _ _ _ _ q=>ge_int q
theorem GI:fU X (compareOp .Is) (λ x y H Q=>y=.non/\Q (.bl (decide (x=.non))) H):=by
 intro g s Y H x y v u Q I d e h;let⟨rfl,q⟩:=h;cases e;refine is_none_gen (sI I q ?_);cases x<;>first
  |(cases d;rfl)
  |(let⟨t,rfl⟩:=d;rfl)
theorem Ca:fU X (compareOp .IsNot) (λ x y H Q=>y=.non/\Q (.bl (!decide (x=.non))) H):=by
 intro g s Y H x y v u Q I d e h;let⟨rfl,q⟩:=h;cases e;refine isnot_none_gen (sI I q ?_);cases x<;>first
  |(cases d;rfl)
  |(let⟨t,rfl⟩:=d;rfl)
theorem uy{r:R2}(ho:fU X (compareOp op) r)(k:PE X a ta)(j:PE X b tb)(i:behindInMarks op b=false):PE X (.Compare a [op] [b] pos) (MA r ta tb):=by
 intro l s Y H Q I h;exact wpAny_Compare1 (GA k j I h λ v u d x y n m g e q=>ho l d Y n x y v u Q m g e q) i
def Ew(t:TE):TT:=fun Y H Q=>t Y H λ x d=>∃k,x=.bl k/\Q k d
theorem uz{r:R2}(ho:fU X (compareOp op) r)(w:PE X a ta)(t:PE X b tb)(q:behindInMarks op b=false):PT X (.Compare a [op] [b] pos) (Ew (MA r ta tb)):=by
 intro d s Y H Q I h;refine wpAny_isTrue_Compare1 (bF (w d s Y H _ I h) λ v i ⟨x,F,C,m,p⟩=>bF (t d i Y F _ C p) λ u g ⟨y,E,B,l,o⟩=>
  bF (ho d g Y E x y v u _ B m l o) λ c G ⟨z,D,A,j,k,e,n⟩=>?_) q
 subst e;cases j;exact Se ⟨D,A,n⟩
def sJ(r g:R2)(ta tb tc:TE):TE:=fun Y H Q=>ta Y H λ x j=>tb Y j λ y i=>r x y i λ z d=>∃k,z=.bl k/\
 (if k=true then tc Y d λ e h=>g y e h Q else Q (.bl false) d)
theorem yx{g:CmpOp}{r m:R2}(ho:fU X (compareOp op) r)(j:fU X (compareOp g) m)(O:PE X a ta)(N:PE X b tb)(M:PE X c tc)
  (L:lastMarks [op,g] [b,c]=false:=by with_unfolding_all rfl):PE X (.Compare a [op,g] [b,c] pos) (sJ r m ta tb tc):=by
 intro i s Y H Q I h;refine Compare_chain (bF (O i s Y H _ I h) λ v C ⟨x,V,S,F,K⟩=>chain_link (bF (N i C Y V _ S K) λ u B ⟨y,U,R,l,J⟩=>
  bF (ho i B Y U x y v u _ R F l J) λ d A ⟨z,p,o,E,k,e,n⟩=>?_)) L
 subst e;cases E;refine Se ?_;cases k with
 |false=>exact ite_ff ⟨.bl false,p,o,rfl,n⟩
 |true=>exact ite_tt (chain_last (bF (M i A Y p _ o n) λ t w ⟨q,T,P,D,G⟩=>j i w Y T y q u t Q P l D G))
theorem yy{g:CmpOp}{r m:R2}(ho:fU X (compareOp op) r)(j:fU X (compareOp g) m)(S:PE X a ta)(R:PE X b tb)(P:PE X c tc)
  (O:lastMarks [op,g] [b,c]=false:=by with_unfolding_all rfl):PT X (.Compare a [op,g] [b,c] pos) (Ew (sJ r m ta tb tc)):=by
 intro i s Y H Q I h;refine isTrue_chain (bF (S i s Y H _ I h) λ v C ⟨x,H1,I1,G,M⟩=>test_link (bF (R i C Y H1 _ I1 M) λ u B ⟨y,H2,Z,l,L⟩=>
  bF (ho i B Y H2 x y v u _ Z G l L) λ d A ⟨z,p,o,F,k,e,n⟩=>?_)) O
 subst e;cases F;refine Se ?_;cases k with
 |false=>
  let⟨k',U,N⟩:=n;cases U;exact ite_ff ⟨p,o,N⟩
 |true=>
  refine ite_tt (test_last (bF (P i A Y p _ o n) λ t w ⟨q,H4,W,E,K⟩=>bF (j i w Y H4 y q u t _ W l E K) λ d' s5 ⟨z2,H5,V,D,k2,T,J⟩=>?_));subst T;cases D;exact Se ⟨H5,V,J⟩
def Cb(K:ae)(x:V)(H:Hp)(k:Bool):Prop:=
 match x with
 |.non=>k=false
 |.bl b=>k=b
 |.int i=>k=(i != 0)
 |.str y=>y.length<=sizeLine/\k=((y.length:Int) != 0)
 |.byt y=>y.size<=sizeLine/\k=((y.size:Int) != 0)
 |.ref p=>(∃d,fS K H p d/\k=!d.isEmpty)\/(∃d,dw K H p d/\k=!d.isEmpty)\/∃e,H p=some (.dK e)/\k=!e.isEmpty
 |_=>False
theorem sL{e:Type}{d:List (e×V)}{vs:List (e×Value)}(r:KV d vs):(!vs.isEmpty)=!d.isEmpty:=by
 cases r<;>rfl
theorem kQ{xs:List V}{its:List Value}(r:Vals xs its):(!its.toArray.isEmpty)=!xs.isEmpty:=by
 cases r<;>simp
theorem gy:(sizeLine:Nat)<2^63:=by rw[S3];decide
theorem yz:Np X (λ x H Q=>∃k,Cb X.K x H k/\Q k H):=by
 intro G s Y H x v Q I n h;let⟨k,e,q⟩:=h;have F:=gy;have E:sizeLine=16777216:=S3;cases x with
 |non=>
  cases n;have d:k=false:=e;subst d;exact truthy_none ⟨H,I,q⟩
 |bl b=>
  cases n;have d:k=b:=e;subst d;exact Se ⟨H,I,q⟩
 |int i=>
  let⟨t,rfl⟩:=n;have d:k=(i != 0):=e;subst d;exact PySem.P.truthy_int ⟨H,I,q⟩
 |str y=>
  let⟨t,rfl⟩:=n;obtain⟨C,d⟩:y.length<=sizeLine/\k=((y.length:Int) != 0):=e;subst d;exact PySem.P.truthy_str 'o' ⟨H,I.tok _,q⟩
 |byt y=>
  let⟨t,rfl⟩:=n;obtain⟨C,d⟩:y.size<=sizeLine/\k=((y.size:Int) != 0):=e;subst d;exact PySem.W.truthy_bytes 'o' ⟨H,I.tok _,q⟩
 |ref p=>
  cases n;have d:(∃l,fS X.K H p l/\k=!l.isEmpty)\/(∃l,dw X.K H p l/\k=!l.isEmpty)\/∃g,H p=some (.dK g)/\k=!g.isEmpty:=e;rcases d with⟨l,o,d⟩ | ⟨l,o,d⟩ | ⟨g,o,d⟩
  .subst d;let⟨A,r,z,B⟩:=I.list o;have j:=r.length;exact wpAny_truthy_list z.isList (by erw[Q9];lia) ⟨H,I.tok _,by rw[kQ r];exact q⟩
  .subst d;let⟨A,r,z,B⟩:=I.tuple o;have j:=r.length;exact truthy_tuple z (by erw[Q9];lia) ⟨H,I.tok _,by rw[kQ r];exact q⟩
  .subst d;obtain⟨B,D,u,r,m⟩:g.length<=sizeLine/\(p==sysModules)=false/\∃u,KV g u/\s.heap.DictOf (aW X.prog X.w) p u:=I.hok p _ o;have j:g.length=u.length:=Vj r;exact wpAny_truthy_dict D m 'o' ⟨H,I.tok _,by rw[sL r];exact q⟩
 |_=>exact(show False from e).elim
theorem yC(n:PE X a ta)(m:∀d,isTrue a X.env d=(do let v <-d;standAt a.pos;holding [v] (truthy v))) :
  PT X a (fun Y H Q=>ta Y H λ x g=>∃k,Cb X.K x g k/\Q k g):=by
 intro e s Y H Q I h;exact isTrue_plain (bF (n e s Y H _ I h) λ v i ⟨x,p,o,j,l⟩=>yz e i Y p x v Q o j l) (m _)
theorem vals1{x:V}{us:List Value}(r:Vals [x] us):∃u,us=[u]/\RelV x u:=by
 cases r with
 |cons e d=>cases d;exact⟨_,rfl,e⟩
theorem vals2{x y:V}{us:List Value}(r:Vals [x,y] us):∃u d,us=[u,d]/\RelV x u/\RelV y d:=by
 cases r with
 |cons i h=>
  cases h with
  |cons g e=>cases e;exact⟨_,_,rfl,i,g⟩
theorem yD:cj X (.builtin "abs") (λ xs H Q=>∃i,xs=[.int i]/\Q (.int (if i<0 then -i else i)) H):=by
 intro g s Y H xs d Q I r h;let⟨i,rfl,q⟩:=h;let⟨u,rfl,t,rfl⟩:=vals1 r;exact call_abs_int λ u e=>⟨.int (if i<0 then -i else i),H,I.tok _,⟨_,rfl⟩,q⟩
theorem wD(e:X.calm=true):cj X (.builtin "max") (λ xs H Q=>∃i j,xs=[.int i,.int j]/\Q (.int (if j>i then j else i)) H):=by
 intro p s Y H xs l Q I r h;let⟨i,j,rfl,q⟩:=h;let⟨u,g,rfl,⟨t,rfl⟩,⟨n,rfl⟩⟩:=vals2 r;refine max_two_ints (I.ok.hd e) λ o m k=>⟨_,H,I.kept k,?_,q⟩
 by_cases d:j>i
 .rw[Rf d,Rf d];exact⟨_,rfl⟩
 .rw[Ri d,Ri d];exact⟨_,rfl⟩
theorem wF(e:X.calm=true):cj X (.builtin "min") (λ xs H Q=>∃i j,xs=[.int i,.int j]/\Q (.int (if j<i then j else i)) H):=by
 intro p s Y H xs l Q I r h;let⟨i,j,rfl,q⟩:=h;let⟨u,g,rfl,⟨t,rfl⟩,⟨n,rfl⟩⟩:=vals2 r;refine min_two_ints (I.ok.hd e) λ o m k=>⟨_,H,I.kept k,?_,q⟩
 by_cases d:j<i
 .rw[Rf d,Rf d];exact⟨_,rfl⟩
 .rw[Ri d,Ri d];exact⟨_,rfl⟩
theorem mU:cj X (.type "int") (λ xs H Q=>(∃i,xs=[.int i]/\Q (.int i) H)\/∃k,xs=[.bl k]/\Q (.int (if k then 1 else 0)) H):=by
 intro g s Y H xs e Q I r h;rcases h with⟨i,rfl,q⟩ | ⟨k,rfl,q⟩
 .let⟨u,rfl,t,rfl⟩:=vals1 r;exact call_int_int ⟨.int i,H,I,⟨_,rfl⟩,q⟩
 .let⟨u,rfl,d⟩:=vals1 r;cases d;exact call_int_bool ⟨.int (if k then 1 else 0),H,I.tok _,⟨_,rfl⟩,q⟩
theorem qj:cj X (.builtin "divmod") (λ xs H Q=>∃i j,xs=[.int i,.int j]/\KA i j/\∀p,H p=none->Q (.ref p) (upd H p (.tup [.int (i / j),.int (i%j)]))):=by
 intro v s Y H xs k Q I r h;let⟨i,j,rfl,⟨n,m⟩,q⟩:=h;let⟨u,g,rfl,⟨t,rfl⟩,⟨l,rfl⟩⟩:=vals2 r;refine divmod_int 'o' ?_ (.inl (UU 'o'));rw[Ut i 'o',Uu i 'o'];have d:H s⁻¹=none:=I.hok.fresh (Q7 _);refine⟨.ref s⁻¹,_,?_,rfl,q _ d⟩;refine I.laid (λ b o e=>Q3 _ e) (Q7 _) ⟨by erw[RD,Uv];rw[S3];decide,[.int (i / j) s.toks,.int (i%j) (s.toks+1)],.cons ⟨_,rfl⟩ %[|⟨_,rfl⟩],?_⟩;exact⟨_,Ra s.heap rfl,⟨rfl,rfl⟩,0,rfl⟩
end
end L2
namespace L2
open PySem PySem.Spec PyProof.Rows List
variable{C:Addr}
structure qk(h:Heap)(x dx C:Addr)(mA:Str->Option Value):Prop where
 obj:h.get? x=@(PySem.W.instObj C dx)
 ns:h.Ns1 dx mA
 ne:dx≠x
theorem wG{h:Heap}{dx:Addr}{d:Str->Option Value}(n:h.Ns1 dx d):∃c,h.get? dx=some c/\∀name,PySem.W.lookIn name c=some (d name):=by
 let⟨o,f,p,i,l,k,_,j⟩:=n;refine⟨o,i,λ name=>?_⟩;have e:=j name;unfold nsFind findBy at e;rw[<-Array.find?_toList] at e;unfold PySem.W.lookIn;rw[l];dsimp only;split
 .ext y q;rw[q] at e;exact TR some e
 .ext q;rw[q] at e;have a:f.toList.any (·.refKey)=false:=by
   rw[Vt];intro y g;let⟨z,t,b⟩:=k y (Array.mem_toList_iff.mp g);simp[DictEntry.refKey,b]
  have m:¬f.toList.any (·.refKey)=true:=by rw[a];exact R4
  rw[Ri m];exact TR some e
theorem qk.look{h:Heap}{x dx:Addr}{b:Str->Option Value}(I:qk h x dx C b):∃a,PySem.W.InstAt h x (PySem.W.instObj C dx) C (some a)/\∀name,PySem.W.lookIn name a=some (b name):=
 let ⟨a,c,d⟩:=wG I.ns
 ⟨a,⟨I.obj,rfl,rfl,c⟩,d⟩
section
variable{prog:Program}{w:World}{A:Around}{E:Value->Shared->Prop}{s:Shared}{K:ae}{x dx C f:Addr}{mA:Str->Option Value}{name:Str}{v:Value}
theorem get_map{a:Bool}{Q:Value->Shared->Prop}(X:K.In s.heap)(I:qk s.heap x dx C mA)(g:PySem.W.plainGet K C name=true)(e:PySem.W.hasDictIn K C=true)
  (i:PySem.W.findIn K (.ref C) name=some none) (c:mA name=some v) (b:PySem.W.handedIn v=true) (h:Q v {s with toks:=s.toks+1}) :
  wpAny (model prog w) A (getAttr (.ref x) name a) Q E s:=by
 let⟨k,j,d⟩:=I.look;exact PySem.W.get_value X j (Uk g).1 (PySem.W.findObj_own e i rfl (by rw[d,c])) b h
theorem yE{b:Sem Bool}{Q:Value×List Value->Shared->Prop}(X:K.In s.heap)(I:qk s.heap x dx C mA)(a:PySem.W.plainGet K C name=true)
  (i:PySem.W.findIn K (.ref C) name=@(some (.ref f))) (e:PySem.W.isFn K (.ref f)=true) (d:mA name=none) (h:Q (.ref f,[.ref x]) s) :
  wpAny (model prog w) A (getMethod (.ref x) name b) Q E s:=by
 let⟨c,j,g⟩:=I.look;exact PySem.W.method_fn X j (Uk a).1 (Uk a).2 i (RT.mp e) (by show (PySem.W.lookIn name c).map (·.isSome)=some false;rw[g,d];rfl) h
theorem Cd{ns:List Str}{Q:Unit->Shared->Prop}(X:K.In s.heap)(I:qk s.heap x dx C mA)
  (o:PySem.W.findIn K (.ref C) "__setattr__"=@(some (.builtin "object.__setattr__"))) (p:PySem.W.plainOver K C=true) (m:PySem.W.takerIn K C name=some none) (q:PySem.W.hasDictIn K C=true)
  (hw:PySem.Within mA ns) (n:ns.length<=sizeLine)
  (h:∀h',qk h' x dx C (λ y=>if y=name then some v else mA y)->Heap.SameBut dx s.heap h'->Q () {s with heap:=h',toks:=s.toks+2}) :
  wpAny (model prog w) A (setAttr (.ref x) name v) Q E s:=by
 let⟨B,k,F⟩:=I.look;refine PySem.W.set_plain X k o (PySem.W.osa_open (s:={s with toks:=s.toks+1}) (r:=none) X k p m λ b=>?_);let⟨G,t,i⟩:=PySem.W.any_some q;have l:s.heap.get? x=some ⟨.ref C,some dx,.plain,#[]⟩:=I.obj;refine Q2 (Q8 (Q2 (Q2 (wpAny_loadPart l (Q2 (PySem.W.Looks.here (s:={s with toks:=s.toks+1}) (PySem.W.looks_clsIn X t) ?_))))));rw[i];refine Q8 (a:=some dx) (Q2 (Q8 (Q2 ?_)));refine wpAny_nsSet1 (s:={s with toks:=s.toks+1}) I.ns λ h' d c=>?_;let⟨D,u,z,e,g,j⟩:=d.count (PySem.Within.cons name v hw);refine Q2 (wpAny_lookBehind e (by rw[g];exact pastItsLine_dict (Rv j (by rw[RD];lia))) ?_);exact Q8 (h _ ⟨(c.2 _ (Ne.symm I.ne)).trans I.obj,d,I.ne⟩ c)
theorem yF{R:Result->Shared->Prop}{vs:List Value}{b:List (Str×Value)}(X:K.In s.heap)(c:PySem.W.makesIn K C=true)
  (hi:PySem.W.findIn K (.ref C) "__init__"=@(some (.ref f))) (e:PySem.W.typeIn K (.ref f)=@(.type "function"))
  (h:codeAny (model prog w) (A.under (.builtin "type.__call__" ⟨.ref C::vs,b⟩)) (.call (.ref f) ⟨.ref (s⁻¹+1)::vs,b⟩) (PySem.W.InitBack (s⁻¹+1) R)
   {s with heap:=(s.heap.push PySem.W.emptyDict).push (PySem.W.instObj C s⁻¹)}) :
  codeAny (model prog w) A (.call (.ref C) ⟨vs,b⟩) R s:=by
 let⟨j,g,d,t,i⟩:=s;exact PySem.W.make_core (PySem.W.makes_of X c) (R5 X hi) (λ a=>PySem.W.bind_fn X a e) (.inl rfl) h
end
def d7(f:Str)(v:V):List (Str×V)->List (Str×V)
 | []=>[(f,v)]
 |(g,x)::r=>if g=f then (g,v)::r else (g,x)::d7 f v r
theorem jT(f g:Str)(v:V):∀c:List (Str×V),(d7 f v c).lookup g=if g=f then some v else c.lookup g
 | []=>by
  show List.lookup g [(f,v)]=_
  by_cases h:g=f
  .have a:(g==f)=true:=RT.mpr h;erw[List.lookup,a,Rf h]
  .have a:(g==f)=false:=SK.mpr h;erw[List.lookup,a,Ri h]
 |(k,x)::r=>by
  have d:=jT f g v r;rw[show d7 f v ((k,x)::r)=(if k=f then (k,v)::r else (k,x)::d7 f v r) from rfl]
  by_cases b:k=f
  .rw[Rf b]
   by_cases h:g=k
   .have a:(g==k)=true:=RT.mpr h;erw[List.lookup,a,Rf (h.trans b)]
   .have a:(g==k)=false:=SK.mpr h;erw[List.lookup,a,Ri (λ e:g=f=>h (e.trans b.symm))]
  .rw[Ri b]
   by_cases h:g=k
   .have a:(g==k)=true:=RT.mpr h;erw[List.lookup,a,Ri (λ e:g=f=>b (h.symm.trans e))]
   .have a:(g==k)=false:=SK.mpr h;erw[List.lookup,a];exact d
theorem jk(f:Str)(v:V):∀b:List (Str×V),f∈(d7 f v b).map (·.1)/\∀g,g∈b.map (·.1)->g∈(d7 f v b).map (·.1)
 | []=>⟨by simp[d7],λ g h=>by simp at h⟩
 |(k,x)::r=>by
  let⟨d,c⟩:=jk f v r;rw[show d7 f v ((k,x)::r)=(if k=f then (k,v)::r else (k,x)::d7 f v r) from rfl]
  by_cases a:k=f
  .rw[Rf a];subst a;exact⟨by simp,λ g h=>by simpa using h⟩
  .rw[Ri a];refine⟨?_,λ g h=>?_⟩
   .rw[RU];exact Ro _ d
   .rw[RU] at h ⊢;rcases Rk.mp h with e | e
    .exact Rk.mpr (.inl e)
    .exact Ro _ (c g e)
theorem jU(f:Str)(v:V):∀b:List (Str×V),(d7 f v b).length<=b.length+1
 | []=>by simp[d7]
 |(k,x)::r=>by
  have c:=jU f v r;rw[show d7 f v ((k,x)::r)=(if k=f then (k,v)::r else (k,x)::d7 f v r) from rfl]
  by_cases a:k=f
  .rw[Rf a,RD,RD];lia
  .rw[Ri a,RD,RD];lia
theorem eN.some_of{v:V}{o:Option Value}(r:eN (some v) o):∃u,o=some u/\RelV v u:=by
 cases o with
 |none=>exact(show False from r).elim
 |some u=>exact⟨u,rfl,r⟩
theorem eN.none_of{o:Option Value}(r:eN none o):o=none:=by
 cases o with
 |none=>rfl
 |some u=>exact(show False from r).elim
theorem mV{v:V}{u:Value}(r:RelV v u):PySem.W.handedIn u=true:=by
 cases v with
 |non=>cases (show u=Value.none from r);rfl
 |bl b=>cases (show u=Value.bool b from r);rfl
 |int i=>let⟨t,e⟩:=(show ∃t,u=Value.int i t from r);cases e;rfl
 |str x=>let⟨t,e⟩:=(show ∃t,u=Value.str x t from r);cases e;rfl
 |byt b=>let⟨t,e⟩:=(show ∃t,u=Value.bytes b t from r);cases e;rfl
 |g7 b=>let⟨t,e⟩:=(show ∃t,u=Value.float b t from r);cases e;rfl
 |ref a=>cases (show u=Value.ref a from r);rfl
 |ty n=>cases (show u=Value.type n from r);rfl
section
variable{P:Program}{w:World}{H H':Hp}{h h':Heap}{a C dx:Addr}{fs fs':List (Str×V)}
theorem uA(c:fQ P w H h)(e:H a=@(.ins C dx fs)):∃b,qk h a dx C b/\(∀f,eN (fs.lookup f) (b f))/\PySem.Within b (fs.map (·.1))/\fs.length<=1000/\H dx=some (.own a):=by
 let⟨d,z,i,g,b,n,r,q⟩:=(show aX P w H h a (.ins C dx fs) from c a _ e);exact⟨b,⟨g,n,i⟩,r,q,z,d⟩
end
structure wH(K:ae)(C:Addr):Prop where
 pg:PySem.W.plainGet K C Str.empty=true
 hd:PySem.W.hasDictIn K C=true
 po:PySem.W.plainOver K C=true
 sa:PySem.W.findIn K (.ref C) "__setattr__"=@(some (.builtin "object.__setattr__"))
theorem wH.get{K:ae}(c:wH K C)(f:Str):PySem.W.plainGet K C f=true:=c.pg
def gz(K:ae)(C:Addr)(f:Str):Prop:=PySem.W.findIn K (.ref C) f=some none
theorem gz.KI{K:ae}{f:Str}(n:gz K C f):PySem.W.takerIn K C f=some none:=by
 unfold PySem.W.takerIn;rw[show PySem.W.findIn K (.ref C) f=some none from n];rfl
structure Meth(K:ae)(C:Addr)(m:Str)(f:Addr):Prop where
 at_:PySem.W.findIn K (.ref C) m=@(some (.ref f))
 fn:PySem.W.isFn K (.ref f)=true
 kp:PySem.W.keepIn K (.ref f)=true
section
variable{X:Cx}{aa:List (Addr×Obj)}{Y:St}{H:Hp}{s:Shared}{a C dx:Addr}{fs:List (Str×V)}{f:Str}{v:V}{A:Around}{E:Value->Shared->Prop}
theorem sM{y:V}{u:Value}{Q:Unit->Shared->Prop}(I:Inv X aa Y H s)(e:H a=@(.ins C dx fs))(c:wH X.K C)(n:gz X.K C f)(L:fs.length<1000)(p:RelV y u)
  (h:∀j,Inv X aa Y (upd H a (.ins C dx (d7 f y fs))) j->Q () j):wpAny (model X.prog X.w) A (setAttr (.ref a) f u) Q E s:=by
 let⟨k,O,r,i,_,l⟩:=uA I.hok e;have t:(fs.map (·.1)).length<=sizeLine:=by rw[Rn,S3];lia
 refine Cd I.cQ O c.sa c.po n.KI c.hd i t λ G d m=>h _ ?_;have D:∃o,G.get? dx=some o:=let ⟨o,_,_,J,_⟩:=d.ns;⟨o,J⟩;refine I.write (x:=a) (e:=dx) (by rw[e];exact True.intro) (.inr l) (λ b q F z=>(m.2 b F).trans z) D ?_;refine⟨by rw[ao O.ne];exact l,?_,O.ne,d.obj,_,d.ns,λ g=>?_,λ g B=>?_⟩
 .have:=jU f y fs;lia
 .show eN ((d7 f y fs).lookup g) (if g=f then some u else k g);rw[jT]
  by_cases q:g=f
  .rw[Rf q,Rf q];exact p
  .rw[Ri q,Ri q];exact r g
 .by_cases q:g=f
  .rw[q];exact(jk f y fs).1
  .refine(jk f y fs).2 g (i g λ z=>B ?_);show (if g=f then some u else k g)=none;rw[Ri q];exact z
theorem Inv.made(I:Inv X aa Y H s):Inv X aa Y (upd (upd H s⁻¹ (.own (s⁻¹+1))) (s⁻¹+1) (.ins C s⁻¹ []))
  {s with heap:=(s.heap.push PySem.W.emptyDict).push (PySem.W.instObj C s⁻¹)}:=by
 have d:(s.heap.push PySem.W.emptyDict).get? s⁻¹=some PySem.W.emptyDict:=Ra s.heap rfl;have j:((s.heap.push PySem.W.emptyDict).push (PySem.W.instObj C s⁻¹)).get? (s⁻¹+1)=some (PySem.W.instObj C s⁻¹):=by
  have:=Ra (s.heap.push PySem.W.emptyDict) (o:=PySem.W.instObj C s⁻¹) rfl
  rwa [R7] at this
 have i:(s.heap.push PySem.W.emptyDict).Ns s⁻¹ (λ _=>none):=⟨PySem.W.emptyDict,#[],_,d,rfl,(λ e h=>absurd h 's'),λ _=>rfl⟩;have k:=I.laid (a:=s⁻¹) (o:=.own (s⁻¹+1)) (h':=s.heap.push PySem.W.emptyDict) (t':=s.toks) (λ b u q=>Q3 _ q) (Q7 _) ⟨_,d⟩;refine k.laid (a:=s⁻¹+1) (o:=.ins C s⁻¹ []) (t':=s.toks) (λ b u q=>Q3 _ q) (Vu (R7 _ _)) ?_;have c:s⁻¹≠s⁻¹+1:=Rb (SR _);refine⟨by rw[ao c,aC],TL _,c,j,λ _=>none,(Heap.Ns1.of_empty i).at λ o q=>Q3 _ q,λ _=>True.intro,λ y g=>absurd rfl g⟩
theorem uB{prog:Program}{w:World}{env:Env}{e:Expr}{pos:Pos}{Q:Value->Shared->Prop}(c:attributeBase e f env (eval e env)=eval e env)
  (h:wpAny (model prog w) A (eval e env) (λ o b=>wpAny (model prog w) A (getAttr o f true) Q E b) E s):wpAny (model prog w) A (eval (.Attribute e f pos) env) Q E s:=
 Attribute_any_ h (by rw[arm_eval_Attribute,c])
end
def Nr(K:ae)(g e:TE)(f:Str):TS:=λ D Y H=>e Y H λ y h=>g Y h λ x d=>∃a C c b,x=.ref a/\d a=some (.ins C c b)/\wH K C/\gz K C f/\b.length<1000/\
 D.nx Y (upd d a (.ins C c (d7 f y b)))
section
variable{X:Cx}{o e value:Expr}{f:Str}{pos pos' tpos:Pos}{ta tv:TE}
theorem GJ(r:PE X o ta)(m:PE X value tv)(p:swapsWith value @(.Attribute o f pos') pos.line X.env=pure false):PS X (.Assign [.Attribute o f pos'] value pos) (Nr X.K ta tv f):=by
 intro b s Y H D I h;refine T6 (bF (m b s Y H _ I h) λ u d ⟨y,B,A,g,q⟩=>bF (r b d Y B _ A q) λ k F ⟨x,L,z,i,a,C,J,G,t,v,c,n,l,j⟩=>?_) p;subst t;obtain rfl:k=Value.ref a:=i;exact sM z v c n l g λ E w=>⟨Y,_,w,j⟩
end
section
variable{X:Cx}{aa:List (Addr×Obj)}{Y:St}{H:Hp}{s:Shared}{A:Around}{E:Value->Shared->Prop}{Q:Value->Shared->Prop}{c:Value}{b:Bool}
inductive j9(K:ae)(H:Hp):V->Value->Prop where
 |non:j9 K H .non (.type "NoneType")
 |bl (x:Bool):j9 K H (.bl x) (.type "bool")
 |int (i:Int):j9 K H (.int i) (.type "int")
 |str (x:Str):j9 K H (.str x) (.type "str")
 |g7 (x:UInt64):j9 K H (.g7 x) (.type "float")
 |lst {a:Addr} {xs:List V} (e:H a=@(.lst xs)):j9 K H (.ref a) (.type "list")
 |frz {a:Addr} {o:Obj} {xs:List V} (e:H a=@(.frz o (.lst xs))):j9 K H (.ref a) (.type "list")
 |tup {a:Addr} {xs:List V} (e:H a=@(.tup xs)):j9 K H (.ref a) (.type "tuple")
 |dK {a:Addr} {kvs:List (Key×V)} (e:H a=@(.dK kvs)):j9 K H (.ref a) (.type "dict")
 |dT {a:Addr} {kvs:List (List Key×V)} (e:H a=@(.dT kvs)):j9 K H (.ref a) (.type "dict")
 |ins {a C dx:Addr} {fs:List (Str×V)} (e:H a=@(.ins C dx fs)) (cl:wH K C) (ha:PySem.W.findIn K (.ref C) "__class__"=@(some (.builtin "object.__class__")))
   (hn:PySem.W.specialIn K (.builtin "object.__class__") "__get__"=@(some (.builtin "getset_descriptor.__get__"))) (htk:PySem.W.takesIn K (.builtin "object.__class__")=some true)
   (hm:PySem.W.mroIn K C (.type "object")=some true):j9 K H (.ref a) (.ref C)
theorem gP{x:V}{u t:Value}(I:Inv X aa Y H s)(d:RelV x u)(m:j9 X.K H x t)(e:PySem.W.kitOne X.K t c=some b)(h:∀tk,Q (.bool b) {s with toks:=tk}) :
  wpAny (model X.prog X.w) A (call (.builtin "isinstance") [u,c]) Q E s:=by
 cases m with
 |non=>cases (show u=Value.none from d);exact R3 PySem.W.kitx_none I.cQ True.intro e (λ z=>nomatch z) h
 |bl y=>cases (show u=Value.bool y from d);exact R3 PySem.W.kitx_bool I.cQ True.intro e (λ z=>nomatch z) h
 |int i=>let⟨t,q⟩:=(show ∃t,u=Value.int i t from d);cases q;exact R3 PySem.W.kitx_int I.cQ True.intro e (λ z=>nomatch z) h
 |str y=>let⟨t,q⟩:=(show ∃t,u=Value.str y t from d);cases q;exact R3 PySem.W.kitx_str I.cQ True.intro e (λ z=>nomatch z) h
 |g7 y=>let⟨t,q⟩:=(show ∃t,u=Value.float y t from d);cases q;exact R3 PySem.W.kitx_float I.cQ True.intro e (λ z=>nomatch z) h
 |@lst a k f=>
  cases (show u=Value.ref a from d);let⟨_,_,n,_,g⟩:=(show aX X.prog X.w H s.heap a (.lst k) from I.hok a _ f);exact R3 UC I.cQ ⟨_,g,rfl⟩ e (λ z=>nomatch z) h
 |@frz a r k f=>
  cases (show u=Value.ref a from d);let⟨_,_,_,n,_,g⟩:=(show aX X.prog X.w H s.heap a (.frz r (.lst k)) from I.hok a _ f);exact R3 UC I.cQ ⟨_,g,rfl⟩ e (λ z=>nomatch z) h
 |@tup a k f=>
  cases (show u=Value.ref a from d);let⟨_,_,_,p⟩:=(show aX X.prog X.w H s.heap a (.tup k) from I.hok a _ f);let⟨o,g,l,_⟩:=p;exact R3 PySem.W.kitx_tuple I.cQ ⟨o,g,l.1⟩ e (λ z=>nomatch z) h
 |@dK a j f=>
  cases (show u=Value.ref a from d);let⟨_,_,F,_,p⟩:=(show aX X.prog X.w H s.heap a (.dK j) from I.hok a _ f);let⟨o,v,B,g,l,_⟩:=p;exact R3 PySem.W.kitx_dict I.cQ ⟨o,g,l.1⟩ e (λ z=>nomatch z) h
 |@dT a j f=>
  cases (show u=Value.ref a from d);let⟨_,_,k,_,o,v,B,g,l,_⟩:=(show aX X.prog X.w H s.heap a (.dT j) from I.hok a _ f);exact R3 PySem.W.kitx_dict I.cQ ⟨o,g,l.1⟩ e (λ z=>nomatch z) h
 |@ins a C L fs f cl ha hn htk hm=>
  cases (show u=Value.ref a from d);let⟨J,O,_⟩:=uA I.hok f;let⟨G,D,_⟩:=O.look;exact R3 (PySem.W.kitx_own (cl.get _) cl.hd ha hn htk hm) I.cQ D e (λ z=>nomatch z) h
end
end L2
namespace L2
open PySem PySem.Spec PyProof.Rows List
variable{C f:Addr}{H:Hp}{K:ae}{P:Program}{kindOf:Str->Option NameKind}{kw:List (Str×Value)}{s:Shared}{us:List Value}{w:World}
structure bP(k:Nat)(A:Around):Prop where
 hd:A.handled=none
 dp:A.depth+3*k+5<recursionLimit
 un:A.units+16*k+200<cLine
 gd:A.guards=some []:=by rfl
theorem bP.mono{j k:Nat}{A:Around}(r:bP k A)(h:j<=k):bP j A:=⟨r.hd,by have:=r.dp;lia,by have:=r.un;lia,r.gd⟩
theorem bP.deeper{k:Nat}{A:Around}(r:bP (k+1) A)(env:Env):bP k (A.deeper env):=
 ⟨r.hd,by have:=r.dp;show A.depth+1+3*k+5<_;lia,by have:=r.un;show A.units+3+16*k+200<_;lia,r.gd⟩
theorem sN{A:Around}:(A.under (.builtin "type.__call__" ⟨.ref C::us,kw⟩)).depth=A.depth+1:=by
 first | rfl | simp[Around.under,Code.weight,Code.isCreation,Code.isGuard,Code.isCaller,Code.frames,Code.isFrame,guardIds]
theorem sO{A:Around}:(A.under (.builtin "type.__call__" ⟨.ref C::us,kw⟩)).units=A.units+1:=by
 first | rfl | simp[Around.under,Code.cUnits,Code.frames,Code.isFrame]
theorem ql{A:Around}:(A.under (.builtin "type.__call__" ⟨.ref C::us,kw⟩)).guards=A.guards:=by
 first | rfl | (simp[Around.under,Code.guards,Code.isGuard,guardIds,pushGuards];done) | (cases h:A.guards<;>simp[Around.under,Code.guards,Code.isGuard,guardIds,pushGuards,h])
theorem bP.make{k:Nat}{A:Around}(r:bP (k+1) A)(C:Addr)(us:List Value)(kw:List (Str×Value)):bP k (A.under (.builtin "type.__call__" ⟨.ref C::us,kw⟩)):=
 ⟨r.hd,by have:=r.dp;rw[sN];lia,by have:=r.un;rw[sO];lia,by rw[ql];exact r.gd⟩
theorem bP.depth{k:Nat}{A:Around}(r:bP k A):A.depth<recursionLimit:=by have:=r.dp;lia
theorem bP.units{k:Nat}{A:Around}(r:bP k A):A.units+64<cLine:=by have:=r.un;lia
def sP:TA:=λ _ H Q=>Q [] H
def qm(c:TE)(b:TA):TA:=fun Y H Q=>c Y H λ x e=>b Y e λ a d=>Q (x::a) d
section
variable{X:Cx}{e:Expr}{es:List Expr}{te:TE}{t:TA}{pos:Pos}
theorem cY:PA X [] sP:=λ _ _ _ _ H Q I h=>Calls.spliced_nil ⟨[],H,I,.nil,h⟩
theorem bI(m:PE X e te)(l:PA X es t)(k:starEach (e::es) X.env=(false,eval e X.env)::starEach es X.env:=by rfl):PA X (e::es) (qm te t):=by
 intro pos a s Y H Q I h;rw[k];show wpAny _ _ (spliced ((false,eval e X.env)::backTo pos (starEach es X.env))) _ _ s;refine Calls.spliced_cons (bF (m a s Y H _ I h) λ u c ⟨x,q,o,g,j⟩=>?_);exact bF (l pos a c Y q _ o j) λ us r ⟨b,p,n,d,i⟩=>⟨x::b,p,n,.cons g d,i⟩
def Nt(t:TA):TE:=fun Y H Q=>t Y H λ a b=>a.length<=sizeLine/\∀p,b p=none->Q (.ref p) (upd b p (.tup a))
def Nu(t:TA):TE:=fun Y H Q=>t Y H λ a b=>a.length<=sizeLine/\∀p,b p=none->Q (.ref p) (upd b p (.lst a))
theorem yG{i}(h:PA X es t):PE X (.Tuple es i pos) (Nt t):=by
 intro l s Y H Q I j;refine wpAny_Tuple_spliced (bF (h pos l s Y H _ I j) λ us a ⟨g,d,c,r,z,q⟩=>⟨by rw[<-r.length];exact z,?_⟩);have k:d a⁻¹=none:=c.hok.fresh (Q7 _);refine⟨.ref a⁻¹,upd d a⁻¹ (.tup g),c.laid (t':=a.toks) (λ b u e=>Q3 _ e) (Q7 _) ?_,rfl,q _ k⟩;exact⟨z,us,r,⟨_,Ra _ rfl,⟨rfl,rfl⟩,_,rfl⟩⟩
theorem GK(h:PA X es t):PE X (.List es pos) (Nu t):=by
 intro k s Y H Q I i;refine wpAny_List_spliced (bF (h pos k s Y H _ I i) λ us a ⟨g,d,c,r,z,q⟩=>⟨by rw[<-r.length];exact z,?_⟩);have j:d a⁻¹=none:=c.hok.fresh (Q7 _);refine⟨.ref a⁻¹,upd d a⁻¹ (.lst g),c.laid (t':=a.toks) (λ b u e=>Q3 _ e) (Q7 _) ?_,rfl,q _ j⟩;exact⟨z,us,0,r,Ra _ rfl⟩
end
abbrev Sp:=List V->Hp->VK->XK->Prop
abbrev uC:=List Env->Hp->Shared->XK->Value->Shared->Prop
structure sQ(P:Program)(w:World)(K:ae)(mg:Str->Option Value)(base:Heap)(A:Around)(outer:List Env)(s:Shared)(H:Hp):Prop where
 frames:A.frames=some outer
 mod:Mod K mg base
 bs:∀b o,base.get? b=some o->s.heap.get? b=some o/\H b=none
 bsz:base.objs.size<=s⁻¹
 iC:s.heap.FunFrames base outer
 frf:∀b∈frs outer,H b=none
 hok:fQ P w H s.heap
 bare:AllBare s.gens
def CE(outer:List Env)(P:Program)(w:World)(H:Hp)(s:Shared)(Q:VK)(u:Value)(a:Shared):Prop:=
 ∃v b,a.os=s.os/\AllBare a.gens/\Un (frs outer) [] H b s.heap a.heap/\fQ P w b a.heap/\RelV v u/\Q v b
def CR(CX:uC)(outer:List Env)(P:Program)(w:World)(H:Hp)(s:Shared)(Q:VK)(E:XK)(r:Result)(a:Shared):Prop:=
 match r with
 |.ok (.ret u)=>CE outer P w H s Q u a
 |.ok _=>False
 |.error e=>CX outer H s E e a
structure cg(P:Program)(w:World)(K:ae)(mg:Str->Option Value)(base:Heap)(CX:uC)(k:Nat)(f:Addr)(fd:FuncData)(ps:List Str)(sp:Sp):Prop where
 len:∀vs H Q E,sp vs H Q E->vs.length=ps.length
 run:∀(A:Around) (outer:List Env) (s:Shared) (H:Hp) (args:Args) (us:List Value) (vs:List V) (Q:VK) (E:XK),bP k A->sQ P w K mg base A outer s H->BindsTo s fd args (ps.zip us)->Vals vs us->sp vs H Q E->
  codeAny (model P w) A (.call (.ref f) args) (CR CX outer P w H s Q E) s
theorem cg.imp{c:Str->Option Value}{base:Heap}{CX:uC}{k:Nat}{d:FuncData}{ps:List Str}{sp e:Sp}(F:cg P w K c base CX k f d ps sp)
  (h:∀vs H Q E,e vs H Q E->sp vs H Q E):cg P w K c base CX k f d ps e:=
 ⟨λ vs H Q E q=>F.len vs H Q E (h _ _ _ _ q),λ A a s H b us vs Q E j l m g i=>F.run A a s H b us vs Q E j l m g (h _ _ _ _ i)⟩
theorem sQ.make{a:Str->Option Value}{base:Heap}{A:Around}{outer:List Env}(e:sQ P w K a base A outer s H)(C:Addr)(us:List Value)(kw:List (Str×Value)) :
  sQ P w K a base (A.under (.builtin "type.__call__" ⟨.ref C::us,kw⟩)) outer s H:=⟨by first | exact e.frames | (simpa[Around.under,Code.envs,Code.isFrame,pushEnvs] using e.frames),e.mod,e.bs,e.bsz,e.iC,e.frf,e.hok,e.bare⟩
section
variable{X:Cx}{aa:List (Addr×Obj)}{Y:St}{H:Hp}{s s':Shared}
theorem Inv.Ce(I:Inv X aa Y H s):sQ X.prog X.w X.K X.mg X.base X.A X.stack s H:=
 ⟨I.ok.frames,I.ok.mod,I.bs,Rv I.ok.bsz I.sz,I.stack,I.kB,I.hok,I.bare⟩
theorem Inv.after{Q:VK}{u:Value}(I:Inv X aa Y H s)(h:CE X.stack X.prog X.w H s Q u s'):EP X aa Y Q u s':=by
 let⟨v,l,j,a,i,e,r,q⟩:=h;let⟨k,g,d,t,c⟩:=s';obtain rfl:c=s.os:=j;exact⟨v,l,I.call (h':=k) (g':=g) (d':=d) (t':=t) (ch:=[]) i e a (λ b z=>absurd z 's'),r,q⟩
end
def Ex(sp:Sp)(b:List V)(E:XK)(t:TA):TE:=fun Y H Q=>t Y H λ a c=>sp (a++b) c Q E
def Binds(K:ae)(b:FuncData)(ps:List Str)(a:List Value):Prop:=
 ∀(s:Shared) (us:List Value),K.In s.heap->(us++a).length=ps.length->BindsTo s b ⟨us,[]⟩ (ps.zip (us++a))
theorem Binds.all{b:FuncData}{ps:List Str}(h:∀us:List Value,us.length=ps.length->bindArgs b ⟨us,[]⟩=pure (ps.zip us)):Binds K b ps []:=λ s us _ a=>by
 rw[R6] at a ⊢;exact .of_eq (h us a)
def Passes(CX:uC)(X:Cx)(E:XK):Prop:=∀(b:List (Addr×Obj)) (Y:St) (H:Hp) (s:Shared) (e:Value) (a:Shared),Inv X b Y H s->CX X.stack H s E e a->X.xe e a
section
variable{X:Cx}{CX:uC}{k:Nat}{f C:Addr}{fd:FuncData}{ps:List Str}{sp:Sp}{jV:List V}{ds:List Value}{E:XK}{x m:Str}{p pos apos:Pos}{e o:Expr}{es:List Expr}{ta:TE}{t:TA}
theorem oM{b:List (Addr×Obj)}{Y:St}{Q:VK}{vs:List V}(F:cg X.prog X.w X.K X.mg X.base CX k f fd ps sp)(i:bP k X.A)(n:Binds X.K fd ps ds)(l:Vals jV ds)(g:Passes CX X E)
  (I:Inv X b Y H s) (r:Vals vs us) (h:sp (vs++jV) H Q E):wpAny (model X.prog X.w) X.A (call (.ref f) us) (EP X b Y Q) X.xe s:=by
 have c:Vals (vs++jV) (us++ds):=r.append l;have j:(us++ds).length=ps.length:=by rw[<-c.length];exact F.len _ _ _ _ h
 refine Uw (So (F.run X.A X.stack s H ⟨us,[]⟩ (us++ds) (vs++jV) Q E i I.Ce (n s us I.cQ j) c h) λ r d a=>?_);cases r with
 |error e=>exact g b Y H s e d I a
 |ok q=>
  cases q with
  |ret u=>exact I.after a
  |next=>exact False.elim a
  |brk=>exact False.elim a
  |cont=>exact False.elim a
theorem Cg(F:cg X.prog X.w X.K X.mg X.base CX k f fd ps sp)(g:bP k X.A)(l:Gl X x)(i:X.mg x=@(.ref f))(j:PySem.W.keepIn X.K (.ref f)=true)(v:Binds X.K fd ps ds)(u:Vals jV ds)(d:Passes CX X E)
  (y:PA X (e::es) t) (b:(x==("__debug__":Str))=false:=by decide) (n:starEach (e::es) X.env=(false,eval e X.env)::starEach es X.env:=by rfl) (a:(backTo pos (starEach es X.env)).any (·.1)=false:=by rfl) :
  PE X (.Call (.Name x p) (e::es) [] pos) (Ex sp jV E t):=by
 intro z s Y H Q I h;refine RV (cV I l i ?_ b);refine Sh (h₀:=X.base) I.ok.mod.kin j (bF (y pos z s Y H _ I h) λ us D ⟨B,G,c,r,q⟩=>⟨c.cQ,?_⟩) n a;exact oM F g v u d c r q
theorem yH(F:cg X.prog X.w X.K X.mg X.base CX k f fd ps sp)(c:bP k X.A)(i:Gl X x)(d:X.mg x=@(.ref f))(g:PySem.W.keepIn X.K (.ref f)=true)(l:Binds X.K fd ps ds)(j:Vals jV ds)(b:Passes CX X E)
  (a:(x==("__debug__":Str))=false:=by decide):PE X (.Call (.Name x p) [] [] pos) (Ex sp jV E sP):=by
 intro n s Y H Q I h;refine RV (cV I i d ?_ a);exact Ul I.cQ g (oM (us:=[]) F c l j b I .nil h)
structure Mk(K:ae)(C f:Addr):Prop where
 makes:PySem.W.makesIn K C=true
 init:PySem.W.findIn K (.ref C) "__init__"=@(some (.ref f))
 fn:PySem.W.isFn K (.ref f)=true
 kp:PySem.W.keepIn K (.ref C)=true
end
structure fV(N P:List Str)(sc:Scope):Prop where
 kind:sc.kind=.function
 co:sc.isCoroutine=false
 gen:sc.isGenerator=false
 nd:N.Nodup
 pre:N.take P.length=P
 par:∀x∈P,sc.names.lookup x=some .local\/sc.names.lookup x=some .cell
 nofree:∀y∈sc.names,y.2≠.free
theorem mW{x:Str}:∀{a:List (Str×Value)} {m:Str->Option Value},(∀v,(x,v)∉a)->bindL kindOf a m x=m x
 | [],_,_=>rfl
 |(n,v)::r,m,h=>by
  unfold bindL;rw[mW λ w hw=>h w (Ro _ hw)];split
  .have:x≠n:=by rintro rfl;exact h v RG
   simp[this]
  .rfl
theorem mX{x:Str}:∀{a:List (Str×Value)} {m:Str->Option Value},(∀v,(x,v)∉a)->bindC kindOf a m x=m x
 | [],_,_=>rfl
 |(n,v)::r,m,h=>by
  unfold bindC;rw[mX λ w hw=>h w (Ro _ hw)];split
  .rfl
  .have:x≠n:=by rintro rfl;exact h v RG
   simp[this]
theorem mY{x:Str}{v:Value}:∀{P:List Str} {vs:List Value} {i:Nat} {m:Str->Option Value},P.Nodup->P[i]?=some x->vs[i]?=some v->kindOf x=some .local->
  bindL kindOf (P.zip vs) m x=some v
 | [],_,_,_,_,h,_,_=>by simp at h
 |_::_,[],_,_,_,_,h,_=>by simp at h
 |p::P,w::vs,0,m,nd,b,a,c=>by
  simp at b a;subst b;subst a;show bindL kindOf ((p,w)::P.zip vs) m p=_;unfold bindL;rw[mW λ v d=>(Tv.mp nd).1 (of_mem_zip d).1,Rf c];simp
 |p::P,w::vs,i+1,m,nd,b,a,c=>by
  show bindL kindOf ((p,w)::P.zip vs) m x=_;unfold bindL;exact mY (i:=i) (Tv.mp nd).2 (~~~b) (~~~a) c
theorem mZ{x:Str}{v:Value}:∀{P:List Str} {vs:List Value} {i:Nat} {m:Str->Option Value},P.Nodup->P[i]?=some x->vs[i]?=some v->kindOf x≠some .local->
  bindC kindOf (P.zip vs) m x=some v
 | [],_,_,_,_,h,_,_=>by simp at h
 |_::_,[],_,_,_,_,h,_=>by simp at h
 |p::P,w::vs,0,m,nd,b,a,c=>by
  simp at b a;subst b;subst a;show bindC kindOf ((p,w)::P.zip vs) m p=_;unfold bindC;rw[mX λ v d=>(Tv.mp nd).1 (of_mem_zip d).1,Ri c];simp
 |p::P,w::vs,i+1,m,nd,b,a,c=>by
  show bindC kindOf ((p,w)::P.zip vs) m x=_;unfold bindC;exact mZ (i:=i) (Tv.mp nd).2 (~~~b) (~~~a) c
def start(N:List Str)(vs:List V):St:=vs.map some++List.replicate (N.length - vs.length) none
def iL(CX:uC)(P:Program)(w:World)(K:ae)(mg:Str->Option Value)(base:Heap)(N:List Str)(qual:Str)(scope:Scope)(f:Addr)(cd:Value)(A:Around)(outer:List Env)(s:Shared)(H:Hp)(E:XK):Cx where
 prog:=P
 w:=w
 K:=K
 mg:=mg
 base:=base
 A:=A.deeper (envOfC qual scope s⁻¹ f cd)
 N:=N
 s₀:=s
 H₀:=H
 env:=envOfC qual scope s⁻¹ f cd
 outer:=outer
 stack:=envOfC qual scope s⁻¹ f cd::outer
 ex:=[]
 calm:=true
 fn:=λ _=>true
 pn:=[]
 xe:=λ e b=>wpAny (model P w) (A.deeper (envOfC qual scope s⁻¹ f cd)) (leaving (envOfC qual scope s⁻¹ f cd) e) (λ _ a=>CX outer H s E e a) (λ c a=>CX outer H s E c a) b
theorem qp{a:Scope}{n:Nat}{x:Str}(h:a.names.lookup x=some .cell):∃c,(cellsFrom n a.names []).lookup x=some c:=by
 have q:=TX a.names n [] (.inl h);exact S6.mp q
theorem wI{CX:uC}{B:Str->Option Value}{base:Heap}{N ps:List Str}{qual:Str}{scope:Scope}{t:Value}{A:Around}{outer:List Env}{F:Shared}{E:XK}{vs:List V}
  (S:fV N ps scope) (O:A.handled=none) (g:sQ P w K B base A outer s H) (T:vs.length=ps.length) (r:Vals vs us)
  (x:InCallC s s⁻¹ (bindL (envOfC qual scope s⁻¹ f t).kindOf (ps.zip us) λ _=>none) (cellsFrom (s⁻¹+1) scope.names []) (bindC (envOfC qual scope s⁻¹ f t).kindOf (ps.zip us) λ _=>none) F) :
  Inv (iL CX P w K B base N qual scope f t A outer s H E) [] (start N vs) H F:=by
 have M:ps.length<=N.length:=by have:=TR List.length S.pre;rw[Sb] at this;lia
 let⟨o,R,rfl,I⟩:=x.done;have D:∀b:Addr,b∉(iL CX P w K B base N qual scope f t A outer s H E).ex:=λ b z=>absurd (show b∈([]:List Addr) from z) 's';refine⟨⟨g.mod,S.kind,rfl,rfl,Q7 _,λ y z c o d=>?_,λ y j=>?_,λ y c _ h=>?_,λ _=>O,Around.frames_deeper g.frames,.inr ⟨rfl,rfl⟩,λ b z=>absurd z (D b),g.bs,g.bsz,λ b _ _=>D b,λ b z=>absurd z (D b),g.iC,g.frf⟩,
  rfl,g.bare,Un.kept I,⟨_,x.toInCall.ns,λ i y v o d U=>?_⟩,λ y c h=>⟨_,x.cell y c h⟩,g.hok.fresh (Q7 _),λ y c h=>?_,λ p l=>absurd (show p∈([]:List (Addr×Obj)) from l) 's',g.hok.kept I,?_⟩
 .exact name_of_addr x.apart (RY o) (RY d)
 .have j:scope.names.lookup y=some .cell\/scope.names.lookup y=some .free:=j;rcases j with j | j
  .exact qp j
  .exact absurd rfl (S.nofree _ (RY j))
 .exact US (x.above y c (RY h))
 .have m:i<vs.length:=by
   unfold start at d
   by_cases m:i<vs.length
   .exact m
   .rw[Rp (~~~m)] at d;rw[getElem?_replicate] at d;split at d<;>cases d
  have Q:vs[i]?=some v:=by
   unfold start at d;rw[Rc (~~~m),Td] at d;cases e:vs[i]? with
   |none=>rw[e] at d;cases d
   |some a=>rw[e] at d;cases d;rfl
  let⟨u,G,L⟩:=r.get Q;have l:ps[i]?=some y:=by
   rw[<-S.pre,S7 'o'];exact o
  have J:ps.Nodup:=by rw[<-S.pre];exact S.nd.sublist (UW _ _)
  refine⟨u,L,?_⟩;rcases S.par y (RP l) with k | k
  .exact .inl ⟨k,mY J l G k⟩
  .let⟨c,e⟩:=qp (n:=s⁻¹+1) k;refine .inr ⟨.inl k,c,e,?_⟩;have q:=x.cell y c e;rw[mZ J l G (by show scope.names.lookup y≠_;rw[k];decide)] at q;exact q
 .exact g.hok.fresh (US (x.above y c (RY h)))
 .unfold start;show _=N.length;rw[Ru,Rn,length_replicate];lia
theorem Ey{CX:uC}{D:Str->Option Value}{base:Heap}{k:Nat}{name qual:Str}{c:Arguments}{body:List Stmt}{scope:Scope}{Y X B U a ct oc:Value}{an od:Option Addr}
  {J:Array (Option Value)} {N ps:List Str} {sp:Sp} (lk:K.lookup f=some ⟨oc,od,.func (PySem.W.fnOf name qual c body scope Y X B U an a ct),J⟩) (O:PySem.W.codeIn K a qual=true) (S:fV N ps scope)
  (m:∀vs H Q E,sp vs H Q E->vs.length=ps.length)
  (j:∀(A:Around) (outer:List Env) (s:Shared) (H:Hp) (vs:List V) (Q:VK) (E:XK),bP k (A.deeper (envOfC qual scope s⁻¹ f a))->sp vs H Q E->
   ∃t,iD (iL CX P w K D base N qual scope f a A outer s H E) body t/\t {nx:=λ _ h=>Q .non h,rt:=Q} (start N vs) H) :
  cg P w K D base CX (k+1) f (PySem.W.fnOf name qual c body scope Y X B U an a ct) ps sp:=by
 refine⟨m,λ A outer s H Z us vs Q E M z hb r R=>?_⟩;have hl:=m _ _ _ _ R;have KX:K.In s.heap:=z.mod.kin.keeps λ b o e=>(z.bs b o e).1;have L:s.heap.NoLimit:=z.mod.nolimit.keeps λ b o e=>(z.bs b o e).1;have i:∀y∈ps.zip us,scope.names.lookup y.1=some .local\/(scope.names.lookup y.1=some .cell/\((cellsFrom (s⁻¹+1) scope.names []).lookup y.1).isSome=true):=λ ⟨n,v⟩ hy=>by
  rcases S.par n (of_mem_zip hy).1 with q | q
  .exact .inl q
  .exact .inr ⟨q,TX _ _ _ (.inl q)⟩
 refine codeAny_call_function M.depth (KX _ _ lk) rfl S.co S.gen rfl (PySem.W.codeRec_of KX O) (hb _ _ _ _ ?_);refine wpAny_newFunctionEnv_cells S.kind i λ env he T x=>?_;subst he;refine⟨L.keeps x.toInCall.keep,codeAny_func ?_⟩;let⟨t,ht,hq⟩:=j A outer s H vs Q E (M.deeper _) R;have I:Inv (iL CX P w K D base N qual scope f a A outer s H E) [] (start N vs) H T:=wI S M.hd z hl r x;refine Rm (ht [] T (start N vs) H _ I hq) (λ fl F l=>?_) λ e F l=>l;have p:∀{d:St} {h:Hp} {v:V} {u:Value},Inv (iL CX P w K D base N qual scope f a A outer s H E) [] d h F->RelV v u->Q v h->CE outer P w H s Q u F:=
  λ {d h v u} g G q=>⟨v,h,g.os,g.bare,g.base,g.hok,G,q⟩
 cases fl with
 |ret u=>
  let⟨v,d,h,g,G,q⟩:=l;exact p g G q
 |next=>
  let⟨d,h,g,q⟩:=l;exact p (v:=V.non) (u:=Value.none) g rfl q
 |brk=>
  let⟨_,_,_,q⟩:=l;exact False.elim q
 |cont=>
  let⟨_,_,_,q⟩:=l;exact False.elim q
end L2
namespace L2
open PySem PySem.Spec PyProof.Rows List
section
variable{X:Cx}{x:Str}{p pos:Pos}{e:Expr}{es:List Expr}{t:TA}{id T:String}{r:List V->Hp->VK->Prop}
def Nv(r:List V->Hp->VK->Prop)(t:TA):TE:=fun Y H Q=>t Y H λ a b=>r a b Q
theorem gA(q:cj X (.builtin id) r)(n:Gl X x)(m:X.mg x=none)(k:bootBuiltins x=@(.builtin id))(u:PA X (e::es) t)(l:x≠"__name__":=by decide)(b:(x==("__debug__":Str))=false:=by decide)
  (o:starEach (e::es) X.env=(false,eval e X.env)::starEach es X.env:=by rfl) (a:(backTo pos (starEach es X.env)).any (·.1)=false:=by rfl):PE X (.Call (.Name x p) (e::es) [] pos) (Nv r t):=by
 intro c s Y H Q I h;refine RV (iE I n m k ?_ l b);exact PyProof.Rows.callWith_builtin1 (bF (u pos c s Y H _ I h) λ f g ⟨d,w,v,i,j⟩=>q c g Y w d f Q v i j) o a
theorem m7(q:cj X (.type T) r)(n:Gl X x)(m:X.mg x=none)(k:bootBuiltins x=@(.type T))(u:PA X (e::es) t)(l:x≠"__name__":=by decide)(b:(x==("__debug__":Str))=false:=by decide)
  (o:starEach (e::es) X.env=(false,eval e X.env)::starEach es X.env:=by rfl) (a:(backTo pos (starEach es X.env)).any (·.1)=false:=by rfl):PE X (.Call (.Name x p) (e::es) [] pos) (Nv r t):=by
 intro c s Y H Q I h;refine RV (iE I n m k ?_ l b);exact SN (bF (u pos c s Y H _ I h) λ f g ⟨d,w,v,i,j⟩=>q c g Y w d f Q v i j) o a
theorem sS(g:cj X (.type T) r)(f:Gl X x)(d:X.mg x=none)(b:bootBuiltins x=@(.type T))(c:x≠"__name__":=by decide)(a:(x==("__debug__":Str))=false:=by decide) :
  PE X (.Call (.Name x p) [] [] pos) (Nv r sP):=by
 intro i s Y H Q I h;refine RV (iE I f d b ?_ c a);exact PyProof.Rows.callWith_type0 (g i s Y H [] [] Q I .nil h)
end
end L2
namespace HT
open PySem PyProof.Rows List
def lexLt:List Int->List Int->Bool
 | [],[]=>false
 | [],_::_=>true
 |_::_,[]=>false
 |x::xs,y::ys=>if x=y then lexLt xs ys else decide (x<y)
section
open PySem.SeqAt List
open PySem.AutoSeq1 (wpAny_loadPart')
open PySem.MeetsSeq PySem.MeetsSeq2 PySem.MeetsSeq3 List
end
section
variable{prog:Program}{w:World}{A:Around}{E:Value->Shared->Prop}{s:Shared}
theorem Cj{t b:Addr}{vs ws:List Value}{Q:Value->Shared->Prop}(x:IsTup s.heap t vs.toArray)(y:IsTup s.heap b ws.toArray)(o:vs≠[])
  (B:ws=[]->Q (.ref t) s) (z:ws≠[]->Q (.ref s⁻¹) {s with heap:=s.heap.push {cls:=.type "tuple",data:=.seq (vs++ws).toArray}})
  (j:vs.length+ws.length<=sizeLine):wpAny (model prog w) A (binaryOp .Add (.ref t) (.ref b)) Q E s:=by
 let⟨⟨C,r,u,l⟩,i,q,n,p⟩:=id x;let⟨⟨v,g,k,c⟩,a,f,m,d⟩:=id y;simp only at q p f d;subst q p f d;have e:vs.toArray++ws.toArray=(vs++ws).toArray:=by simp
 by_cases h:ws=[]
 .exact UX ⟨_,i,rfl⟩ ⟨_,a,rfl⟩ UL Vk TY TM (Tr _ _)
   (tuple_addW1 t b vs.toArray ws.toArray n m r g l c (~~~o) (by simp[h])) ⟨i,a,B h⟩
 .refine UX ⟨_,i,rfl⟩ ⟨_,a,rfl⟩ UL Vk TY TM (Tr _ _)
   (tuple_addW2 t b vs.toArray ws.toArray n m r g l c (~~~o) (~~~h) (by rw[Q9,Q9];exact j)) ⟨i,a,?_⟩
  rw[e];exact z h
def cF(n d:Nat):Option Int->Nat
 |none=>d
 |some v=>if v<0 then (v+(n:Int)).toNat else min v.toNat n
theorem qt(n d:Nat):cF n d none=d:=rfl
theorem iM(n d k:Nat):cF n d (some (k:Int))=min k n:=by
 show (if (k:Int)<0 then ((k:Int)+(n:Int)).toNat else min (k:Int).toNat n)=min k n;rw[Ri 'o',S4]
theorem GL(n d:Nat)(b:d<=n)(o:Option Int):cF n d o<=n:=by
 cases o with
 |none=>exact b
 |some v=>
  show (if v<0 then (v+(n:Int)).toNat else min v.toNat n)<=n
  by_cases a:v<0
  .rw[Rf a];lia
  .rw[Ri a];exact To _ _
theorem oN(v:Int)(n d:Nat):(if v<0 then max (v+(n:Int)) 0 else min v (n:Int))=((cF n d (some v):Nat):Int):=by
 show (if v<0 then max (v+(n:Int)) 0 else min v (n:Int))=(((if v<0 then (v+(n:Int)).toNat else min v.toNat n):Nat):Int)
 by_cases a:v<0
 .erw[Rf a];lia
 .erw[Ri a];lia
theorem sU(lo hi:Option Int)(n:Nat):Builtin.Slice.sliceAdjust lo hi 1 (n:Int)=(((cF n 0 lo:Nat):Int),((cF n n hi:Nat):Int)):=by
 have a:¬((1:Int)<0):=by lia
 unfold Builtin.Slice.sliceAdjust;erw[a,Rz];refine Prod.ext ?_ ?_
 .cases lo with
  |none=>rfl
  |some v=>exact oN v n 0
 .cases hi with
  |none=>rfl
  |some v=>exact oN v n n
theorem sV(i j:Nat):Builtin.Slice.slicePlaces (i:Int) (j:Int) 1=j - i:=by
 unfold Builtin.Slice.slicePlaces;have a:(1:Int)>0:=by lia
 erw[a,RQ,Int.ediv_one];split<;>lia
theorem kR{v:Value}{o:Option Int}{Q:Option Int->Shared->Prop}(p:IsPart v o)(h:Q o s):wpAny (model prog w) A (Builtin.Slice.slicePartIndex v) Q E s:=by
 cases p with
 |none=>exact slicePart_none h
 |int i t=>exact slicePart_int h
theorem fG{e:Addr}{d c:Value}{lo hi:Option Int}{n:Nat}{Q:Int×Int×Nat->Shared->Prop}(i:s.heap.IsSliceOf e d c .none)(g:IsPart d lo)(f:IsPart c hi)
  (h:Q (((cF n 0 lo:Nat):Int),1,cF n n hi - cF n 0 lo) s):wpAny (model prog w) A (Builtin.Slice.sliceApplied (.ref e) (pure (n:Int))) Q E s:=by
 let⟨k,a,j,b⟩:=id i;unfold Builtin.Slice.sliceApplied Builtin.Slice.sliceFields;refine Q2 (Q2 (R9 a b (x:=d) rfl (Q2 (R9 a b (x:=c) rfl (Q2 (R9 a b (x:=.none) rfl (Q8 ?_)))))));refine Q2 (slicePart_none ?_);show wpAny _ _ (if ((1:Int)==0)=true then _ else _) _ _ s;rw[Ri 'd'];refine Q2 (kR g (Q2 (kR f (Q2 (Q8 ?_)))));show wpAny _ _ (match Builtin.Slice.sliceAdjust lo hi 1 (n:Int) with | (lo,hi)=>pure (lo,(1:Int),Builtin.Slice.slicePlaces lo hi 1)) _ _ s;rw[sU lo hi n];show wpAny _ _ (pure (((cF n 0 lo:Nat):Int),(1:Int),Builtin.Slice.slicePlaces ((cF n 0 lo:Nat):Int) ((cF n n hi:Nat):Int) 1)) _ _ s;rw[sV];exact Q8 h
theorem yI(xs:Array Value)(i k:Nat):((List.range k).filterMap λ (m:Nat)=>xs[((i:Int)+(m:Int)*1).toNat]?).toArray=((xs.toList.drop i).take k).toArray:=by
 have e:(λ (m:Nat)=>xs[((i:Int)+(m:Int)*1).toNat]?)=λ m=>xs[i+m]?:=by
  funext m;have:((i:Int)+(m:Int)*1).toNat=i+m:=by lia
  rw[this]
 rw[e];have:=pick_run xs i k;rw[filterMap_map] at this;have a:((λ x=>xs[x]?)∘λ x=>i+x)=λ m=>xs[i+m]?:=rfl;rw[a] at this;rw[this]
theorem iN{t c:Addr}{items:Array Value}{i g:Value}{lo hi:Option Int}{Q:Value->Shared->Prop}(b:IsTup s.heap t items)(j:s.heap.IsSliceOf c i g .none)(l:IsPart i lo)(k:IsPart g hi)
  (hw:¬(cF items.size 0 lo=0/\cF items.size items.size hi=items.size))
  (h:Q (.ref s⁻¹) {s with heap:=s.heap.push {cls:=.type "tuple",data:=.seq ((items.toList.drop (cF items.size 0 lo)).take (cF items.size items.size hi - cF items.size 0 lo)).toArray}})
  (o:items.size<=sizeLine):wpAny (model prog w) A (getItem (.ref t) (.ref c)) Q E s:=by
 have a:sizeOk (.seq ((items.toList.drop (cF items.size 0 lo)).take (cF items.size items.size hi - cF items.size 0 lo)).toArray):=by
  show ((items.toList.drop (cF items.size 0 lo)).take (cF items.size items.size hi - cF items.size 0 lo)).toArray.size<=sizeLine;rw[Q9,Sb,Ud,Sv];lia
 have x:cF items.size items.size hi<=items.size:=GL _ _ (Q7 _) hi;let⟨n,d,f,p⟩:=id j;have r:s.TypeIs (.ref c) "slice":=⟨n,d,f⟩;unfold getItem
 try with_reducible refine Sd ?_
 first | refine Q2 (Q8 ?_) | skip
 refine Q2 (wpAny_sequenceKey b.typeIs 'd' ?_);refine Q2 (Si (name:=Str.ofString "__getitem__") b.typeIs Sy
  (S8 Sy b.typeIs entry_tuple_getitem ?_ (args_tuple_getitem _ _)))
 show wpAny _ _ (Builtin.Tuple.tupleItemsOf (.ref t) >>= _) _ _ s;refine Q2 (tupleItemsOf_ b ?_);refine Q2 (Vv r ?_);rw[Rf 'd'];refine Q2 (fG j l k ?_);have e:¬((((cF items.size 0 lo:Nat):Int)==0&&(1:Int)==1&&(cF items.size items.size hi - cF items.size 0 lo)==items.size)=true):=by
  intro q;rw[Q5,Q5] at q;have v:((cF items.size 0 lo:Nat):Int)=0:=eq_of_beq q.1.1;have u:cF items.size items.size hi - cF items.size 0 lo=items.size:=eq_of_beq q.2;exact hw ⟨by lia,by lia⟩
 show wpAny _ _ (if (((cF items.size 0 lo:Nat):Int)==0&&(1:Int)==1&&(cF items.size items.size hi - cF items.size 0 lo)==items.size)=true then _ else _) _ _ s;rw[Ri e,yI]
 first
  |exact Q2 (m:=Builtin.Tuple.tupleExact _) (Sf (Q8 ⟨_,rfl,Q8 h⟩) a)
  |exact Q2 (m:=Builtin.Tuple.tupleExact _) (Sf (Q2 (Q8 (Q8 ⟨_,rfl,Q8 h⟩))) a)
  |exact Q2 (Q2 (m:=Builtin.Tuple.tupleExact _) (Sf (Q8 (Q8 ⟨_,rfl,Q8 h⟩)) a))
  |exact Q2 (Q2 (m:=Builtin.Tuple.tupleExact _) (Sf (Q8 ⟨_,rfl,Q8 h⟩) a))
end
end HT
namespace L2
open PySem PySem.Spec PyProof.Rows List
abbrev TO:=St->Hp->(Option Int->Hp->Prop)->Prop
def PO(X:Cx)(e:Option Expr)(t:TO):Prop:=
 ∀(a:List (Addr×Obj)) (s:Shared) (Y:St) (H:Hp) (Q:Option Int->Hp->Prop),Inv X a Y H s->t Y H Q->
  wpAny (model X.prog X.w) X.A (evalPart e X.env) (λ u c=>∃o b,Inv X a Y b c/\IsPart u o/\Q o b) X.xe s
def Ck:TO:=λ _ H Q=>Q none H
def KL(t:TE):TO:=fun Y H Q=>t Y H λ x a=>∃i,x=.int i/\Q (some i) a
theorem intsAre_of{ns:List Int}:∀{us:List Value},Vals (ns.map V.int) us->IntsAre us ns:=by
 induction ns with
 |nil=>intro us r;rw[Vi] at r;cases r;exact .nil
 |cons n ns c=>
  intro us r;rw[RU] at r;cases r with
  |cons b a=>
   let⟨t,e⟩:=b;subst e;exact .cons n t (c a)
section
variable{X:Cx}{e:Expr}{te:TE}{lo hi:Option Expr}{tl th:TO}{pos p2:Pos}
theorem Co:PO X none Ck:=by
 intro a s Y H Q I h;rw[Vl];exact Q8 ⟨none,H,I,.none,h⟩
theorem Cp(h:PE X e te):PO X (some e) (KL te):=by
 intro d s Y H Q I c;rw[evalPart_some];refine bF (h d s Y H _ I c) λ u j ⟨x,g,f,a,b⟩=>?_;let⟨i,rfl,q⟩:=b;let⟨t,rfl⟩:=a;exact⟨some i,g,f,.int i t,q⟩
def KN(X:Cx)(r:V->Option Int->Option Int->Hp->VK->Prop):Prop:=
 ∀(d:List (Addr×Obj)) (s:Shared) (Y:St) (H:Hp) (x:V) (v b a:Value) (lo hi:Option Int) (c:Addr) (Q:VK),Inv X d Y H s->RelV x v->s.heap.IsSliceOf c b a .none->IsPart b lo->IsPart a hi->r x lo hi H Q->
  ∃T f,typeLookup (.type T) "__getitem__"=pure @(.builtin f)/\s.TypeIs v T/\wpAny (model X.prog X.w) X.A (getItem v (.ref c)) (EP X d Y Q) X.xe s
def Qj(r:V->Option Int->Option Int->Hp->VK->Prop)(te:TE)(tl th:TO):TE:=fun Y H Q=>te Y H λ x c=>tl Y c λ l b=>th Y b λ u a=>r x l u a Q
theorem qu{r:V->Option Int->Option Int->Hp->VK->Prop}(B:KN X r)(E:PE X e te)(C:PO X lo tl)(y:PO X hi th):PE X (.Subscript e (.Slice lo hi none p2) pos) (Qj r te tl th):=by
 intro c s Y H Q I h;refine Subscript_ (bF (E c s Y H _ I h) λ v j ⟨x,N,L,k,o⟩=>?_);refine wpAny_Slice (bF (C c j Y N _ L o) λ f i ⟨l,M,K,t,n⟩=>bF (y c i Y M _ K n) λ d a ⟨u,g,J,p,m⟩=>?_);rw[Vl];refine Q8 ?_;have G:Inv X c Y g {a with heap:=a.heap.push {cls:=.type "slice",data:=.fields #[f,d,.none]}}:=J.kept (t':=a.toks) λ b O q=>Q3 _ q;let⟨T,P,F,z,D⟩:=B c {a with heap:=a.heap.push {cls:=.type "slice",data:=.fields #[f,d,.none]}} Y g x v f d l u a⁻¹ Q G k (Heap.IsSliceOf.new ..) t p m;show wpAny (model X.prog X.w) X.A (subscriptTail e (.Slice lo hi none p2) v (.ref a⁻¹)) (EP X c Y Q) X.xe {a with heap:=a.heap.push {cls:=.type "slice",data:=.fields #[f,d,.none]}};exact tail_any (ops:=[.ref a⁻¹,v]) z F D (by with_unfolding_all rfl)
def oO(xs:List V)(lo hi:Option Int):List V:=(xs.drop (HT.cF xs.length 0 lo)).take (HT.cF xs.length xs.length hi - HT.cF xs.length 0 lo)
theorem jW(xs:List V)(lo hi:Option Int):(oO xs lo hi).length<=xs.length:=by
 unfold oO;rw[Sb,Ud];lia
def Nz(K:ae):V->Option Int->Option Int->Hp->VK->Prop:=λ x lo hi H Q=>∃a b,x=.ref a/\dw K H a b/\
 ¬(HT.cF b.length 0 lo=0/\HT.cF b.length b.length hi=b.length)/\∀p,H p=none->Q (.ref p) (upd H p (.tup (oO b lo hi)))
theorem GN:KN X (Nz X.K):=by
 intro z s Y H x v u t lo hi w Q I j p l k h;let⟨a,d,rfl,m,n,q⟩:=h;cases j;let⟨f,r,i,g⟩:=I.tuple m;have c:f.toArray.size=d.length:=by rw[Q9];exact r.length.symm
 refine⟨"tuple",_,PyProof.Rows.slot_tuple_getitem.lookup,i.typeIs,?_⟩;refine HT.iN i p l k (by rw[c];exact n) ?_ (by rw[c];exact g);rw[c];refine⟨.ref s⁻¹,_,I.laid (t':=s.toks) (o:=.tup (oO d lo hi)) (λ b y q=>Q3 _ q) (Q7 _) ?_,rfl,q _ (I.hok.fresh (Q7 _))⟩;exact⟨Rv (jW d lo hi) g,_,(r.drop (HT.cF d.length 0 lo)).take (HT.cF d.length d.length hi - HT.cF d.length 0 lo),mC.new _ _⟩
def KO(K:ae):R2:=λ x y H Q=>∃a b d c,x=.ref a/\y=.ref b/\dw K H a d/\dw K H b c/\d≠[]/\d.length+c.length<=sizeLine/\
 (c=[]->Q (.ref a) H)/\(c≠[]->∀p,H p=none->Q (.ref p) (upd H p (.tup (d++c))))
theorem Vals.oQ{xs:List V}{us:List Value}(r:Vals xs us):us=[]↔xs=[]:=by
 cases r with
 |nil=>simp
 |cons _ _=>simp
theorem Cq:fU X (binaryOp .Add) (KO X.K):=by
 intro D s Y H x y v u Q I l k h;let⟨a,b,j,i,rfl,rfl,B,A,t,g,n,m⟩:=h;cases l;cases k;let⟨r,d,p,_⟩:=I.tuple B;let⟨f,c,p2,_⟩:=I.tuple A;refine HT.Cj p p2 (λ z=>t (d.oQ.mp z)) (λ z=>⟨.ref a,H,I,rfl,n (c.oQ.mp z)⟩) (λ z=>?_) (by rw[<-d.length,<-c.length];exact g);refine⟨.ref s⁻¹,_,I.laid (t':=s.toks) (o:=.tup (j++i)) (λ b C q=>Q3 _ q) (Q7 _) ?_,rfl,m (λ w=>z (c.oQ.mpr w)) _ (I.hok.fresh (Q7 _))⟩;exact⟨by rw[Ru];exact g,_,d.append c,mC.new _ _⟩
end
variable{H:Hp}{aa:List (Addr×Obj)}{s:Shared}{v:Value}{Y:St}
def BE(n:Nat)(i:Int):Option Nat:=if 0<=i then (if i<n then some i.toNat else none) else if -(n:Int)<=i then some (i+n).toNat else none
def uF{a:Type}(xs:List a)(i:Int):Option a:=(BE xs.length i).bind λ j=>xs[j]?
theorem uG{n:Nat}{i:Int}{j:Nat}(h:BE n i=some j):seqIndex? i n=some j/\j<n/\-(n:Int)<=i/\i<n:=by
 unfold BE at h
 by_cases b:0<=i
 .rw[Rf b] at h
  by_cases a:i<n
  .rw[Rf a] at h;have e:i.toNat=j:=R1 h;exact⟨by rw[seqIndex_of b a,e],by lia,by lia,a⟩
  .rw[Ri a] at h;cases h
 .rw[Ri b] at h
  by_cases a:-(n:Int)<=i
  .rw[Rf a] at h;have e:(i+n).toNat=j:=R1 h;exact⟨by rw[Vx 'o' a,e],by lia,a,by lia⟩
  .rw[Ri a] at h;cases h
theorem oR{a:Type}{xs:List a}{i:Int}{v:a}(h:uF xs i=some v):∃j,seqIndex? i xs.length=some j/\xs[j]?=some v/\j<xs.length/\-(xs.length:Int)<=i/\i<xs.length:=by
 unfold uF at h;cases e:BE xs.length i with
 |none=>rw[e] at h;cases h
 |some j=>
  rw[e] at h;let⟨f,d,c,b⟩:=uG e;exact⟨j,f,h,d,c,b⟩
def kD(b:Expr):Prop:=∀o i,subscripted b false o i=operate [o,i] (getItem o i)
def GO(X:Cx)(r:R2):Prop:=
 ∀(b a:Expr) (aa:List (Addr×Obj)) (s:Shared) (Y:St) (H:Hp) (x y:V) (v u:Value) (Q:VK),Inv X aa Y H s->RelV x v->RelV y u->r x y H Q->
  subscripted a false v u=operate [v,u] (getItem v u)->wpAny (model X.prog X.w) X.A (subscriptTail b a v u) (EP X aa Y Q) X.xe s
def yJ(X:Cx)(c:String)(r:V->List V->Hp->VK->Prop):Prop:=
 ∀(aa:List (Addr×Obj)) (s:Shared) (Y:St) (H:Hp) (x:V) (a:List V) (v:Value) (b:List Value) (Q:VK),Inv X aa Y H s->RelV x v->Vals a b->r x a H Q->
  wpAny (model X.prog X.w) X.A (call (.builtin c) (v::b)) (EP X aa Y Q) X.xe s
section
variable{X:Cx}{a b:Expr}{ta tb:TE}{pos:Pos}
theorem Ez{r:R2}(g:GO X r)(j:PE X a ta)(i:PE X b tb)(f:kD b):PE X (.Subscript a b pos) (MA r ta tb):=by
 intro aa s Y H Q I h;exact Subscript_ (GA j i I h λ v u c x y l k e d q=>g a b aa c Y l x y v u Q k e d q (f _ _))
def NB(K:ae):R2:=λ x y H Q=>∃p c i v,x=.ref p/\y=.int i/\fS K H p c/\uF c i=some v/\Q v H
def NC(K:ae):R2:=λ x y H Q=>∃p c i v,x=.ref p/\y=.int i/\dw K H p c/\uF c i=some v/\Q v H
def ND:R2:=λ x y H Q=>∃z i c,x=.str z/\y=.int i/\z.length<=sizeLine/\uF z.cps.toList i=some c/\Q (.str ⟨#[c]⟩) H
theorem Cr:GO X (NB X.K):=by
 intro e f aa s Y H x y v u Q I D C h n;let⟨p,N,i,z,rfl,rfl,E,G,q⟩:=h;cases D;let⟨t,rfl⟩:=C;let⟨l,r,k,O⟩:=I.list E;let⟨j,d,M,R,L,J⟩:=oR G;let⟨w,A,g⟩:=r.get M;have F:=r.length;have P:=gy;have c:EP X aa Y Q w s:=⟨z,H,I,g,q⟩
 by_cases o:0<=i
 .have m:i.toNat=j:=by
   rw[seqIndex_of o J] at d;exact R1 d
  exact item_listR k.isList o 'o' (by rw[m];simpa using A) c n
 .have m:(i+(l.toArray.size:Int)).toNat=j:=by
   rw[Vx 'o' L] at d;rw[Q9,<-F];exact R1 d
  exact subscriptTail_builtinR (x:=w) k.isList.typeIs slot_list_getitem.lookup
   (wpAny_getItem_list_neg (Q:=λ r B=>r=w/\EP X aa Y Q r B) k.isList 'o' (by rw[Q9]<;>lia) 'o' (by rw[m];simpa using A) ⟨rfl,c⟩) n
theorem GP:GO X (NC X.K):=by
 intro c d aa s Y H x y v u Q I m l h o;let⟨p,G,i,z,rfl,rfl,A,C,q⟩:=h;cases m;let⟨t,rfl⟩:=l;let⟨n,r,g,J⟩:=I.tuple A;let⟨j,E,D,O,N,M⟩:=oR C;let⟨w,F,e⟩:=r.get D;have B:=r.length;have L:=gy;have f:EP X aa Y Q w s:=⟨z,H,I,e,q⟩;exact subscriptTail_builtinR (x:=w) g.typeIs slot_tuple_getitem.lookup
  (getItem_tuple (j:=j) (Q:=λ r k=>r=w/\EP X aa Y Q r k) g 'o' 'o' (by rw[Q9,<-B];exact E) (~~~F) ⟨rfl,f⟩) o
theorem GQ:GO X ND:=by
 intro d e aa s Y H x y v u Q I k g h l;let⟨z,i,c,rfl,rfl,C,n,q⟩:=h;let⟨t,rfl⟩:=k;let⟨B,rfl⟩:=g;let⟨j,f,r,E,p,o⟩:=oR n;have m:z.cps.toList.length=z.length:=by simp[Str.length]
 rw[m] at f p o;have D:=gy;exact tail_any (typeIs_str s z t) slot_str_getitem.lookup (getItem_str (c:=c) (by
  have A:decide (i < -(2^63:Int))=false:=Ry 'o';have w:decide (i≥2^63)=false:=Ry 'o';rw[A,w,Bool.or_false]) (by rw[f];simpa using r) ⟨.str ⟨#[c]⟩,H,I.tok _,⟨_,rfl⟩,q⟩) l
theorem sW(its:List Value)(n j:Nat)(u:Value):Obj.mapSeq (·.setIfInBounds j u) {cls:=.type "list",data:=.seq its.toArray n}={cls:=.type "list",data:=.seq (its.set j u).toArray n}:=by
 simp[Obj.mapSeq]
theorem Inv.lst{p:Addr}{xs:List V}(I:Inv X aa Y H s)(h:H p=@(.lst xs)) :
  ∃(its:List Value) (n:Nat),Vals xs its/\s.heap.get? p=some {cls:=.type "list",data:=.seq its.toArray n}/\xs.length<=sizeLine:=by
 let⟨z,its,n,r,e⟩:=I.hok p _ h;exact⟨its,n,r,e,z⟩
theorem Inv.GR{p:Addr}{xs ys:List V}{its its':List Value}{n c:Nat}{f:Obj->Obj}(I:Inv X aa Y H s)(h:H p=@(.lst xs))
  (ho:s.heap.get? p=some {cls:=.type "list",data:=.seq its.toArray n}) (d:f {cls:=.type "list",data:=.seq its.toArray n}={cls:=.type "list",data:=.seq its'.toArray c}) (r:Vals ys its') (g:ys.length<=sizeLine) (t:Nat) :
  Inv X aa Y (upd H p (.lst ys)) {s with heap:=s.heap.update p f,toks:=t}:=by
 have e:(s.heap.update p f).get? p=some {cls:=.type "list",data:=.seq its'.toArray c}:=by
  rw[S0 f ho (by rw[d]<;>rfl),d]
 refine I.write (x:=p) (e:=p) (by rw[h];trivial) (.inl rfl) (λ b u i q=>(Sq _ _ (Ne.symm i)).trans q) ⟨_,e⟩ ?_;exact⟨g,its',c,r,e⟩
def KP:V->V->V->Hp->(Hp->Prop)->Prop:=λ o i v H Q=>∃p c k j,o=.ref p/\i=.int k/\H p=some (.lst c)/\BE c.length k=some j/\Q (upd H p (.lst (c.set j v)))
theorem set_list:Gs X KP:=by
 intro aa s Y H o i v F G u Q I B C A h;let⟨p,z,k,j,rfl,rfl,l,E,q⟩:=h;cases B;let⟨t,rfl⟩:=C;let⟨c,n,r,e,D⟩:=I.lst l;let⟨d,K,w,m⟩:=uG E;have f:=r.length;have J:=gy;have y:Inv X aa Y (upd H p (.lst (z.set j v))) {s with heap:=s.heap.update p (Obj.mapSeq (·.setIfInBounds j u))}:=
  I.GR l e (sW c n j u) (r.set A j) (by rw[UZ];exact D) s.toks
 by_cases x:0<=k
 .have g:k.toNat=j:=by
   rw[seqIndex_of x m] at d;exact R1 d
  exact PySem.W.ki_setAt e x 'o' (by rw[Q9,<-f];exact m) (by rw[g];exact⟨_,y,q⟩)
 .have g:(k+(c.toArray.size:Int)).toNat=j:=by
   rw[Vx 'o' w] at d;rw[Q9,<-f];exact R1 d
  exact PySem.W.ki_setBack e 'o' (by rw[Q9,<-f];exact w) 'o' (by rw[g];exact⟨_,y,q⟩)
theorem qw(i:Int)(n d:Nat):max 0 (min (if i<0 then i+(n:Int) else i) (n:Int))=((HT.cF n d (some i):Nat):Int):=by
 rw[<-HT.oN i n d]
 by_cases h:i<0
 .rw[Rf h,Rf h,Int.min_eq_left 'o',Int.max_comm]
 .rw[Ri h,Ri h,Int.max_eq_right (Int.le_min.mpr ⟨by lia,by lia⟩)]
theorem oS(lo hi:Option Int)(n:Nat):(sliceBounds lo hi none n).1=((HT.cF n 0 lo:Nat):Int)/\(sliceBounds lo hi none n).2.1=((HT.cF n n hi:Nat):Int)/\(sliceBounds lo hi none n).2.2=1:=by
 refine⟨?_,?_,rfl⟩
 .cases lo with
  |none=>simp[sliceBounds,HT.cF]
  |some i=>
   erw[sliceBounds,Option.getD_none,show (1:Int)>0 by decide,RQ];exact qw i n 0
 .cases hi with
  |none=>simp[sliceBounds,HT.cF]
  |some i=>
   erw[sliceBounds,Option.getD_none,show (1:Int)>0 by decide,RQ];exact qw i n n
theorem ie(its:List Value)(lo hi:Option Int):slicePick its.toArray lo hi none=((its.drop (HT.cF its.length 0 lo)).take (HT.cF its.length its.length hi - HT.cF its.length 0 lo)).toArray:=by
 let⟨e,d,c⟩:=oS lo hi its.toArray.size;unfold slicePick;rw[e,d,c];erw[sliceRange_one,pick_run,Q9]<;>rfl
def NF(K:ae):V->Option Int->Option Int->Hp->VK->Prop:=λ x d e H Q=>∃a c,x=.ref a/\fS K H a c/\∀p,H p=none->Q (.ref p) (upd H p (.lst (oO c d e)))
theorem Ct:KN X (NF X.K):=by
 intro aa s Y H x v u t e f w Q I i p k j h;let⟨a,c,rfl,n,q⟩:=h;cases i;let⟨l,r,g,m⟩:=I.list n;have d:=r.length;refine⟨"list",_,slot_list_getitem.lookup,g.isList.typeIs,?_⟩;refine UJ g.isList p k j .none 's' ?_ (by rw[Q9]<;>lia);rw[ie,<-d];refine⟨.ref s⁻¹,_,I.laid (t':=s.toks) (o:=.lst (oO c e f)) (λ b y q=>Q3 _ q) (Q7 _) ?_,rfl,q _ (I.hok.fresh (Q7 _))⟩;exact⟨Rv (jW c e f) m,_,0,(r.drop (HT.cF c.length 0 e)).take (HT.cF c.length c.length f - HT.cF c.length 0 e),Ra _ rfl⟩
def fH:V->Bool
 |.non=>true
 |.bl _=>true
 |.int _=>true
 |.str _=>true
 |_=>false
def qA:V->V->Bool
 |.non,.non=>true
 |.bl a,.bl b=>a==b
 |.bl a,.int b=>(if a then 1 else 0)==b
 |.int a,.bl b=>a==(if b then 1 else 0)
 |.int a,.int b=>a==b
 |.str a,.str b=>a==b
 |_,_=>false
theorem GS{A:Around}{y x:V}{u:Value}(e:RelV y u)(c:RelV x v)(g:fH y=true)(f:fH x=true):SeqAt.EqAt A s u v (qA y x):=by
 cases y with
 |non=>
  cases e;cases x with
  |non=>cases c;exact SeqAt.EqAt.same _
  |bl b=>cases c;exact SeqAt.EqAt.none_bool b
  |int b=>let⟨t,rfl⟩:=c;exact SeqAt.EqAt.none_int b t
  |str b=>let⟨t,rfl⟩:=c;exact SeqAt.EqAt.none_str b t
  |_=>exact absurd (show false=true from f) R4
 |bl a=>
  cases e;cases x with
  |non=>cases c;exact SeqAt.EqAt.bool_none a
  |bl b=>cases c;exact SeqAt.EqAt.bool_bool a b
  |int b=>let⟨t,rfl⟩:=c;exact SeqAt.EqAt.bool_int a b t
  |str b=>let⟨t,rfl⟩:=c;exact SeqAt.EqAt.bool_str a b t
  |_=>exact absurd (show false=true from f) R4
 |int a=>
  let⟨d,rfl⟩:=e;cases x with
  |non=>cases c;exact SeqAt.EqAt.int_none a d
  |bl b=>cases c;exact SeqAt.EqAt.int_bool a d b
  |int b=>let⟨t,rfl⟩:=c;exact SeqAt.EqAt.int_int a d b t
  |str b=>let⟨t,rfl⟩:=c;exact SeqAt.EqAt.int_str a d b t
  |_=>exact absurd (show false=true from f) R4
 |str a=>
  let⟨d,rfl⟩:=e;cases x with
  |non=>cases c;exact SeqAt.EqAt.str_none a d
  |bl b=>cases c;exact SeqAt.EqAt.str_bool a d b
  |int b=>let⟨t,rfl⟩:=c;exact SeqAt.EqAt.str_int a d b t
  |str b=>let⟨t,rfl⟩:=c;exact SeqAt.EqAt.str_str a d b t
  |_=>exact absurd (show false=true from f) R4
 |_=>exact absurd (show false=true from g) R4
def GU(x:V)(u:Value):Bool:=match u with
 |.none=>qA .non x
 |.bool b=>qA (.bl b) x
 |.int i _=>qA (.int i) x
 |.str z _=>qA (.str z) x
 |_=>false
theorem sX{x y:V}{u:Value}(r:RelV y u)(f:fH y=true):GU x u=qA y x:=by
 cases y with
 |non=>cases r;rfl
 |bl b=>cases r;rfl
 |int i=>let⟨t,rfl⟩:=r;rfl
 |str z=>let⟨t,rfl⟩:=r;rfl
 |_=>exact absurd (show false=true from f) R4
theorem iO{A:Around}{x:V}(d:RelV x v)(e:fH x=true):∀{xs:List V} {us:List Value},Vals xs us->xs.all fH=true->∀u∈us,SeqAt.EqAt A s u v (GU x u)
 |_,_,.nil,_=>λ u c=>by cases c
 |y::xs,u::us,.cons r t,f=>λ u' c=>by
  rw[Ux,Q5] at f;rcases Rk.mp c with rfl | c
  .rw[sX r f.1];exact GS r d f.1 e
  .exact iO d e t f.2 u' c
theorem oU:cj X (.builtin "len") (λ xs H Q=>∃p ys,xs=[.ref p]/\(fS X.K H p ys\/dw X.K H p ys)/\Q (.int ys.length) H):=by
 intro aa s Y H xs k Q I r h;let⟨p,ys,rfl,d,q⟩:=h;let⟨u,rfl,i⟩:=vals1 r;cases i;have l:=gy;rcases d with d | d
 .let⟨g,e,f,j⟩:=I.list d;have c:=e.length;exact Calls.call_len_list f.isList (by erw[Q9]<;>lia) ⟨.int ys.length,H,I.tok _,⟨s.toks+1,by rw[Q9,c]⟩,q⟩
 .let⟨g,e,f,j⟩:=I.tuple d;have c:=e.length;exact len_tuple f (by erw[Q9]<;>lia) ⟨.int ys.length,H,I.tok _,⟨s.toks+1,by rw[Q9,c]⟩,q⟩
theorem oV:cj X (.builtin "len") (λ xs H Q=>∃z,xs=[.str z]/\z.length<=sizeLine/\Q (.int z.length) H):=by
 intro aa s Y H xs c Q I r h;let⟨z,rfl,d,q⟩:=h;let⟨u,rfl,t,rfl⟩:=vals1 r;have e:=gy;exact len_str 'o' ⟨.int z.length,H,I.tok _,⟨_,rfl⟩,q⟩
theorem oW:cj X (.type "list") (λ xs H Q=>∃p ys,xs=[.ref p]/\(fS X.K H p ys\/dw X.K H p ys)/\∀l,H l=none->Q (.ref l) (upd H l (.lst ys))):=by
 intro aa s Y H xs D Q I r h;let⟨p,ys,rfl,k,q⟩:=h;let⟨u,rfl,C⟩:=vals1 r;cases C;have t:∀(c:List Value),Vals ys c->ys.length<=sizeLine->∀(d:Heap) (g:Nat),(∀b B,s.heap.get? b=some B->d.get? b=some B)->
   d.get? s⁻¹=some {cls:=.type "list",dict:=none,data:=.seq c.toArray g,slots:=#[]}->EP X aa Y Q (.ref s⁻¹) {s with heap:=d}:=λ c f j d g i e=>
  ⟨.ref s⁻¹,_,I.laid (t':=s.toks) i (Q7 _) (show aX X.prog X.w _ d _ (.lst ys) from⟨j,c,g,f,e⟩),rfl,q _ (I.hok.fresh (Q7 _))⟩
 rcases k with k | k
 .let⟨c,f,x,j⟩:=I.list k;have m:=f.length;let⟨o,y,A,n,z⟩:=x.isList;exact call_list_seq p (.inl rfl) y A z (λ d g i e=>t c f j d g i e) (by erw[Q9]<;>lia)
 .let⟨c,f,x,j⟩:=I.tuple k;have m:=f.length;let⟨o,y,A,n,z⟩:=x;exact call_list_seq p (.inr rfl) y A z (λ d g i e=>t c f j d g i e) (by erw[Q9]<;>lia)
theorem mD:cj X (.type "tuple") (λ xs H Q=>∃p ys,xs=[.ref p]/\((fS X.K H p ys/\∀l,H l=none->Q (.ref l) (upd H l (.tup ys)))\/(dw X.K H p ys/\Q (.ref p) H))):=by
 intro aa s Y H xs y Q I r h;let⟨p,ys,rfl,h⟩:=h;let⟨u,rfl,n⟩:=vals1 r;cases n;rcases h with⟨i,q⟩ | ⟨i,q⟩
 .let⟨c,f,g,j⟩:=I.list i;have k:=f.length;refine call_tuple_list g.isList (λ d t=>?_) (by erw[Q9]<;>lia);have m:Inv X aa Y H {s with heap:=d}:=I.kept (t':=s.toks) t;have x:Inv X aa Y (upd H d.objs.size (.tup ys)) {s with heap:=d.push {cls:=.type "tuple",data:=.seq c.toArray}}:=
   m.laid (t':=s.toks) (λ b o e=>Q3 _ e) (Q7 _) (show aX X.prog X.w _ _ _ (.tup ys) from⟨j,c,f,mC.new _ _⟩)
  exact⟨.ref d.objs.size,_,x,rfl,q _ (m.hok.fresh (Q7 _))⟩
 .let⟨c,f,g,j⟩:=I.tuple i;exact call_tuple_same g ⟨.ref p,H,I,rfl,q⟩
def qB(K:ae)(T:String)(x:V)(H:Hp):Prop:=match x with
 |.str _=>T="str"
 |.int _=>T="int"
 |.ref p=>(T="list"/\∃d,fS K H p d)\/(T="tuple"/\∃o,K.lookup p=some o/\o.cls=.type "tuple"/\o.dict=none)\/
   (T="dict"/\((∃c,H p=@(.dK c))\/∃c,H p=@(.dT c)))\/(T="set"/\∃S n,H p=@(.set S n))
 |_=>False
theorem sY{T:String}{x:V}(I:Inv X aa Y H s)(r:RelV x v)(g:qB X.K T x H) :
  s.TypeIs v T/\∀a,v=.ref a->Exists λ m=>s.heap.get? a=some m/\m.dict=none:=by
 cases x with
 |str z=>
  let⟨t,rfl⟩:=r;cases (show T="str" from g);exact⟨typeIs_str s z t,λ _ e=>nomatch e⟩
 |int i=>
  let⟨t,rfl⟩:=r;cases (show T="int" from g);exact⟨typeIs_int s i t,λ _ e=>nomatch e⟩
 |ref p=>
  cases r;rcases g with⟨rfl,xs,u⟩ | ⟨rfl,o,d,hc,j⟩ | ⟨rfl,d⟩ | ⟨rfl,S,n,d⟩
  .let⟨q,_,l,_⟩:=I.list u;refine⟨l.isList.typeIs,λ a e=>?_⟩;cases e;let⟨o,n,e,c,j,_⟩:=l;exact⟨o,e,j⟩
  .refine⟨⟨o,I.cQ p o d,hc⟩,λ a e=>?_⟩;cases e;exact⟨o,I.cQ _ o d,j⟩
  .have z:∃o,s.heap.get? p=some o/\o.ExactDict:=by
    rcases d with⟨h,d⟩ | ⟨h,d⟩
    .let⟨_,_,_,_,o,_,_,e,f,_⟩:=I.hok p _ d;exact⟨o,e,f⟩
    .let⟨_,_,_,_,o,_,_,e,f,_⟩:=I.hok p _ d;exact⟨o,e,f⟩
   let⟨o,e,f⟩:=z;refine⟨⟨o,e,f.1⟩,λ a k=>?_⟩;cases k;exact⟨o,e,f.2.1⟩
  .let⟨o,_,_,_,e,f,_⟩:=I.hok p _ d;refine⟨⟨o,e,f.1⟩,λ a k=>?_⟩;cases k;exact⟨o,e,f.2.1⟩
 |_=>exact False.elim g
variable{o e:Expr}{es:List Expr}{to:TE}{t:TA}{name:Str}{apos cpos:Pos}{T id:String}{r:V->List V->Hp->VK->Prop}
end
end L2
namespace L2
open PySem PySem.Spec PyProof.Rows List
variable{us:List Value}
def EA(X:Cx)(c:String)(r:V->List V->Hp->VK->Prop):Prop:=
 ∀(b:List (Addr×Obj)) (s:Shared) (Y:St) (H:Hp) (x:V) (a:List V) (v:Value) (us:List Value) (Q:VK),Inv X b Y H s->RelV x v->Vals a us->r x a H Q->
  wpAny (model X.prog X.w) X.A (call (.builtin c) (v::us)) (EP X b Y Q) X.xe s
theorem Vals.one{x:V}(h:Vals [x] us):∃u,us=[u]/\RelV x u:=by
 cases h with | cons r t=>cases t;exact⟨_,rfl,r⟩
theorem Vals.two{x y:V}(h:Vals [x,y] us):∃u v,us=[u,v]/\RelV x u/\RelV y v:=by
 cases h with | cons r t=>cases t with | cons q t=>cases t;exact⟨_,_,rfl,r,q⟩
theorem Vals.zero:∀{us:List Value},Vals [] us->us=[]
 |_,.nil=>rfl
theorem Vals.dropLast{xs:List V}(h:Vals xs us):Vals xs.dropLast us.dropLast:=by
 induction h with
 |nil=>exact .nil
 |cons r t a=>
  cases t with
  |nil=>exact .nil
  |cons q b=>exact .cons r a
section
variable{X:Cx}{aa:List (Addr×Obj)}{Y:St}{H:Hp}{s:Shared}{l b:Addr}{xs ys zs:List V}
theorem Inv.mE{its its':List Value}{n:Nat}{f:Array Value->Array Value}{t':Nat}(I:Inv X aa Y H s)(i:H l=@(.lst xs))
  (e:s.heap.get? l=some {cls:=.type "list",data:=.seq its.toArray n}) (g:f its.toArray=its'.toArray) (c:Vals ys its') (a:ys.length<=sizeLine) :
  Inv X aa Y (upd H l (.lst ys)) {s with heap:=s.heap.update l (Obj.mapSeq f),toks:=t'}:=by
 have q:=PySem.IsL.update e f;rw[g] at q;refine I.write (x:=l) (e:=l) (by rw[i];exact trivial) (.inl rfl) (λ j u h d=>(Sq s.heap (Obj.mapSeq f) (Ne.symm h)).trans d) ⟨_,q⟩ ?_;exact⟨a,its',_,c,q⟩
theorem Inv.KQ{its:List Value}{t':Nat}(I:Inv X aa Y H s)(c:Vals ys its)(a:ys.length<=sizeLine) :
  Inv X aa Y (upd H s⁻¹ (.lst ys)) {s with heap:=s.heap.push {cls:=.type "list",data:=.seq its.toArray},toks:=t'}:=
 I.laid (λ _ _ q=>Q3 _ q) (Q7 _) ⟨a,its,0,c,Ra _ rfl⟩
theorem Inv.fresh(I:Inv X aa Y H s):H s⁻¹=none:=I.hok.fresh (Q7 _)
theorem Inv.yK(I:Inv X aa Y H s)(a:H l=@(.lst xs)):xs.length<=sizeLine/\∃(its:List Value) (n:Nat),Vals xs its/\xs.length=its.length/\s.heap.get? l=some {cls:=.type "list",data:=.seq its.toArray n}:=by
 let⟨z,its,n,r,e⟩:=I.hok l _ a;exact⟨z,its,n,r,r.length,e⟩
theorem yL{n:Nat}(h:n<=sizeLine):Builtin.List.listTooLong n=false:=by
 unfold Builtin.List.listTooLong;exact Ry 'o'
end
section
variable{X:Cx}
def Cu:V->List V->Hp->VK->Prop:=λ x b H Q=>∃l a y,x=.ref l/\b=[y]/\H l=some (.lst a)/\a.length<sizeLine/\Q .non (upd H l (.lst (a++[y])))
theorem m8:EA X "list.append" Cu:=by
 intro m s Y H x i v us Q I c d h;let⟨l,g,y,rfl,rfl,b,j,q⟩:=h;cases c;let⟨u,rfl,f⟩:=d.one;let⟨z,a,n,r,k,e⟩:=I.yK b;refine T8 F.slot_list_append ⟨_,e,rfl⟩ F.entry_list_append (F.args_list_append_2 _ _) (PySem.list_append l a.toArray n u (by rw[Q9];lia)) ⟨e,?_⟩;refine⟨.non,_,I.mE (its':=a++[u]) b e 's' (r.append %[|f]) ?_,rfl,q⟩;rw[Ru,UM];lia
def Cv:V->List V->Hp->VK->Prop:=λ x d H Q=>∃l b c a,x=.ref l/\d=[.ref b]/\H l=some (.lst c)/\H b=some (.lst a)/\c.length+a.length<=sizeLine/\Q .non (upd H l (.lst (c++a)))
theorem wJ:EA X "list.extend" Cv:=by
 intro G s Y H x C v us Q I g i h;let⟨l,b,B,y,rfl,rfl,f,p,D,q⟩:=h;cases g;let⟨u,rfl,j⟩:=i.one;cases j;let⟨z,c,n,r,E,e⟩:=I.yK f;let⟨A,a,m,k,o,t⟩:=I.yK p;have d:c.toArray.size+a.toArray.size<=sizeLine:=by rw[Q9,Q9];lia
 have w:¬(!c.toArray.isEmpty&&Builtin.List.listTooLong (c.toArray.size+a.toArray.size))=true:=by
  rw[yL d,Bool.and_false];exact R4
 refine T8 F.slot_list_extend ⟨_,e,rfl⟩ F.entry_list_extend (F.args_list_extend_2 _ _)
  (AutoSeq1.list_extend_list_list_0 l c.toArray n b a.toArray m w (by rw[Q9];lia) 'o') ⟨e,t,?_⟩
 refine⟨.non,_,I.mE (its':=c++a) f e 's' (r.append k) ?_,rfl,q⟩;rw[Ru];lia
def Qk:V->List V->Hp->VK->Prop:=λ x b H Q=>∃l a y,x=.ref l/\b=[]/\H l=some (.lst a)/\a[a.length - 1]?=some y/\Q y (upd H l (.lst a.dropLast))
def GV:V->List V->Hp->VK->Prop:=λ x b H Q=>∃l a,x=.ref l/\b=[]/\H l=some (.lst a)/\Q .non (upd H l (.lst []))
theorem yM:EA X "list.clear" GV:=by
 intro k s Y H x i v us Q I c d h;let⟨l,g,rfl,rfl,b,q⟩:=h;cases c;have f:=d.zero;subst f;let⟨z,a,n,r,j,e⟩:=I.yK b;refine T8 F.slot_list_clear ⟨_,e,rfl⟩ F.entry_list_clear (F.args_list_clear_1 _) (AutoSeq1.list_clear_list_0 l a.toArray n (by rw[Q9];lia)) ⟨e,?_⟩;exact⟨.non,_,I.mE (its':=[]) (ys:=[]) b e rfl .nil (TL _),rfl,q⟩
end
end L2
namespace L2
open PySem PySem.Spec PyProof.Rows List
variable{H:Hp}{P:Program}{X:Cx}{kvs:List (List Key×V)}{pos:Pos}{w:World}{xs:List (List Key×Addr×Value)}{y:V}
section
variable{κ:Type}[DecidableEq κ]
def jl(kvs:List (κ×V))(k:κ):Option V:=(kvs.find? λ a=>decide (a.1=k)).map (·.2)
def putK(kvs:List (κ×V))(k:κ)(v:V):List (κ×V):=
 if (kvs.any λ a=>decide (a.1=k))=true then kvs.map (λ a=>if a.1=k then (a.1,v) else a) else kvs++[(k,v)]
theorem kU{p:κ×V}{r:List (κ×V)}{k:κ}(e:p.1=k):jl (p::r) k=some p.2:=by simp[jl,Tz,e]
theorem kX{p:κ×V}{r:List (κ×V)}{k:κ}(e:¬p.1=k):jl (p::r) k=jl r k:=by simp[jl,Tz,e]
theorem qC(k:κ):∀kvs:List (κ×V),(kvs.any λ a=>decide (a.1=k))=(jl kvs k).isSome
 | []=>rfl
 |p::r=>by
  rw[TZ]
  by_cases e:p.1=k
  .erw[kU e,RX e,Bool.true_or,Option.isSome_some]
  .rw[kX e,Ry e,Bool.false_or];exact qC k r
theorem qD(kvs:List (κ×V))(k:κ)(v:V):(putK kvs k v).length<=kvs.length+1:=by
 unfold putK;split
 .rw[Rn];lia
 .rw[Ru,RD,Uv];lia
theorem eN.fJ{o:Option V}{u:Option Value}(r:eN o u):o.isSome=u.isSome:=by
 cases o with
 |none=>cases u with
  |none=>rfl
  |some _=>exact(show False from r).elim
 |some _=>cases u with
  |none=>exact(show False from r).elim
  |some _=>rfl
theorem KV.val{kvs:List (κ×V)}{vs:List (κ×Value)}(r:KV kvs vs)(k:κ):eN (jl kvs k) (valueAt vs k):=by
 unfold KV at r
 induction r with
 |nil=>exact True.intro
 |@cons p q ps a h t f=>
  let⟨d,g⟩:=h
  by_cases e:p.1=k
  .have c:q.1=k:=d.symm.trans e;have b:valueAt (q::a) k=some q.2:=by simp[valueAt,Tz,c]
   rw[kU e,b];exact g
  .have c:¬q.1=k:=λ z=>e (d.trans z);have b:valueAt (q::a) k=valueAt a k:=by simp[valueAt,Tz,c]
   rw[kX e,b];exact f
theorem KV.any{kvs:List (κ×V)}{vs:List (κ×Value)}(r:KV kvs vs)(k:κ):(kvs.any λ a=>decide (a.1=k))=vs.any λ a=>decide (a.1=k):=by
 unfold KV at r
 induction r with
 |nil=>rfl
 |cons h t b=>rw[TZ,TZ,b,h.1]
theorem KV.repl{kvs:List (κ×V)}{vs:List (κ×Value)}(r:KV kvs vs)(k:κ){u:Value}(c:RelV y u) :
  KV (kvs.map λ a=>if a.1=k then (a.1,y) else a) (vs.map λ a=>if a.1=k then (a.1,u) else a):=by
 unfold KV at r ⊢
 induction r with
 |nil=>exact .nil
 |@cons p q ps g h t d=>
  rw[RU,RU];refine .cons ?_ d;let⟨b,f⟩:=h
  by_cases e:p.1=k
  .rw[Rf e,Rf (b.symm.trans e)];exact⟨b,c⟩
  .rw[Ri e,Ri (λ z=>e (b.trans z))];exact⟨b,f⟩
theorem KV.put{kvs:List (κ×V)}{vs:List (κ×Value)}(r:KV kvs vs)(k:κ){u:Value}(a:RelV y u):KV (putK kvs k y) (stored vs k u):=by
 unfold putK stored;rw[r.any k]
 by_cases e:(vs.any λ b=>decide (b.1=k))=true
 .rw[Rf e,Rf e];exact r.repl k a
 .rw[Ri e,Ri e];exact Paired.snoc r ⟨rfl,a⟩
theorem KV.length{kvs:List (κ×V)}{vs:List (κ×Value)}(r:KV kvs vs):kvs.length=vs.length:=Vj r
end
theorem qE{k:Key}{u:Value}(r:RelV (kV k) u):(aW P w).is k u=true:=by
 cases k with
 |inl i=>let⟨t,e⟩:=(show ∃t,u=Value.int i t from r);subst e;exact jR P w i t
 |inr x=>let⟨t,e⟩:=(show ∃t,u=Value.str x t from r);subst e;exact jS P w x t
theorem nc:∀{ks:List Key} {us:List Value},Vals (ks.map kV) us->ItemsAre (aW P w) ks us
 | [],_,r=>by rw[Vi] at r;cases r;exact .nil
 |k::ks,_,r=>by
  rw[RU] at r;cases r with
  |cons h t=>exact .cons (qE h) (nc t)
abbrev KT(H:Hp):List (List Key×V)->List (List Key×Addr×Value)->Prop:=Paired λ p q=>p.1=q.1/\H q.2.1=some (.tup (p.1.map kV))/\RelV p.2 q.2.2
theorem KT.val(r:KT H kvs xs)(k:List Key):eN (jl kvs k) ((atKey xs k).map (·.2)):=by
 induction r with
 |nil=>exact True.intro
 |@cons p q ps a h t f=>
  let⟨d,_,g⟩:=h
  by_cases e:p.1=k
  .have c:q.1=k:=d.symm.trans e;have b:atKey (q::a) k=some q.2:=by simp[atKey,Tz,c]
   rw[kU e,b];exact g
  .have c:¬q.1=k:=λ z=>e (d.trans z);have b:atKey (q::a) k=atKey a k:=by simp[atKey,Tz,c]
   rw[kX e,b];exact f
theorem KT.repl(r:KT H kvs xs)(k:List Key){u:Value}(d:RelV y u) :
  KT H (kvs.map λ b=>if b.1=k then (b.1,y) else b) (xs.map (putAt k u)):=by
 induction r with
 |nil=>exact .nil
 |@cons p q ps i h t f=>
  rw[RU,RU];refine .cons ?_ f;let⟨a,c,g⟩:=h;unfold putAt
  by_cases e:p.1=k
  .rw[Rf e,Rf (a.symm.trans e)];exact⟨a,c,d⟩
  .rw[Ri e,Ri (λ z=>e (a.trans z))];exact⟨a,c,g⟩
theorem KT.put(r:KT H kvs xs)(k:List Key){b:Addr}{u:Value}(d:H b=@(.tup (k.map kV)))(a:RelV y u) :
  KT H (putK kvs k y) (storedH xs k b u):=by
 have e:(kvs.any λ c=>decide (c.1=k))=(atKey xs k).isSome:=by
  rw[qC,(r.val k).fJ,UD]
 unfold putK storedH;rw[e]
 by_cases q:(atKey xs k).isSome=true
 .rw[Rf q,Rf q];exact r.repl k a
 .rw[Ri q,Ri q];exact Paired.snoc r ⟨rfl,d,a⟩
theorem KT.keeps{a:Hp}(r:KT H kvs xs)(c:∀b ys,H b=some (.tup ys)->a b=@(.tup ys)):KT a kvs xs:=
 Paired.Gb r λ _ _ z=>⟨z.1,c _ _ z.2.1,z.2.2⟩
section
variable{P:Program}{w:World}{H:Hp}{h:Heap}{a:Addr}
theorem EB{u:HO}(b:fQ P w H h)(e:Rd H a u):aX P w H h a u:=e.ok b
theorem uH{kvs:List (Key×V)}(b:fQ P w H h)(e:Rd H a (.dK kvs)):kvs.length<=sizeLine/\(a==sysModules)=false/\∃vs,KV kvs vs/\h.DictOf (aW P w) a vs:=
 show aX P w H h a (.dK kvs) from EB b e
theorem KS{kvs:List (Key×V)}(b:fQ P w H h)(e:H a=@(.dK kvs)):kvs.length<=sizeLine/\(a==sysModules)=false/\∃vs,KV kvs vs/\h.DictOf (aW P w) a vs:=uH b (.inl e)
theorem sZ{ks:List Key}(c:fQ P w H h)(e:H a=@(.tup (ks.map kV))):(tupleKind (aW P w)).is h ks a:=by
 let⟨_,b,r,o,g,f,n,d⟩:=(show aX P w H h a (.tup (ks.map kV)) from c a _ e);exact⟨o,b.toArray,n,g,f.1,d,by simpa using nc r⟩
theorem EC(d:fQ P w H h)(e:Rd H a (.dT kvs)):kvs.length<=sizeLine/\(a==sysModules)=false/\
  ∃xs,KT H kvs xs/\h.DictOfH (tupleKind (aW P w)) a xs:=by
 let⟨z,y,xs,r,o,u,v,s,n,k,j,i⟩:=(show aX P w H h a (.dT kvs) from EB d e);refine⟨z,y,xs,r,o,u,v,s,n,k,j,λ x b=>?_,i⟩;have c:∀{l:List (List Key×V)} {m:List (List Key×Addr×Value)},KT H l m->∀x∈m,(tupleKind (aW P w)).is h x.1 x.2.1:=by
  intro l m q
  induction q with
  |nil=>intro x b;exact nomatch b
  |@cons p q ps A f t g=>
   intro x b;rcases Rk.mp b with e | b
   .subst e;exact sZ d (by rw[<-f.1];exact f.2.1)
   .exact g x b
 exact c r x b
end
def Cw(H:Hp)(a:Addr)(y:V)(r:Option V):Prop:=
 (∃kvs k,Rd H a (.dK kvs)/\y=kV k/\r=jl kvs k)\/∃kvs k b,Rd H a (.dT kvs)/\y=.ref b/\H b=some (.tup (k.map kV))/\r=jl kvs k
def KU(H:Hp)(a:Addr)(y v:V)(c:Hp):Prop:=
 (∃kvs k,H a=some (.dK kvs)/\y=kV k/\kvs.length<sizeLine/\c=upd H a (.dK (putK kvs k v)))\/
 ∃kvs k b,H a=some (.dT kvs)/\y=.ref b/\H b=some (.tup (k.map kV))/\kvs.length<sizeLine/\c=upd H a (.dT (putK kvs k v))
theorem Cw.k{a:Addr}{kvs:List (Key×V)}{k:Key}(e:H a=@(.dK kvs)):Cw H a (kV k) (jl kvs k):=.inl ⟨kvs,k,.inl e,rfl,rfl⟩
theorem KU.k{a:Addr}{kvs:List (Key×V)}{k:Key}{v:V}(e:H a=@(.dK kvs))(b:kvs.length<sizeLine):KU H a (kV k) v (upd H a (.dK (putK kvs k v))):=.inl ⟨kvs,k,e,rfl,b,rfl⟩
section
variable{X:Cx}{aa:List (Addr×Obj)}{Y:St}{H:Hp}{s:Shared}{a:Addr}{y v:V}{u r:Value}{o:Option V}{A:Around}{E:Value->Shared->Prop}
theorem Inv.big(I:Inv X aa Y H s):sysModules<s⁻¹:=by
 have h:mainGlobals<s⁻¹:=(I.mod.glob.keeps I.bk).lt;exact Vy 'd' h
theorem NH{Q:Value->Shared->Prop}(n:A.units+1<cLine)(I:Inv X aa Y H s)(g:Cw H a y o)(m:RelV y u)(h:∀j,Inv X aa Y H j->Q (.bool o.isSome) j) :
  wpAny (model X.prog X.w) A (compareOp .In u (.ref a)) Q E s:=by
 rcases g with⟨kvs,k,e,f,l⟩ | ⟨kvs,k,b,e,f,p,l⟩
 .subst f;let⟨z,d,t,c,i⟩:=uH I.hok e;refine wpAny_in_of (qE m) d i.mapOf ?_;rw[<-(c.val k).fJ,<-l];exact h _ (I.tok _)
 .subst f;cases (show u=Value.ref b from m);let⟨z,d,xs,c,i⟩:=EC I.hok e;refine wpAny_in_heap (tupleKind_room_in1 n) (sZ I.hok p) d i ?_;have q:=(c.val k).fJ;rw[UD] at q;rw[<-q,<-l];exact h _ (I.tok _)
theorem Cy{Q:Value->Shared->Prop}(n:A.units+1<cLine)(I:Inv X aa Y H s)(g:Cw H a y o)(m:RelV y u)(h:∀j,Inv X aa Y H j->Q (.bool (!o.isSome)) j) :
  wpAny (model X.prog X.w) A (compareOp .NotIn u (.ref a)) Q E s:=by
 rcases g with⟨kvs,k,e,f,l⟩ | ⟨kvs,k,b,e,f,p,l⟩
 .subst f;let⟨z,d,t,c,i⟩:=uH I.hok e;refine Ve (qE m) d i.mapOf ?_;rw[<-(c.val k).fJ,<-l];exact h _ (I.tok _)
 .subst f;cases (show u=Value.ref b from m);let⟨z,d,xs,c,i⟩:=EC I.hok e;refine wpAny_notIn_heap (tupleKind_room_in1 n) (sZ I.hok p) d i ?_;have q:=(c.val k).fJ;rw[UD] at q;rw[<-q,<-l];exact h _ (I.tok _)
theorem CA{h':Heap}{t':Nat}{c:HO}(I:Inv X aa Y H s)(f:Kc (H a))(g:Heap.SameBut a s.heap h')(h:∃q,h'.get? a=some q)(d:aX X.prog X.w (upd H a c) h' a c) :
  Inv X aa Y (upd H a c) {s with heap:=h',toks:=t'}:=
 I.write (x:=a) (e:=a) f (.inl rfl) (λ b q i z=>(g.2 b i).trans z) h d
theorem GW{e:Hp}{h':Heap}{kvs:List (Key×V)}{vs:List (Key×Value)}(z:kvs.length<=sizeLine)(c:(a==sysModules)=false)(b:KV kvs vs)(d:h'.DictOf (aW P w) a vs) :
  aX P w e h' a (.dK kvs):=⟨z,c,vs,b,d⟩
end
theorem qF(h:Heap)(a:sysModules<h.objs.size):aX P w H (h.push {cls:=.type "dict",data:=.dict #[]}) h.objs.size (.dK []):=
 ⟨TL _,SK.mpr (Ne.symm (Rb a)),[],.nil,Heap.DictOf.new h⟩
def oX:List (TE×TE)->St->Hp->(List (V×V)->Hp->Prop)->Prop
 | [],_,H,Q=>Q [] H
 |(tk,a)::r,Y,H,Q=>tk Y H λ x d=>a Y d λ y c=>oX r Y c λ ps b=>Q ((x,y)::ps) b
abbrev VV:List (V×V)->List (Value×Value)->Prop:=Paired λ p q=>RelV p.1 q.1/\RelV p.2 q.2
def Jh(X:Cx)(pos:Pos)(b:List (Option Expr))(a:List Expr)(h:List (TE×TE)):Prop:=
 ∀(d:List (Addr×Obj)) (s:Shared) (Y:St) (H:Hp) (Q:List (V×V)->Hp->Prop),Inv X d Y H s->oX h Y H Q->
  wpAny (model X.prog X.w) X.A (evalPairs (pairTrees b a X.env pos)) (λ f g=>∃c e,Inv X d Y e g/\VV c f/\Q c e) X.xe s
theorem CC:Jh X pos [] [] []:=λ a s Y H Q I h=>pairTrees_nil_walk ⟨[],H,I,.nil,h⟩
theorem yN{k v:Expr}{ks:List (Option Expr)}{vs:List Expr}{tk c:TE}{d:List (TE×TE)}(q:PE X k tk)(o:PE X v c)(p:Jh X pos ks vs d) :
  Jh X pos (some k::ks) (v::vs) ((tk,c)::d):=λ b s Y H Q I h=>
 pairTrees_cons_walk (bF (q b s Y H _ I h) λ u f ⟨x,C,z,i,m⟩=>bF (o b f Y C _ z m) λ E e ⟨y,B,t,g,l⟩=>
  bF (p b e Y B _ t l) λ D F ⟨n,A,r,a,j⟩=>⟨(x,y)::n,A,r,.cons ⟨i,g⟩ a,j⟩)
def eZ(kvs a:List (Key×V)):List (Key×V):=a.foldl (λ b c=>putK b c.1 c.2) kvs
theorem KV.merge:∀{a:List (Key×V)} {b:List (Key×Value)} {kvs:List (Key×V)} {vs:List (Key×Value)},KV a b->KV kvs vs->KV (eZ kvs a) (merged vs b):=by
 intro a b kvs vs r;unfold KV at r
 induction r generalizing kvs vs with
 |nil=>intro q;exact q
 |@cons p q ps f h t d=>
  intro c;have e:KV (putK kvs p.1 p.2) (stored vs q.1 q.2):=by
   have:=c.put p.1 h.2;rw[<-h.1];exact this
  exact d e
theorem ig:∀(a kvs:List (Key×V)),(eZ kvs a).length<=kvs.length+a.length
 | [],kvs=>by show kvs.length<=kvs.length+0;lia
 |p::r,kvs=>by
  have c:=ig r (putK kvs p.1 p.2);have b:=qD kvs p.1 p.2;show (eZ (putK kvs p.1 p.2) r).length<=_;rw[RD];lia
theorem kY{P:Program}{w:World}:∀{kvs:List (Key×V)} {ws:List (Value×Value)},VV (kvs.map λ e=>(kV e.1,e.2)) ws->∃d,Carries (aW P w) ws d/\KV kvs d
 | [],_,r=>by rw[Vi] at r;cases r;exact⟨[],True.intro,.nil⟩
 |p::kvs,_,r=>by
  rw[RU] at r;cases r with
  |@cons a b as bs h t=>
   let⟨d,c,q⟩:=kY (P:=P) (w:=w) t;let⟨g,f⟩:=b;exact⟨(p.1,f)::d,⟨qE h.1,rfl,c⟩,.cons ⟨rfl,h.2⟩ q⟩
def KW(d:List (TE×TE)):TE:=fun Y H Q=>∀p,H p=none->oX d Y (upd H p (.dK [])) λ c b=>b p=some (.dK [])/\∃kvs:List (Key×V),c=kvs.map (λ a=>(kV a.1,a.2))/\kvs.length<=15/\Q (.ref p) (upd b p (.dK (eZ [] kvs)))
theorem CD{b:List (Option Expr)}{d:List Expr}{k:List (TE×TE)}(h:Jh X pos b d k)(f:b.all (·.isSome)=true)(A:b.length=d.length)(E:b≠[])
  (K:b.length<=15):PE X (.Dict b d pos) (KW k):=by
 intro J s Y H Q I q;have x:=I.hok.fresh (Q7 s⁻¹);have L:=I.laid (a:=s⁻¹) (o:=.dK []) (h':=s.heap.push {cls:=.type "dict",data:=.dict #[]}) (t':=s.toks) (λ _ _ q=>Q3 _ q) (Q7 _) (qF s.heap I.big);refine wpAny_Dict_walk (knd:=aW X.prog X.w) f A E K (bF (h J _ Y _ _ L (q _ x)) λ M N ⟨O,S,j,i,e,kvs,F,R,r⟩=>?_);subst F;let⟨m,c,n⟩:=kY (P:=X.prog) (w:=X.w) i;let⟨z,C,l,p,G⟩:=KS j.hok e;cases p;refine⟨m,c,G,λ h' g u=>⟨.ref s⁻¹,_,?_,rfl,r⟩⟩;have t:(eZ [] kvs).length<=sizeLine:=by
  have D:=ig kvs [];rw[Uv] at D;rw[S3];lia
 have B:∃q,h'.get? s⁻¹=some q:=let ⟨q,_,_,v,_⟩:=g;⟨q,v⟩;exact CA j (by rw[e];exact True.intro) u B (GW t C (n.merge .nil) g)
end L2
namespace Att
open PySem PySem.W PySem.Calls PyProof.Rows List
theorem kc{P:Params}{h:Heap}:∀(ns:List Int) (vs:List Value),WellAll P h vs (ns.map WData.int)->IntsAre vs ns:=by
 intro ns
 induction ns with
 |nil=>
  intro vs w;rw[Vi] at w;cases w;exact .nil
 |cons n ns c=>
  intro vs w;rw[RU] at w;cases w with
  |cons a b=>
   cases a;exact .cons _ _ (c _ b)
theorem wK{l:OpenLaw}{n:Nat}(t:l.most=some n){P:Params}{h:Heap}{args:List WData}{b:List Value}
  (c:l.row.toRowW.claim.pre args=true) (i:WellAll P h b args) :
  ∃a vs ns,b=[Value.ref a]/\args=[WData.list (ns.map WData.int)]/\h.get? a=some {cls:=.type "list",data:=.seq vs.toArray}/\IntsAre vs ns/\ns.length<=n:=by
 have j:WShape.hasAll [] args [.list .int]=true:=(pre_splitW c).1;have k:l.pre.holds [] {args:=args}=true:=(pre_splitW c).2;let⟨d,r,rfl,w,v⟩:=hasAllW_cons j;obtain rfl:=hasAllW_nil v;let⟨x,rfl,u⟩:=hasW_list w;let⟨ns,rfl⟩:=items_int u;have e:ns.length<=n:=by
  unfold OpenLaw.pre at k;have g:(WTm.not (.lt (.lit (.int (n:Int))) (.len (.arg 0)))).holds [] {args:=[.list (ns.map .int)]}=true:=by
   have g:=(holds_andW k).1;rw[t] at g;exact g
  have f:=condW_of g (w_not (w_lt w_lit (w_len_list (w_arg rfl))));rw[Rn] at f;refine UO λ q=>?_;have p:(n:Int)<((ns.length:Nat):Int):=by lia
  first
   |(rw[RX p] at f;exact absurd f 'd')
   |(simp at f;lia)
 cases i with
 |cons o m=>
  cases m;cases o with
  |list s hall=>exact⟨_,_,ns,rfl,rfl,s,kc ns _ hall,e⟩
theorem wM(l:OpenLaw)(args:List WData):l.row.toRowW.claim.post args (.bool true) args=true:=
 postW_of (r:=l.row.toRowW) (X:=(true==true))
  (show WShape.has [] (.bool true) .bool=true by first | rfl | decide | simp[WShape.has,WShape.arms,WShape.armsAll])
  (show (WTm.eq .res (.lit (.bool true))).value [] {args:=args,res:=@(.bool true),after:=args}=some (.bool (true==true)) from w_eq_bool (w_res rfl) w_lit) rfl
theorem qG{l:OpenLaw}{n:Nat}{q:Program}{e:List Str}{I:(Str->Option Value)->Heap->Prop}{H:World->Heap->Prop}{d:DefRec}
  (N:l.most=some n) (A:d.params.defaults=[])
  (p:∀(w:World) (c b:Shared) (t x:Str->Option Value) (m:Addr) (o:Obj) (v u h:Value) (a:Addr) (vs:List Value) (ns:List Int),
   Ground q e [] I w c t x b.heap->H w b.heap->
   b.heap.get? m=some o->o.data=.func (docDef d.name d.params d.body d.scope v u h)->b.heap.CodeRec u d.name->t d.name=some (.ref m)->
   b.heap.get? a=some {cls:=.type "list",data:=.seq vs.toArray}->IntsAre vs ns->ns.length<=n->b.gens=#[]->
   codeAny (model l.prog w) callerA (.call (.ref m) ⟨[.ref a],[]⟩) (λ r s=>r=.ok (.ret (.bool true))/\OldK b.heap s.heap/\s.os=b.os/\AllBare s.gens) b) :
  WalkO q e I H l.row.toRowW d [] (λ f vs=>PySem.call f vs):=by
 intro w c b t x G W m o v u h V J M R B E z Q F C X i D K y P;obtain rfl:V=.none:=Dflts.none E A;obtain rfl:J=.none:=Dflts.noKw E;let⟨a,vs,ns,rfl,rfl,j,g,k⟩:=wK N i y;refine enter_call (So (p w c b t x m o v u h a vs ns G W M (fd_plain R) B z j g k Q) λ r s L=>?_);let⟨rfl,U,T,S⟩:=L;exact⟨.inl ⟨.bool true,.bool true,[],rfl,λ _=>rfl,.bool true,wM l _,λ _=>⟨List.Pairwise.nil,λ _ O=>(nomatch O)⟩⟩,U,T,S⟩
end Att
namespace L2
open PySem PySem.Spec PyProof.Rows List
theorem nh:∀{vs:List Value} {ns:List Int},IntsAre vs ns->Vals (ns.map V.int) vs
 |_,_,.nil=>.nil
 |_,_,.cons n t h=>.cons ⟨t,rfl⟩ (nh h)
def GX(H:Hp):Prop:=∀b,H b=none\/∃o a,H b=@(.frz o (.lst a))
theorem yO{P:Program}{w:World}{K:ae}{t L:Str->Option Value}{CX:uC}{k:Nat}{N a:Addr}{Z:FuncData}{x:Str}{sp:Sp}{c:Shared}{vs:List Value}{ns:List Int}
  (KX:K.In c.heap) (B:c.heap.Ns mainGlobals t) (f:c.heap.Ns builtinsNs L) (Pe:∀x:Str,x≠"__name__"->L x=bootBuiltins x) (C:c.heap.NoLimit) (hg:c.gens=#[])
  (I:c.heap.get? a=some {cls:=.type "list",data:=.seq vs.toArray}) (U:IntsAre vs ns) (T:ns.length<=sizeLine) (hr:bP k callerA)
  (F:∀i:Heap,K.In i->i.Ns mainGlobals t->cg P w K t i CX k N Z [x] sp) (l:∀(s:Shared) (u:Value),BindsTo s Z ⟨[u],[]⟩ [(x,u)])
  (sR:∀H:Hp,GX H->fS K H a (ns.map V.int)->sp [.ref a] H (λ v _=>v=.bl true) λ _ _ _=>False)
  (NK:∀H e g,CX [] H c (λ _ _ _=>False) e g->False) :
  codeAny (model P w) callerA (.call (.ref N) ⟨[.ref a],[]⟩) (λ r g=>r=.ok (.ret (.bool true))/\OldK c.heap g.heap/\g.os=c.os/\AllBare g.gens) c:=by
 have S:=nh U;have NL:=U.length;have j:∀H:Hp,GX H->fS K H a (ns.map V.int)->fQ P w H c.heap->(∀b,H b≠none->b=a)->(H a≠none->K.lookup a=none)->
   codeAny (model P w) callerA (.call (.ref N) ⟨[.ref a],[]⟩) (λ r g=>r=.ok (.ret (.bool true))/\OldK c.heap g.heap/\g.os=c.os/\AllBare g.gens) c:=by
  intro H X hS A Y hK;have R:∀{b:Addr} {o:Obj},c.heap.get? b=some o->H b=none->(oH c.heap H).get? b=some o:=λ e n=>yk e n;have KJ:∀{b:Addr} {o:Obj} {D:Array DictEntry} {E:Nat},c.heap.get? b=some o->o.data=.dict D E->H b=none:=λ {b o D E} e d=>by
   cases q:H b with
   |none=>rfl
   |some u=>
    have O:b=a:=Y b (by rw[q];simp);subst O;rw[I] at e;cases e;have d':Data.seq vs.toArray _=Data.dict D E:=d;cases d'
  have J:∀{b:Addr} {m:Str->Option Value},c.heap.Ns b m->(oH c.heap H).Ns b m:=λ {b m} ⟨o,D,E,e,d,r⟩=>⟨o,D,E,R e (KJ e d),d,r⟩;have Pf:K.In (oH c.heap H):=λ b o e=>R (KX b o e) (by
   cases q:H b with
   |none=>rfl
   |some u=>
    have O:b=a:=Y b (by rw[q];simp);subst O;rw[hK (by rw[q];simp)] at e;cases e)
  have hM:Mod K t (oH c.heap H):=⟨Pf,J B,⟨L,J f,Pe⟩,let ⟨mc,h1,h2⟩:=C;⟨mc,J h1,h2⟩⟩;have e0:sQ P w K t (oH c.heap H) callerA [] c H:=⟨rfl,hM,λ b o e=>BP e,Vu (wm _ _),trivial,λ b f=>absurd (show b∈([]:List Addr) from f) 's',A,.of_eq hg⟩;refine So ((F _ Pf (J B)).run callerA [] c H ⟨[.ref a],[]⟩ [.ref a] [.ref a] _ _ hr e0 (l c (.ref a)) %[|rfl] (sR H X hS)) λ r g h=>?_;cases r with
  |error e=>exact(NK H e g h).elim
  |ok fl=>
   cases fl with
   |next=>exact False.elim h
   |brk=>exact False.elim h
   |cont=>exact False.elim h
   |ret u=>
    let⟨v,H',os,G,Q,y,r',q⟩:=h;have q':v=.bl true:=q;subst q';obtain rfl:u=Value.bool true:=r';refine⟨rfl,OldK.of_keep λ b o e=>?_,os,G⟩;cases q:H b with
    |none=>exact Q.keep b o e q (by intro z;exact absurd (show b∈([]:List Addr) from z) 's') 's'
    |some u=>
     rcases X b with z | ⟨ob,xs,z⟩
     .rw[q] at z;cases z
     .have z2:=Q.gw b ob _ z;let⟨e1,_⟩:=A b _ z;let⟨e2,_⟩:=y b _ z2;rw[e] at e1;cases e1;exact e2
 cases M:K.lookup a with
 |some o=>
  have e:=KX a o M;rw[I] at e;cases e;refine j (λ _=>none) (λ _=>.inl rfl) (.inr ⟨_,vs.toArray,_,M,rfl,rfl,rfl,by rw[Q9,NL];exact T,~~~S⟩) (λ b u z=>by have p:(none:Option HO)=some u:=z;cases p) (λ b z=>absurd rfl z) λ z=>absurd rfl z
 |none=>
  refine j (λ b=>if b=a then some (.frz {cls:=.type "list",data:=.seq vs.toArray} (.lst (ns.map V.int))) else none) (λ b=>?_) (.inl (.inr ⟨{cls:=.type "list",data:=.seq vs.toArray},Rf rfl⟩)) (λ b u z=>?_) (λ b z=>?_) λ _=>M
  .by_cases f:b=a
   .exact .inr ⟨_,_,Rf f⟩
   .exact .inl (Ri f)
  .by_cases f:b=a
   .have p:=(Rf f).symm.trans z;cases p;subst f;exact⟨I,by rw[Rn];exact T,vs,_,S,I⟩
   .have p:=(Ri f).symm.trans z;cases p
  .by_cases f:b=a
   .exact f
   .exact absurd (Ri f) z
theorem CG{l:PySem.W.OpenLaw}{n k:Nat}{q:Program}{i:List Str}{Y:(Str->Option Value)->Heap->Prop}{E:World->Heap->Prop}{d:DefRec}{K:Params->ae}{CX:World->uC}{sp:World->Sp}{x:Str}
  (M:l.most=some n) (z:n<=sizeLine) (B:d.params.defaults=[]) (L:bP k callerA)
  (Q:∀(w:World) (h:Heap),E w h->(K w.params).In h)
  (F:∀(w:World) (m:Str->Option Value) (t:Addr) (h:Heap),(K w.params).In h->h.Ns mainGlobals m->m d.name=some (.ref t)->
   ∃C:FuncData,(∀(s:Shared) (u:Value),BindsTo s C ⟨[u],[]⟩ [(x,u)])/\
    ∀base:Heap,(K w.params).In base->base.Ns mainGlobals m->cg l.prog w (K w.params) m base (CX w) k t C [x] (sp w))
  (J:∀(w:World) (H:Hp) (a:Addr) (ns:List Int),ns.length<=n->GX H->fS (K w.params) H a (ns.map V.int)->sp w [.ref a] H (λ v _=>v=.bl true) λ _ _ _=>False)
  (NK:∀(w:World) (H:Hp) (s:Shared) (e:Value) (y:Shared),CX w [] H s (λ _ _ _=>False) e y->False) :
  PySem.W.WalkO q i Y E l.row.toRowW d [] (λ f vs=>PySem.call f vs):=by
 refine Att.qG M B λ w D p m mb t o pm cd X a vs ns G Z ho hd O A r j c N=>?_;have I:=Q w _ Z;let⟨C,P,U⟩:=F w m t _ I G.T.g A;exact yO I G.T.g G.T.b G.T.builtins G.T.nolimit N r j (Rv c z) L U P (λ H S R=>J w H a ns c S R) λ H e y=>NK w H p e y
def inClass(s:Stmt)(j:Nat):Stmt:=match s with
 |.ClassDef _ _ _ body _ _ _ _ _ _ _=>body.getD j (.Pass ⟨0,0,0,0⟩)
 |_=>.Pass ⟨0,0,0,0⟩
def gQ(s:Stmt):Arguments:=match s with
 |.FunctionDef _ a _ _ _ _ _ _ _ _=>a
 |_=>{posonlyargs:=[],args:=[],vararg:=none,kwonlyargs:=[],kw_defaults:=[],kwarg:=none,defaults:=[]}
def cH(s:Stmt):List Stmt:=match s with
 |.FunctionDef _ _ b _ _ _ _ _ _ _=>b
 |_=>[]
def aJ(s:Stmt):Scope:=match s with
 |.FunctionDef _ _ _ _ _ _ sc _ _ _=>sc
 |_=>{kind:=.function,names:=[],isGenerator:=false,isCoroutine:=false}
abbrev yg:uC:=λ _ _ _ _ _ _=>False
abbrev E0:XK:=λ _ _ _=>False
structure ED(K:ae)(x qual:Str)(st:Stmt)(f:Addr)(fd:FuncData):Prop where
 ex:∃(oc:Value) (od:Option Addr) (kV doc pm:Value) (an:Option Addr) (cdv ct:Value) (osl:Array (Option Value)),
  fd=PySem.W.fnOf x qual (gQ st) (cH st) (aJ st) .none kV doc pm an cdv ct/\K.lookup f=some ⟨oc,od,.func fd,osl⟩/\PySem.W.codeIn K cdv qual=true
 kp:PySem.W.keepIn K (.ref f)=true
section
variable{P:Program}{w:World}{K:ae}{mg:Str->Option Value}{base:Heap}
theorem ED.ok{x qual:Str}{st:Stmt}{f:Addr}{e:FuncData}{N ps:List Str}{k:Nat}{sp:Sp}(F:ED K x qual st f e)(S:fV N ps (aJ st))(c:∀vs H Q E,sp vs H Q E->vs.length=ps.length)
  (b:∀(a:Value) (A:Around) (outer:List Env) (s:Shared) (H:Hp) (vs:List V) (Q:VK) (E:XK),bP k (A.deeper (envOfC qual (aJ st) s⁻¹ f a))->sp vs H Q E->
   ∃t,iD (iL yg P w K mg base N qual (aJ st) f a A outer s H E).dD (cH st) t/\t {nx:=λ _ n=>Q .non n,rt:=Q} (start N vs) H):cg P w K mg base yg (k+1) f e ps sp:=by
 let⟨r,p,u,m,o,y,a,v,i,rfl,j,d⟩:=F.ex;refine Ey j d S c λ A outer s H vs Q E l g=>?_;let⟨t,h,q⟩:=b a A outer s H vs Q E l g;exact⟨t,h.dD,q⟩
theorem GY{x qual:Str}{st:Stmt}{f:Addr}{j:Value}{i h:Option Addr}{d:Array (Option Value)}{g b e a ct:Value}(l:K.lookup f=some ⟨j,i,.func (PySem.W.fnOf x qual (gQ st) (cH st) (aJ st) .none g b e h a ct),d⟩)
  (c:PySem.W.codeIn K a qual=true) (k:PySem.W.keepIn K (.ref f)=true):ED K x qual st f (PySem.W.fnOf x qual (gQ st) (cH st) (aJ st) .none g b e h a ct):=⟨⟨j,i,g,b,e,h,a,ct,d,rfl,l,c⟩,k⟩
end
variable{P:Program}{env:Env}{its:Array Value}{w:World}
def fR:List Nat->St->St
 | [],Y=>Y
 |j::r,Y=>fR r (Y.set j none)
theorem uJ:∀(js:List Nat) (Y:St),(fR js Y).length=Y.length
 | [],_=>rfl
 |j::r,Y=>by rw[fR,uJ r,UZ]
theorem qH:∀{js:List Nat} {Y:St} {i:Nat} {v:V},(fR js Y)[i]?=some (some v)->Y[i]?=some (some v)/\i∉js
 | [],_,_,_,h=>⟨h,by simp⟩
 |j::r,Y,i,v,h=>by
  let⟨a,c⟩:=qH (js:=r) h
  by_cases e:j=i
  .subst e;rw[Vz] at a;rw[Rf rfl] at a;split at a<;>cases a
  .rw[RN e] at a;exact⟨a,λ b=>(Rk.mp b).elim (λ q=>e q.symm) c⟩
def dz(env:Env):List (Str×NameKind)->List (Str×Addr)->List (Str×Addr)
 | [],acc=>acc
 |(n,k)::r,acc=>dz env r (if k==.free then (match env.cells.lookup n with | some c=>(n,c)::acc | none=>acc) else acc)
theorem ir:∀(names:List (Str×NameKind)) (b:List (Str×Addr)),(∀y∈names,y.2=.free->∃c,env.cells.lookup y.1=some c)->
  (forIn (m:=Sem) names b λ x r=>match x with | (name,kind)=>if (kind==NameKind.free)=true then do let a <-cellOf env name;pure (ForInStep.yield ((name,a)::r)) else pure (ForInStep.yield r))=pure (dz env names b)
 | [],b,_=>rfl
 |(n,k)::r,b,h=>by
  rw[forIn_cons];have d:=λ b=>ir r b λ y g=>h y (Ro _ g)
  by_cases f:k=.free
  .subst f;let⟨c,e⟩:=h (n,.free) RG rfl;have e:env.cells.lookup n=some c:=e;erw[Sj,RQ,cellOf,e,pure_bind,dz];exact d _
  .have i:(k==NameKind.free)=false:=by simpa using f
   erw[i,RA,Rz,pure_bind,dz];exact d _
theorem mF{scope:Scope}(h:∀y∈scope.names,y.2=.free->∃c,env.cells.lookup y.1=some c):closureFor scope env=pure (dz env scope.names []):=by
 have q:=ir (env:=env) scope.names [] h;erw[closureFor]
 first
  |(rw[q];rfl)
  |(erw[pure_bind,bind_pure_comp,map_pure] at q ⊢;rw[q];rfl)
  |exact(TR (· >>= pure) q)
  |trace_state
theorem jm{x:Str}{c:Addr}:∀(names:List (Str×NameKind)) (a:List (Str×Addr)),(∀c,a.lookup x=some c->env.cells.lookup x=some c)->(dz env names a).lookup x=some c->env.cells.lookup x=some c
 | [],a,h,e=>h _ e
 |(n,k)::r,a,h,e=>by
  refine jm r _ ?_ e;intro i b;split at b
  .split at b
   .ext g e2
    by_cases d:x=n
    .subst d;erw[Rl,Sj] at b;cases b;exact e2
    .have f:(x==n)=false:=by simpa using d
     erw[Rl,f] at b;exact h _ b
   .exact h _ b
  .exact h _ b
theorem ni{x:Str}:∀(names:List (Str×NameKind)) (a:List (Str×Addr)),(∃c,a.lookup x=some c)->∃c,(dz env names a).lookup x=some c
 | [],a,h=>h
 |(n,k)::r,a,h=>by
  refine ni r _ ?_;split
  .split
   .ext f e2
    by_cases b:x=n
    .subst b;exact⟨f,by simp[Rl]⟩
    .have d:(x==n)=false:=by simpa using b
     let⟨c,e⟩:=h;exact⟨c,by erw[Rl,d];exact e⟩
   .exact h
  .exact h
theorem jn{x:Str}:∀(names:List (Str×NameKind)) (a:List (Str×Addr)),(x,NameKind.free)∈names->(∃c,env.cells.lookup x=some c)->∃c,(dz env names a).lookup x=some c
 |(n,k)::r,a,hm,⟨c,e⟩=>by
  rcases Rk.mp hm with q | q
  .cases q;refine ni r _ ⟨c,?_⟩;erw[Sj,RQ,e,Rl]
  .exact jn r _ q ⟨c,e⟩
structure fW(N:List Str)(js:List Nat)(scope Ph:Scope):Prop where
 kind:scope.kind=.function
 cell:∀y∈scope.names,y.2=.cell->scope.names.lookup y.1=some .cell
 loc:∀y∈scope.names,y.2=.local->scope.names.lookup y.1=some .local
 own:∀p∈N.zipIdx,(scope.names.lookup p.1=some .local\/scope.names.lookup p.1=some .cell)->p.2∈js
 free:∀y∈scope.names,y.2=.free->Ph.names.lookup y.1=some .cell\/Ph.names.lookup y.1=some .free
theorem d9{env:Env}:∀{names:List (Str×NameKind)} {x:Str} {b:NameKind},
  (names.map λ (n,k)=>if (k==NameKind.free&&env.scope.kind==.function&&env.kindOf n==some .cell) then (n,NameKind.cell) else (n,k)).lookup x=some b->
  ∃k,names.lookup x=some k/\(b=k\/(k=.free/\b=.cell))
 | [],_,_,h=>by simp at h
 |(n,k)::r,x,b,h=>by
  have g:=@d9 env r x b;have h:List.lookup x ((if (k==NameKind.free&&env.scope.kind==.function&&env.kindOf n==some .cell)=true then (n,NameKind.cell) else (n,k))::(r.map λ (n,k)=>if (k==NameKind.free&&env.scope.kind==.function&&env.kindOf n==some .cell) then (n,NameKind.cell) else (n,k)))=some b:=h
  by_cases c:(k==NameKind.free&&env.scope.kind==.function&&env.kindOf n==some .cell)=true
  .rw[Rf c] at h;have i:k=.free:=by
    erw[Q5] at c;simpa using c.1.1
   cases a:x==n with
   |true=>
    erw[Rl,a] at h;cases h;exact⟨k,by simp[Rl,a],.inr ⟨i,rfl⟩⟩
   |false=>
    erw[Rl,a] at h;let⟨f,e,d⟩:=g h;exact⟨f,by erw[Rl,a];exact e,d⟩
  .rw[Ri c] at h;cases a:x==n with
   |true=>
    erw[Rl,a] at h;cases h;exact⟨k,by simp[Rl,a],.inl rfl⟩
   |false=>
    erw[Rl,a] at h;let⟨f,e,d⟩:=g h;exact⟨f,by erw[Rl,a];exact e,d⟩
abbrev Cx.comp(X:Cx)(scope:Scope)(cl:List (Str×Addr))(a:Shared)(H₀:Hp)(b:List Addr)(c:List (Addr×Obj)):Cx:=
 {X with s₀:=a,H₀:=H₀,env:=compEnvC scope cl a⁻¹ X.env,outer:=X.stack,stack:=X.stack,ex:=b,fn:=λ x=>scope.names.lookup x==some .cell,pn:=X.pn++c,xe:=λ _ _=>False}
section
variable{X:Cx}{aa:List (Addr×Obj)}{Y:St}{H:Hp}{s:Shared}{scope:Scope}{js:List Nat}{fp:List Addr}
theorem kZ(c:fW X.N js scope X.env.scope){x:Str}(d:(relabel scope X.env).names.lookup x=some .cell\/(relabel scope X.env).names.lookup x=some .free) :
  scope.names.lookup x=some .cell\/(scope.names.lookup x=some .free/\(x,NameKind.free)∈scope.names/\(X.env.kindOf x=some .cell\/X.env.kindOf x=some .free)):=by
 have k:∃a,(relabel scope X.env).names.lookup x=some a/\(a=.cell\/a=.free):=by
  rcases d with h | h
  .exact⟨_,h,.inl rfl⟩
  .exact⟨_,h,.inr rfl⟩
 let⟨a,h,f⟩:=k;let⟨k,e,r⟩:=d9 h;have b:k=.free->scope.names.lookup x=some .cell\/(scope.names.lookup x=some .free/\(x,NameKind.free)∈scope.names/\(X.env.kindOf x=some .cell\/X.env.kindOf x=some .free)):=λ g=>by
  subst g;exact .inr ⟨e,RY e,c.free _ (RY e) rfl⟩
 rcases r with r | r
 .subst r;rcases f with z | z
  .subst z;exact .inl e
  .exact b z
 .exact b r.1
theorem GZ{x:Str}:∀{names:List (Str×NameKind)} {n:Nat} {a:List (Str×Addr)},(∀y∈names,y.2=.cell->y.1≠x)->(cellsFrom n names a).lookup x=a.lookup x:=by
 intro names
 induction names with
 |nil=>intro n a _;rw[S9]
 |cons y r e=>
  intro n a h;rw[S9];let⟨d,k⟩:=y;have f:=λ y g=>h y (Ro _ g)
  by_cases b:k=.cell
  .have c:(k==NameKind.cell)=true:=by simpa using b
   erw[c,RQ];rw[e f];have:=h (d,k) RG b;have i:(x==d)=false:=by simpa using this.symm
   erw[Rl,i]
  .have c:(k==NameKind.cell)=false:=by simpa using b
   erw[c,RA,Rz];exact e f
structure yP(n:Nat)(h:Heap)(cells:List (Str×Addr)):Prop where
 below:∀x c,cells.lookup x=some c->c<n
 inj:∀x y c,cells.lookup x=some c->cells.lookup y=some c->x=y
 cell:∀x c,cells.lookup x=some c->∃v,h.IsCell c v
theorem KY{lo:Nat}{base:List (Str×Addr)}:∀{names:List (Str×NameKind)} {h:Heap} {b:List (Str×Addr)},yP h.objs.size h b->lo<=h.objs.size->(∀x c,b.lookup x=some c->base.lookup x=some c\/lo<=c)->
  yP (pushCells h names).objs.size (pushCells h names) (cellsFrom h.objs.size names b)/\∀x c,(cellsFrom h.objs.size names b).lookup x=some c->base.lookup x=some c\/lo<=c:=by
 intro names
 induction names with
 |nil=>intro h b F _ m;rw[S9,pushCells.eq_def];exact⟨F,m⟩
 |cons y r q=>
  intro h b F j m;rw[S9,pushCells.eq_def];let⟨d,k⟩:=y
  by_cases t:k=.cell
  .have p:(k==NameKind.cell)=true:=by simpa using t
   erw[p,RQ];have g:(h.push {cls:=.type "cell",data:=.cell none}).objs.size=h.objs.size+1:=R7 ..;rw[<-g];refine q ⟨λ x c e=>?_,λ x y c l i=>?_,λ x c e=>?_⟩ (by rw[g];lia) λ x c e=>?_
   .rw[g]
    by_cases a:x=d
    .subst a;erw[Rl,Sj] at e;cases e;exact SR _
    .have a:(x==d)=false:=by simpa using a
     erw[Rl,a] at e;exact Su (F.below x c e)
   .by_cases a:x=d
    .by_cases f:y=d
     .exact a.trans f.symm
     .subst a;have f:(y==x)=false:=by simpa using f
      erw[Rl,Sj] at l;erw[Rl,f] at i;cases l;exact absurd (F.below y _ i) (SQ _)
    .have n:(x==d)=false:=by simpa using a
     erw[Rl,n] at l
     by_cases f:y=d
     .subst f;erw[Rl,Sj] at i;cases i;exact absurd (F.below x _ l) (SQ _)
     .have f:(y==d)=false:=by simpa using f
      erw[Rl,f] at i;exact F.inj x y c l i
   .by_cases a:x=d
    .subst a;erw[Rl,Sj] at e;cases e;exact⟨none,_,Ra _ rfl,rfl⟩
    .have a:(x==d)=false:=by simpa using a
     erw[Rl,a] at e;let⟨v,o,u,z⟩:=F.cell x c e;exact⟨v,o,Q3 _ u,z⟩
   .by_cases a:x=d
    .subst a;erw[Rl,Sj] at e;cases e;exact .inr j
    .have a:(x==d)=false:=by simpa using a
     erw[Rl,a] at e;exact m x c e
  .have p:(k==NameKind.cell)=false:=by simpa using t
   erw[p,RA,Rz];exact q F j m
theorem G0{x:Str}{lo:Nat}:∀{names:List (Str×NameKind)} {n:Nat} {a:List (Str×Addr)} {c:Addr},lo<=n->((x,NameKind.cell)∈names\/∀c,a.lookup x=some c->lo<=c)->(cellsFrom n names a).lookup x=some c->lo<=c:=by
 intro names
 induction names with
 |nil=>intro n a c _ h e;rw[S9] at e;exact(h.resolve_left 's') c e
 |cons y r j=>
  intro n a c d h e;rw[S9] at e;let⟨i,k⟩:=y
  by_cases f:k=.cell
  .have g:(k==NameKind.cell)=true:=by simpa using f
   erw[g,RQ] at e;refine j (Nat.le_succ_of_le d) ?_ e
   by_cases b:x=i
   .subst b;refine .inr λ c e=>?_;erw[Rl,Sj] at e;cases e;exact d
   .rcases h with h | h
    .rcases Rk.mp h with q | q
     .cases q;exact absurd rfl b
     .exact .inl q
    .refine .inr λ c e=>h c ?_;have b:(x==i)=false:=by simpa using b
     simpa only[Rl,b] using e
  .have g:(k==NameKind.cell)=false:=by simpa using f
   erw[g,RA,Rz] at e;refine j d ?_ e;rcases h with h | h
   .rcases Rk.mp h with q | q
    .cases q;exact absurd rfl f
    .exact .inl q
   .exact .inr h
structure CF(X:Cx)(scope:Scope)(n:Nat)(h:Heap)(cells:List (Str×Addr)):Prop where
 inj:∀x y c,cells.lookup x=some c->cells.lookup y=some c->x=y
 cell:∀x c,cells.lookup x=some c->∃v,h.IsCell c v
 old:∀x c,cells.lookup x=some c->X.env.cells.lookup x=some c\/n<c
 has:∀x,scope.names.lookup x=some .cell->∃c,cells.lookup x=some c
 out:∀x,scope.names.lookup x=some .free->cells.lookup x=(dz X.env scope.names []).lookup x
 own:∀x c,scope.names.lookup x=some .cell->cells.lookup x=some c->n<=c
theorem Inv.comp(I:Inv X aa Y H s)(n:fW X.N js scope X.env.scope)(C:∀b∈fp,jj X aa H b){a:Heap}{d:Str->Option Value}{tk:Nat}{cells:List (Str×Addr)}
  (t:∀b∈fp,b<s⁻¹) (T:a.Ns s⁻¹ d) (B:∀b o,s.heap.get? b=some o->a.get? b=some o) (hm:∀x,d x=none) (F:CF X scope s⁻¹ a cells) :
  Inv (X.comp scope cells s H fp aa) [] (fR js Y) H {s with heap:=a,toks:=tk}:=by
 have y:∀x,(x,NameKind.free)∈scope.names->∃c,X.env.cells.lookup x=some c:=λ x E=>I.ok.has x (n.free _ E rfl);have D:∀x c,(dz X.env scope.names []).lookup x=some c->X.env.cells.lookup x=some c:=λ x c e=>jm _ _ 's' e;have l:=I.ji;have V:=I.lt;refine⟨⟨I.mod,n.kind,I.ok.glob,I.ok.blt,Q7 _,F.inj,λ x E=>?_,λ x c z e=>F.own x c (~~~z) e,I.ok.hd,I.ok.frames,.inl rfl,λ b f=>⟨Rb (t b f),λ x c e=>?_⟩,
  λ b o e=>I.bs b o e,Rv I.ok.bsz I.sz,λ b o e f=>?_,λ b f z=>?_,I.stack,λ b f=>I.kB b f⟩,rfl,I.bare,Un.kept B,⟨d,T,λ i x v L e2 h=>?_⟩,λ x c e=>F.cell x c e,I.hok.fresh (Q7 _),λ x c e=>?_,λ p J=>?_,I.hok.kept B,?_⟩
 .rcases kZ n E with g | ⟨g,j,A⟩
  .exact F.has x g
  .show ∃c,cells.lookup x=some c;rw[F.out x g];exact jn _ _ j (y x j)
 .rcases F.old x c e with e | e
  .exact(C b f).2.2.2.2.1 x c e
  .exact Sn (Vy (t b f) e)
 .have q:=(C b f).2.2.2.1;rcases q with q | q
  .exact I.ok.noex b o e q
  .exact absurd (Q6 e) (U0.mpr (Rv I.ok.bsz q))
 .rcases Rk.mp (l b z) with q | q
  .exact(C b f).2.1 q
  .exact(C b f).2.2.1 q
 .let⟨c1,c2⟩:=qH e2;have h:(relabel scope X.env).names.lookup x=some .local\/(relabel scope X.env).names.lookup x=some .cell\/(relabel scope X.env).names.lookup x=some .free:=h;have M:∀{P:Prop},(scope.names.lookup x=some .local\/scope.names.lookup x=some .cell)->P:=λ G=>absurd (n.own (x,i) (by rw[mem_zipIdx_iff_getElem?];exact L) G) c2;rcases h with h | h
  .let⟨k,G,r⟩:=d9 h;have:k=.local:=by
    rcases r with r | ⟨_,r⟩
    .exact r.symm
    .cases r
   subst this;exact M (.inl G)
  .rcases kZ n h with g | ⟨g,j,A⟩
   .exact M (.inr g)
   let⟨m,U,W⟩:=I.loc;let⟨u,O,S⟩:=W i x v L c1 (.inr A);refine⟨u,O,.inr ⟨h,?_⟩⟩;rcases S with⟨q,_⟩ | ⟨_,c,R,Q⟩
   .rcases A with z | z<;>(rw[z] at q;cases q)
   .let⟨c',K⟩:=jn _ [] j (y x j);have:=D _ _ K;rw[R] at this;cases this;exact⟨c,(F.out x g).trans K,Q.keeps B⟩
 .rcases F.old x c e with e | e
  .exact I.freeC x c e
  .exact I.hok.fresh (US e)
 .rw[R6] at J;let⟨g,j,A,h4,Z⟩:=I.pin p J;refine⟨B _ _ g,j,Rb (Q6 g),λ z=>?_,Z⟩;rcases Rk.mp (l _ z) with q | q
  .exact A q
  .exact h4 q
 .rw[uJ];exact I.len
theorem Inv.enter(I:Inv X aa Y H s)(p:fW X.N js scope X.env.scope)(B:∀b∈fp,jj X aa H b)(n:∀b∈fp,b<s⁻¹){Q:Env->Shared->Prop}{E:Value->Shared->Prop}
  (h:∀(cells:List (Str×Addr)) (a:Heap),(∀b o,s.heap.get? b=some o->a.get? b=some o)->CF X scope s⁻¹ a cells->Inv (X.comp scope cells s H fp aa) [] (fR js Y) H {s with heap:=a}->
   Q {scope:=scope,locals:=s⁻¹,globals:=X.env.globals,cells:=cells,qual:=X.env.qual,func:=none,code:=X.env.code,frame:=X.env.frame,builtins:=X.env.builtins} {s with heap:=a}) :
  wpAny (model X.prog X.w) X.A (newFunctionEnv scope X.env.globals (dz X.env scope.names []) [] X.env.qual none .none (some X.env)) Q E s:=by
 unfold newFunctionEnv;refine Q2 (wpAny_alloc ?_);refine Q2 (wpAny_layCells _ (λ _ _ _=>rfl) _ _ _ _ ?_);refine Q2 (Q8 (Q8 ?_));have i:(s.heap.push {cls:=.type (if (some X.env).isSome=true then "dict" else "frame"),data:=.dict #[]}).objs.size=s⁻¹+1:=R7 ..;have d:∀x c,(dz X.env scope.names []).lookup x=some c->X.env.cells.lookup x=some c:=λ x c e=>jm _ _ 's' e;have r:∀x c,(dz X.env scope.names []).lookup x=some c->∃v,s.heap.IsCell c v:=λ x c e=>I.cell x c (d x c e);have L:yP (s.heap.push {cls:=.type (if (some X.env).isSome=true then "dict" else "frame"),data:=.dict #[]}).objs.size (s.heap.push {cls:=.type (if (some X.env).isSome=true then "dict" else "frame"),data:=.dict #[]}) (dz X.env scope.names []):=by
  refine⟨λ x c e=>?_,λ x y c J G=>I.ok.inj x y c (d _ _ J) (d _ _ G),λ x c e=>?_⟩
  .let⟨v,o,l,_⟩:=r x c e;rw[i];exact Su (Q6 l)
  .let⟨v,o,l,D⟩:=r x c e;exact⟨v,o,Q3 _ l,D⟩
 let⟨t,K⟩:=KY (lo:=s⁻¹+1) (base:=X.env.cells) (names:=scope.names) L (by rw[i];exact Q7 _) (λ x c e=>.inl (d x c e));have j:∀b o,s.heap.get? b=some o->(pushCells (s.heap.push {cls:=.type (if (some X.env).isSome=true then "dict" else "frame"),data:=.dict #[]}) scope.names).get? b=some o:=λ b o e=>pushCells_keeps _ _ _ _ (Q3 _ e);have k:∀x,scope.names.lookup x=some .cell->∀c,(cellsFrom (s.heap.push {cls:=.type (if (some X.env).isSome=true then "dict" else "frame"),data:=.dict #[]}).objs.size scope.names (dz X.env scope.names [])).lookup x=some c->s⁻¹<=c:=λ x f c e=>G0 (by rw[i];exact Tc _) (.inl (RY f)) e;have F:CF X scope s⁻¹ (pushCells (s.heap.push {cls:=.type (if (some X.env).isSome=true then "dict" else "frame"),data:=.dict #[]}) scope.names) (cellsFrom (s.heap.push {cls:=.type (if (some X.env).isSome=true then "dict" else "frame"),data:=.dict #[]}).objs.size scope.names (dz X.env scope.names [])):=by
  refine⟨t.inj,t.cell,λ x c e=>?_,λ x f=>?_,λ x f=>?_,λ x c f e=>k x f c e⟩
  .rcases K x c e with q | q
   .exact .inl q
   .exact .inr q
  .have:=TX scope.names (s.heap.push {cls:=.type (if (some X.env).isSome=true then "dict" else "frame"),data:=.dict #[]}).objs.size (dz X.env scope.names []) (.inl f);exact S6.mp this
  .refine GZ λ y u z e=>?_;have:=p.cell y u z;rw[e,f] at this;cases this
 have m:(pushCells (s.heap.push {cls:=.type (if (some X.env).isSome=true then "dict" else "frame"),data:=.dict #[]}) scope.names).Ns s⁻¹ λ _=>none:=by
  have g:(s.heap.push {cls:=.type (if (some X.env).isSome=true then "dict" else "frame"),data:=.dict #[]}).get? s⁻¹=some {cls:=.type (if (some X.env).isSome=true then "dict" else "frame"),data:=.dict #[]}:=Ra _ rfl;refine⟨_,_,_,pushCells_keeps _ _ _ _ g,rfl,?_,?_⟩
  .intro e C;simp at C
  .intro M;rfl
 exact h _ _ j F (I.comp (tk:=s.toks) p B n m j (λ _=>rfl) F)
theorem fQ.off{h h':Heap}{C:Addr}(x:fQ P w H h)(c:H C=none)(k:∀b o,b≠C->h.get? b=some o->h'.get? b=some o):fQ P w H h':=λ a o e=>
 (x a o e).stay (λ b u d q=>k b u (by
  rintro rfl;rcases d with z | z
  .rw[z,e] at c;cases c
  .rw[z] at c;cases c) q) (λ _ q=>q) λ _ _ q=>q
theorem Inv.G1(I:Inv X aa Y H s){h:St}{l:Hp}{i:Shared}{cl:List (Str×Addr)}(f:∀b∈fp,jj X aa H b)(c:Inv (X.comp scope cl s H fp aa) [] h l i){h':Heap}
  (d:∀b o,b≠s⁻¹->i.heap.get? b=some o->h'.get? b=some o):Inv X aa Y l {i with heap:=h'}:=by
 have r:l s⁻¹=none:=c.free;have j:∀b o,s.heap.get? b=some o->b≠s⁻¹:=λ b o e=>Rb (Q6 e);have u:=c.base;refine I.Ep (ch:=fp) c.os ⟨λ b o e n k a=>d b o (j b o e) (u.keep b o e n k a),λ b o e n k a=>?_,u.free,λ b o e a=>?_,u.tups,u.gw,u.g8⟩ (c.hok.off r d) c.bare λ b g=>⟨(f b g).2.2.2.1,(f b g).2.1,(f b g).2.2.2.2.1,(f b g).2.2.2.2.2⟩
 .let⟨m,q⟩:=u.slot b o e n k a;exact⟨m,d _ _ (j b o e) q⟩
 .let⟨p,q⟩:=u.there b o e a;exact⟨p,d _ _ (j b o e) q⟩
end
def k9(X:Cx)(ifs:List Expr)(t:TT):Prop:=
 ∀(a:List (Addr×Obj)) (s:Shared) (Y:St) (H:Hp) (Q:Bool->Hp->Prop),Inv X a Y H s->t Y H Q->
  wpAny (model X.prog X.w) X.A (forIn ifs true λ c r=>if r=true then do let ok <-isTrue c X.env (eval c X.env);pure (ForInStep.yield ok) else pure (ForInStep.yield r)) (TP X a Y Q) X.xe s
def NO:TT:=λ _ H Q=>Q true H
theorem yQ{X:Cx}:k9 X [] NO:=λ a s Y H Q I h=>wpAny_tests_nil ⟨H,I,h⟩
theorem yR{X:Cx}{c:Expr}{t:TT}(h:PT X c t):k9 X [c] t:=λ a s Y H Q I q=>wpAny_tests_one (h a s Y H Q I q)
mutual
inductive Dt(K:ae)(H:Hp):V->PyData->Prop
 |non:Dt K H .non .none
 |bl (b):Dt K H (.bl b) (.bool b)
 |int (i):Dt K H (.int i) (.int i)
 |str (x):Dt K H (.str x) (.str x)
 |lst {a xs ds}:fS K H a xs->EF K H xs ds->Dt K H (.ref a) (.list ds)
 |tup {a xs ds}:dw K H a xs->EF K H xs ds->Dt K H (.ref a) (.tuple ds)
inductive EF(K:ae)(H:Hp):List V->List PyData->Prop
 |nil:EF K H [] []
 |cons {x xs d ds}:Dt K H x d->EF K H xs ds->EF K H (x::xs) (d::ds)
end
section
variable{X:Cx}{aa:List (Addr×Obj)}{Y:St}{H:Hp}{s:Shared}
mutual
theorem Inv.reads(I:Inv X aa Y H s):∀{v:V} {d:PyData} {u:Value},Dt X.K H v d->RelV v u->∃g,Reads s.heap u d g
 |_,_,_,.non,r=>by cases r;exact⟨_,.none⟩
 |_,_,_,.bl b,r=>by cases r;exact⟨_,.bool b⟩
 |_,_,_,.int i,r=>by let⟨t,rfl⟩:=r;exact⟨_,.int i t⟩
 |_,_,_,.str x,r=>by let⟨t,rfl⟩:=r;exact⟨_,.str x t⟩
 |_,_,_,.lst h t,r=>by
  cases r;let⟨its,a,p,j⟩:=I.list h;let⟨o,ho,f,n,e⟩:=p.isList;let⟨g,c⟩:=I.readsAll t a;exact⟨_,.list ho f e (~~~c)⟩
 |_,_,_,.tup h t,r=>by
  cases r;let⟨its,a,p,j⟩:=I.tuple h;let⟨o,ho,f,n,e⟩:=p;let⟨g,c⟩:=I.readsAll t a;exact⟨_,.tuple ho f e (~~~c)⟩
theorem Inv.readsAll(I:Inv X aa Y H s):∀{v:List V} {d:List PyData} {u:List Value},EF X.K H v d->Vals v u->∃c,ReadsAll s.heap u d c
 |_,_,_,.nil,.nil=>⟨_,.nil⟩
 |_,_,_,.cons h t,.cons r rs=>by
  let⟨c,a⟩:=I.reads h r;let⟨e,b⟩:=I.readsAll t rs;exact⟨_,.cons a b⟩
end
def NP(K:ae):R2:=λ x y H Q=>∃d e,Dt K H x d/\Dt K H y e/\d.canLay0=true/\e.canLay0=true/\d.depth<=60/\Q (.bl (PyData.eqv d e)) H
def NQ(K:ae):R2:=λ x y H Q=>∃d e,Dt K H x d/\Dt K H y e/\d.canLay0=true/\e.canLay0=true/\d.depth<=60/\Q (.bl (!PyData.eqv d e)) H
theorem G2(l:X.A.units+64<cLine):fU X (compareOp .Eq) (NP X.K):=by
 intro aa s Y H x y v u Q I b a h;let⟨d,e,k,j,i,g,m,q⟩:=h;let⟨o,f⟩:=I.reads k b;let⟨n,c⟩:=I.reads j a;exact PySem.SeqAt.compareEq_reads f c i g (by have:min d.depth e.depth<=d.depth:=Nat.min_le_left _ _;lia) ⟨.bl _,H,I,rfl,q⟩
theorem G3(l:X.A.units+64<cLine):fU X (compareOp .NotEq) (NQ X.K):=by
 intro aa s Y H x y v u Q I b a h;let⟨d,e,k,j,i,g,m,q⟩:=h;let⟨o,f⟩:=I.reads k b;let⟨n,c⟩:=I.reads j a;exact PySem.SeqAt.compareNe_reads f c i g (by have:min d.depth e.depth<=d.depth:=Nat.min_le_left _ _;lia) ⟨.bl _,H,I,rfl,q⟩
end
section
variable{X:Cx}
theorem yS(a:List Bool):((List.range a.length).all λ i=>a.getD i true)=a.all id:=by
 induction a with
 |nil=>rfl
 |cons b r c=>
  rw[RD,range_succ_eq_map,Ux,U1,Ux];show (b&&_)=(b&&_);rw[<-c];rfl
theorem yT(E:X.A.handled=none):cj X (.builtin "all") (λ xs H Q=>∃(p:Addr) (a:List Bool),xs=[.ref p]/\fS X.K H p (a.map V.bl)/\Q (.bl (a.all id)) H):=by
 intro N s Y H xs F Q I r h;let⟨p,a,rfl,C,q⟩:=h;let⟨u,rfl,x⟩:=vals1 r;cases x;let⟨its,k,B,J⟩:=I.list C;have j:=B.isList;have g:p<s⁻¹:=by let⟨_,e,_⟩:=j;exact Q6 e
 have d:=k.length;rw[Rn] at d;refine call_all_walk (TV j ?_);refine⟨_,_,_,_,_,_,(λ i=>a.getD i true),rfl,Walks.list (A:=X.A.in1) E s⁻¹ p (Rb g) its.toArray,⟨⟨_,Ra _ rfl,rfl,rfl⟩,j.push _⟩,?_,?_⟩
 .intro i v G O R f c;have f:its[i]?=some v:=by simpa using f
  have L:i<its.length:=(Q4.mp f).1;have m:i<a.length:=by lia
  have e:(a.map V.bl)[i]?=some (V.bl (a[i])):=by simp[m]
  let⟨u,l,y⟩:=k.get e;rw[f] at l;cases l;cases y;have:a.getD i true=a[i]:=by simp[List.getD,m]
  dsimp only at c;rw[this] at c;exact Se c
 .intro M t D;have e:((List.range its.toArray.size).all λ i=>a.getD i true)=a.all id:=by
   rw[Q9,<-d];exact yS a
  rw[e];refine⟨.bl _,H,I.kept (t':=t) λ b o n=>D b o (λ z=>?_) (Q3 _ n),rfl,q⟩;rw[RZ] at z;exact Rb (Q6 n) z
theorem jo{x:V}:∀{xs:List V} {us:List Value},Vals xs us->xs.all fH=true->us.countP (GU x)=xs.countP λ y=>qA y x
 |_,_,.nil,_=>rfl
 |_,_,.cons r t,h=>by
  erw[Ux,Q5] at h;rw[countP_cons,countP_cons,jo t h.2,sX r h.1]
def CH:V->List V->Hp->VK->Prop:=λ x b H Q=>∃l a i y,x=.ref l/\b=[.int i,y]/\H l=some (.lst a)/\0<=i/\i<=a.length/\a.length<sizeLine/\Q .non (upd H l (.lst (a.take i.toNat++[y]++a.drop i.toNat)))
theorem wN:EA X "list.insert" CH:=by
 intro D s Y H x k v m Q I c d h;let⟨l,j,i,y,rfl,rfl,b,C,B,p,q⟩:=h;cases c;let⟨u,v,rfl,f,a⟩:=d.two;let⟨t,rfl⟩:=f;let⟨z,its,n,r,A,e⟩:=I.yK b;have o:(sizeLine:Nat)<2^63:=gy;refine T8 F.slot_list_insert ⟨_,e,rfl⟩ F.entry_list_insert (F.args_list_insert_3 _ _ _) (PySem.AutoListH.list_insert_list_int_val_1 l its.toArray n i t v ?_ (by rw[Q9];lia)) ⟨e,?_⟩
 .simp[Builtin.List.listFitsIndex];lia
 .refine⟨.non,_,I.mE (its':=its.take i.toNat++[v]++its.drop i.toNat) b e ?_ (((r.take _).append %[|a]).append (r.drop _)) ?_,rfl,q⟩
  .have g:¬i<0:=by lia
   erw[g,Rz,Q9];have:min i.toNat its.length=i.toNat:=by lia
   rw[this];apply Array.ext';simp[Th]
  .erw[Ru,Sb,Ud,UM];lia
end
def asc(z:Str):Bool:=z.cps.all (· < 128)
def NR(z:Str):It:=⟨λ i _=>i<z.cps.size,λ i H x a=>a=H/\∃c,z.cps[i]?=some c/\x=.str ⟨#[c]⟩,λ i _=>z.cps.size<=i⟩
theorem yU{K:ae}{x:Expr}(z:Str)(t:Tok)(it:Addr):Turn P w K x (NR z) [it] it (λ i h=>h.IsStrIter it "str_ascii_iterator" z t i) where
 mem:=by simp
 obj:=λ i h st b f=>by
  obtain rfl:b=it:=by simpa using f
  let⟨o,e,c,d⟩:=st;exact⟨o,e,λ v q=>by rw[d] at q;cases q⟩
 keep:=λ i h j st k=>let ⟨o,e,r⟩:=st;⟨o,k it 's' o e,r⟩
 item:=by
  intro X l hw m hc i u s Y H E I hf st a;subst l hw m;have a:i<z.cps.size:=a;let⟨f0,f1,f2,p,f4,n⟩:=hf it 's';refine wpAny_pyNext_ascii_item st (c:=z.cps[i]) (by simp[a]) λ j g y=>?_;have B:Inv X u Y H {s with heap:=j,toks:=s.toks+1}:=I.turned (λ b o f e=>(y.2 b f).trans e) f0 f1 p f4 n;let⟨o,e,c,d⟩:=id g;exact⟨_,rfl,ux (s:={s with heap:=j,toks:=s.toks+1}) e c d 'd' ⟨.str ⟨#[z.cps[i]]⟩,H,B,⟨_,rfl⟩,⟨rfl,_,by simp[a],rfl⟩,g,λ b f=>(hf b f).1⟩⟩
 done:=by
  intro X l hw m hc i u s Y H E I hf st a;subst l hw m;have a:z.cps.size<=i:=a;let⟨f0,f1,f2,p,f4,n⟩:=hf it 's';exact wpAny_pyNext_ascii_end (I.ok.hd hc) st (by simp[a]) λ j A=>⟨rfl,I.turned (t':=s.toks) (λ b o f e=>A b o f e) f0 f1 p f4 n⟩
 self:=λ _ _ _ _ _ st h=>wpAny_pyIter_striter_ascii st h
section
variable{X:Cx}{tg:Expr}
def NS(a:TE):TI:=fun Y H R=>a Y H λ x b=>∃z,x=.str z/\asc z=true/\R (NR z) b
theorem G4{l:Expr}{d:TE}(i:PE X l d):PI X tg l (NS d):=by
 intro m s Y H R I h;refine bF (i m s Y H _ I h) λ v a ⟨x,n,c,f,g⟩=>?_;let⟨z,rfl,k,q⟩:=g;let⟨t,rfl⟩:=f;refine wpAny_pyIter_ascii k ?_;refine⟨a⁻¹,[a⁻¹],_,_,n,rfl,c.kept (t':=a.toks) λ b o e=>Q3 _ e,yU z t _,⟨_,Ra _ rfl,rfl,rfl⟩,λ b j=>?_,q⟩;obtain rfl:b=a⁻¹:=by simpa using j
 exact c.qh (Q7 _) (c.hok.fresh (Q7 _))
end
def MD(K:ae)(a:Addr):It:=
 ⟨λ i H=>∃b x,fS K H a b/\b[i]?=some x,λ i H x c=>∃p v,H p=none/\x=.ref p/\c=upd H p (.tup [.int i,v])/\∀b,fS K H a b->b[i]?=some v,λ i H=>∃b,fS K H a b/\b.length<=i⟩
theorem wO{K:ae}{elts:List Expr}{Z}{pos:Pos}(a e it:Addr)(y:e≠it) :
  Turn P w K (.Tuple elts Z pos) (MD K a) [e,it] e (λ i h=>(∃old,IsEnum h e it (i:Int) old)/\h.IsListIter it a i) where
 mem:=by simp
 obj:=λ i h st b f=>by
  let⟨⟨old,he⟩,o,t,hc,hd⟩:=st;rcases Rk.mp f with rfl | f
  .refine⟨_,he,λ v q=>?_⟩;have q':Data.fields _=Data.cell v:=q;cases q'
  .obtain rfl:b=it:=by simpa using f
   exact⟨o,t,λ v q=>by rw[hd] at q;cases q⟩
 keep:=λ i h h' st k=>by
  let⟨⟨old,he⟩,o,t,r⟩:=st;exact⟨⟨old,k e 's' _ he⟩,o,k it 's' o t,r⟩
 item:=by
  intro X O hw Q hc i V s Y H E I hf st N;subst O hw Q;let⟨xs,x,D,L⟩:=N;let⟨⟨old,he⟩,hit⟩:=st;let⟨its,J,p,hz⟩:=I.list D;let⟨u,hu,ru⟩:=J.get L;let⟨f0,f1,f2,f3,f4,f5⟩:=hf e 's';let⟨F,g1,g2,g3,S,R⟩:=hf it 's';refine wpAny_pyNext_enum_item he hit p.isList (x:=u) (~~~hu) y λ h1 t hi ht hs k1=>⟨_,rfl,?_⟩;have A:e<s⁻¹:=Q6 he;have M:it<s⁻¹:=by let⟨o,q,_⟩:=hit;exact Q6 q
  refine Uy (s:={s with heap:=h1,toks:=s.toks+1}) t λ j hE C=>?_;have l:∀b o,b≠e->b≠it->s.heap.get? b=some o->j.get? b=some o:=λ b o U n2 q=>C.extBut b o U (k1 b o U n2 q);have NT:j.get? s⁻¹=some {cls:=.type "tuple",data:=.seq #[.int i s.toks,u]}:=C.extBut _ _ (Sn A) ht;have hsz2:j.objs.size=s⁻¹+1:=by rw[C.1];exact hs
  have g:H s⁻¹=none:=I.hok.fresh (Q7 _);have nt:∀b o,H b=some o->b≠e/\b≠it:=λ b o q=>⟨(λ z=>by rw[z,f0] at q;cases q),(λ z=>by rw[z,F] at q;cases q)⟩;have hok:fQ X.prog X.w (upd H s⁻¹ (.tup [.int i,x])) j:=by
   have lift:∀b o,H b=some o->aX X.prog X.w (upd H s⁻¹ (.tup [.int i,x])) j b o:=λ b o q=>
    (I.hok b o q).stay (λ c v B r=>l c v (by
     rcases B with z | z
     .rw[z];exact(nt b o q).1
     .exact(nt c _ z).1) (by
     rcases B with z | z
     .rw[z];exact(nt b o q).2
     .exact(nt c _ z).2) r) (λ c r=>by rw[ao (aB r g)];exact r) λ c T r=>by rw[ao (aB r g)];exact r
   intro b o q
   by_cases G:b=s⁻¹
   .subst G;rw[aC] at q;cases q;exact⟨by show 2<=sizeLine;decide,[.int i s.toks,u],.cons ⟨_,rfl⟩ %[|ru],⟨_,NT,⟨rfl,rfl⟩,_,rfl⟩⟩
   .rw[ao G] at q;exact lift b o q
  have I2:Inv X V Y (upd H s⁻¹ (.tup [.int i,x])) {s with heap:=j,toks:=s.toks+1}:=by
   refine I.step (g':=s.gens) (d':=s.drawn) (ch:=[e,it]) (λ b f=>?_) (λ b o hL f d q n=>?_) (λ b o hL f d q n=>?_) (λ b o d q n=>?_) (λ b o d q=>?_) (λ b T q=>by rw[ao (aB q g)];exact q) (λ b o u q=>by rw[ao (aB q g)];exact q)
    (λ b ps q=>⟨#[],by rw[ao (aB q g),q];simp⟩) (λ m hm=>?_) hok I.bare
   .rcases Rk.mp f with rfl | f
    .exact⟨f3,f1,f4,f5⟩
    .obtain rfl:b=it:=by simpa using f
     exact⟨g3,g1,S,R⟩
   .erw[RM,Rx,R0,Uz] at d;exact l b o d.1 d.2 q
   .erw[RM,Rx,R0,Uz] at d;exact⟨o.slots,l b o d.1 d.2 q⟩
   .rw[ao (Rb (Q6 q))];exact n
   .erw[RM,Rx,R0,Uz] at d;exact⟨o,l b o d.1 d.2 q⟩
   .let⟨o,es,ep,q,r⟩:=hm;exact⟨o,es,ep,l _ o (Ne.symm f1) (Ne.symm g1) q,r⟩
  refine⟨.ref s⁻¹,_,I2,rfl,⟨_,x,g,rfl,rfl,λ T hy=>by rw[I.qf hy D];exact L⟩,⟨⟨_,by have:=hE;rw[show ((i:Int)+1)=((i+1:Nat):Int) by lia] at this;exact this⟩,?_⟩,λ b f=>?_⟩
  .let⟨o,q,r⟩:=hi;exact⟨o,C.extBut _ _ (Ne.symm y) q,r⟩
  .rcases Rk.mp f with rfl | f
   .rw[ao (Rb A)];exact f0
   .obtain rfl:b=it:=by simpa using f
    rw[ao (Rb M)];exact F
 done:=by
  intro X O hw Q hc i V s Y H E I hf st N;subst O hw Q;let⟨xs,D,L⟩:=N;let⟨⟨old,he⟩,hit⟩:=st;let⟨its,J,p,hz⟩:=I.list D;let⟨F,g1,g2,g3,S,R⟩:=hf it 's';have hl:=J.length;exact wpAny_pyNext_enum_end (I.ok.hd hc) he hit p.isList (by simp;lia) λ h' G=>⟨rfl,I.turned (t':=s.toks) (λ b o f q=>G b o f q) F g1 g3 S R⟩
 self:=λ _ _ _ _ _ st h=>by
  let⟨⟨old,he⟩,_⟩:=st;exact T3 he h
section
variable{X:Cx}
def KZ(K:ae)(e:TA):TI:=fun Y H R=>e Y H λ d b=>∃a,d=[.ref a]/\(∃c,fS K b a c)/\R (MD K a) b
theorem CI{l:Expr}{j:TA}{p pos d:Pos}{f:List Expr}{o}(B:Gl X "enumerate")(hm:X.mg "enumerate"=none)(ha:PA X [l] j)(hs:starEach [l] X.env=[(false,eval l X.env)]:=by rfl) :
  PI X (.Tuple f o d) (.Call (.Name "enumerate" p) [l] [] pos) (KZ X.K j):=by
 intro m s Y H R I h;refine Call_ (iE I B hm (u:=.type "enumerate") 'k' (SN (bF (ha pos m s Y H _ I h) λ G e ⟨F,n,c,t,v⟩=>?_) hs rfl));let⟨a,rfl,⟨E,z⟩,q⟩:=v;let⟨u,rfl,r⟩:=vals1 t;cases r;let⟨its,J,x,L⟩:=c.list z;refine call_enumerate_list x.isList λ C k g y A=>?_;refine T3 k ?_;have D:Inv X m Y n {e with heap:=C}:=c.kept (t':=e.toks) A;refine⟨_,_,_,_,n,rfl,D,wO a (e⁻¹+1) e⁻¹ (Nat.succ_ne_self _),⟨⟨_,k⟩,g⟩,λ b i=>?_,q⟩;rcases Rk.mp i with rfl | i
 .exact c.qh (Tc _) (c.hok.fresh (Tc _))
 .obtain rfl:b=e⁻¹:=by simpa using i
  exact c.qh (Q7 _) (c.hok.fresh (Q7 _))
end
theorem K0:isSubtype (.type "tuple") (.type "set")=pure false:=by rw[isSubtype_type];kernel_rfl
theorem K1:isSubtype (.type "tuple") (.type "frozenset")=pure false:=by rw[isSubtype_type];kernel_rfl
section
variable{prog:Program}{w:World}{A:Around}{E:Value->Shared->Prop}{s:Shared}
set_option maxHeartbeats 3200000 in
theorem lg{l:Addr}{ns:List Int}{Q:Value->Shared->Prop}
  (hh:A.handled=none) (hl:s.heap.IsTuple l its) (hi:IntsAre its.toList ns) (z:its.size+1<scanBound)
  (h:∀(h':Heap) (tk:Nat),h'.SetOf (intKind prog w) s⁻¹ (λ j=>(firstMet (λ i=>ns.getD i 0) its.size).any (·==j)) (firstMet (λ i=>ns.getD i 0) its.size).length->
   (∀b o,b<s⁻¹->s.heap.get? b=some o->h'.get? b=some o)->Q (.ref s⁻¹) {s with heap:=h',toks:=tk}) :
  wpAny (model prog w) A (call (.type "set") [.ref l]) Q E s:=by
 let⟨cc,tl,V⟩:=F.called_set.mro;have I:=F.called_set.made;have U:=F.called_set.sub;refine Uw (U7 ?_);show wpAny _ _ (callAny (.type "set") _) _ _ _;refine Q8 ⟨TF _ 'k',codeAny_builtin F.entry_type_call ?_⟩;rw[Around.under_plain (weight_type_call_type "set" [.ref l] []) rfl];have k1:=F.called_set.notType;have k2:=F.called_set.canCreate;have k3:=F.typeCall_set_1 (.ref l)
 repeat (any_goals (first | assumption | wp_step))
 refine So (code_set_new_1 (.ref l) (E:=E) (Q₁:=λ O g=>∃a:Bool,O=.ref s⁻¹/\g={s with heap:=s.heap.push {cls:=.type "set",dict:=none,data:=.set #[] 0 (.fresh 0 0 a)}}) λ a=>⟨a,rfl,rfl⟩) λ r g H=>?_;cases r with
 |error e=>exact H
 |ok fl=>
  cases fl with
  |ret O=>
   let⟨a,rfl,rfl⟩:=H;have X:(s.heap.push {cls:=.type "set",dict:=none,data:=.set #[] 0 (.fresh 0 0 a)}).get? s⁻¹=some {cls:=.type "set",dict:=none,data:=.set #[] 0 (.fresh 0 0 a)}:=Ra _ rfl;have gT:Shared.TypeIs {s with heap:=s.heap.push {cls:=.type "set",dict:=none,data:=.set #[] 0 (.fresh 0 0 a)}} (.ref s⁻¹) "set":=⟨_,X,rfl⟩;have k4:=F.called_set.init.lookup;have k5:=F.called_set.init.bind (.ref s⁻¹)
   repeat (any_goals (first | assumption | wp_step))
   refine So (S5 (R:=wants (λ r f=>r=.none/\∃h' tk,f={s with heap:=h',toks:=tk}/\
     h'.SetOf (intKind prog w) s⁻¹ (λ j=>(firstMet (λ i=>ns.getD i 0) its.size).any (·==j)) (firstMet (λ i=>ns.getD i 0) its.size).length/\
     (∀b o,b<s⁻¹->s.heap.get? b=some o->h'.get? b=some o)) E) F.called_set.init.plain F.entry_set_init (check_set_init_1 gT ?_)) λ p f c=>?_
   .let⟨ol,Y,x,S,u⟩:=hl;let⟨N,k,D,d⟩:=ol;simp only at x u;subst x;subst u;have Ql:(s.heap.push {cls:=.type "set",dict:=none,data:=.set #[] 0 (.fresh 0 0 a)}).get? l=some {cls:=.type "tuple",dict:=k,data:=.seq its S,slots:=d}:=Q3 _ Y;have k6:=K0;have k7:=K1;have k8:(Value.type "tuple"==Value.type "dict")=false:=by decide
    have W:(s.heap.push {cls:=.type "set",dict:=none,data:=.set #[] 0 (.fresh 0 0 a)}).IsTuple l its:=⟨_,Ql,rfl,S,rfl⟩;unfold Builtin.«set.__init__» noKeywords Builtin.Frozenset.updateFrom;generalize M:pyIter=PI
    wp_walk
    subst M;refine SV W ?_;refine Q2 (wpAny_runValue ?_);have T:l<s⁻¹:=Q6 Y;have h3:A.in1.in1.in1.handled=none:=by simp[hh]
    have nI:l≠(s.heap.push {cls:=.type "set",dict:=none,data:=.set #[] 0 (.fresh 0 0 a)}).objs.size:=by
     rw[R7];exact Rb (Su T)
    have nS:s⁻¹∉[(s.heap.push {cls:=.type "set",dict:=none,data:=.set #[] 0 (.fresh 0 0 a)}).objs.size,l]:=by
     rw[R7];erw[RM,RZ,Rx,R0,Uz];exact⟨Rb (SR _),Sn T⟩
    have G:∀(i:Nat) (v:Value),its[i]?=some v->∃t,v=.int ((λ i=>ns.getD i 0) i) t:=λ i v G=>
     IntsAre.int_at hi i v (by rw[Array.getElem?_toList];exact G)
    refine codeAny_set_update_loopS ((Walks.tuple h3 _ l nI its).toS) s⁻¹
     nS (λ i=>ns.getD i 0) G z (its.size - 0) 0 _ 'o' (TL _)
     ⟨⟨_,Ra _ rfl,rfl,rfl⟩,(W.push _)⟩ ?hS0 ?hR
    case hS0=>
     have q:((s.heap.push {cls:=.type "set",dict:=none,data:=.set #[] 0 (.fresh 0 0 a)}).push {cls:=.type "tuple_iterator",data:=.fields #[.ref l,.int 0 0]}).get? s⁻¹
       = some {cls:=.type "set",dict:=none,data:=.set #[] 0 (.fresh 0 0 a)}:=Q3 _ X
     exact SetOf_congr ((setObjOf_fresh (knd:=intKind prog w) a).setOf q (by unfold scanBound;lia)) (λ _=>rfl) rfl
    case hR=>
     intro Z y m;let⟨h',g',d',B,C⟩:=Z;have eg:g'=s.gens:=y.gens;have ed:d'=s.drawn:=y.drawn;have eo:C=s.os:=y.os;subst eg;subst ed;subst eo;show wpAny _ _ _ _ _ _;refine Q8 ?_;show wpAny _ _ (ret Value.none) _ _ _;refine Q8 ⟨rfl,h',B,rfl,m,λ b o z e=>?_⟩;have L:b≠s⁻¹:=Rb z;have K:b≠(s.heap.push {cls:=.type "set",dict:=none,data:=.set #[] 0 (.fresh 0 0 a)}).objs.size:=by
      rw[R7];exact Rb (Su z)
     exact y.heap b o (by erw[RM,RZ,Rx,R0,Uz];exact⟨L,K⟩) (Q3 _ (Q3 _ e))
   .cases p with
    |error e=>exact c
    |ok n=>
     cases n with
     |ret r=>
      let⟨rfl,h',tk,rfl,m,J⟩:=c
      repeat (any_goals (first | assumption | wp_step))
      exact h _ _ m J
     |_=>exact c.elim
  |_=>exact H.elim
end
section
variable{X:Cx}
def unlike(ns:List Int):Nat:=(firstMet (λ i=>ns.getD i 0) ns.length).length
theorem wR(n:X.A.handled=none):cj X (.type "set") (λ xs H Q=>∃(a:Addr) (ns:List Int),xs=[.ref a]/\dw X.K H a (ns.map V.int)/\ns.length<=4000/\∀p S,H p=none->Q (.ref p) (upd H p (.set S (unlike ns)))):=by
 intro z s Y H xs v Q I r h;let⟨a,ns,rfl,l,x,q⟩:=h;let⟨u,rfl,i⟩:=vals1 r;cases i;let⟨its,d,k,y⟩:=I.tuple l;have c:=d.length;rw[Rn] at c;refine lg n (show s.heap.IsTuple a its.toArray from k) (by simpa using intsAre_of d) (by rw[Q9];unfold scanBound;lia) λ t g f m=>?_;rw[show its.toArray.size=ns.length by simp[c]] at f;have j:∀b o,s.heap.get? b=some o->t.get? b=some o:=λ b o e=>m b o (Q6 e) e;exact⟨.ref s⁻¹,_,I.laid (t':=g) (o:=.set _ (unlike ns)) j (Q7 _) f,rfl,q _ _ (I.hok.fresh (Q7 _))⟩
theorem mG:cj X (.builtin "len") (λ xs H Q=>∃(a:Addr) (S:Int->Bool) (n:Nat),xs=[.ref a]/\H a=some (.set S n)/\Q (.int n) H):=by
 intro x s Y H xs l Q I r h;let⟨a,S,n,rfl,c,q⟩:=h;let⟨u,rfl,b⟩:=vals1 r;cases b;let⟨o,k,v,t,j,i,g,p,m,f,e,d⟩:=I.hok _ _ c;subst d;refine call_len_set j i g e (by have:k.size<4096:=f;lia) ⟨.int _,H,I.tok _,⟨_,rfl⟩,q⟩
def lq(P:Program)(w:World)(a:Addr)(S:Key->Bool)(n:Nat):HO:=.ext λ h=>h.SetOf (aW P w) a S n
theorem uK{H:Hp}{h:Heap}{a:Addr}{S:Key->Bool}{n:Nat}(x:h.SetOf (aW P w) a S n):aX P w H h a (lq P w a S n):=by
 let⟨o,r⟩:=id x;let⟨m,p,t,e,r⟩:=r;refine⟨x,⟨o,e⟩,λ l j ⟨g,b,c,d,i,f⟩ k=>⟨g,b,c,d,k _ i,f⟩⟩
theorem wU:cj X (.type "set") (λ xs H Q=>xs=[]/\∀p,H p=none->Q (.ref p) (upd H p (lq X.prog X.w p (λ _=>false) 0))):=by
 intro g s Y H xs f Q I r h;let⟨rfl,q⟩:=h;cases r;refine call_set_0 λ c=>?_;have d:(s.heap.push {cls:=.type "set",dict:=none,data:=.set #[] 0 (.fresh 0 0 c)}).get? s⁻¹=some {cls:=.type "set",dict:=none,data:=.set #[] 0 (.fresh 0 0 c)}:=Ra _ rfl;refine⟨.ref s⁻¹,_,I.laid (t':=s.toks) (o:=lq X.prog X.w s⁻¹ (λ _=>false) 0) (λ b o e=>Q3 _ e) (Q7 _) (uK ?_),rfl,q _ (I.hok.fresh (Q7 _))⟩
 letI:BEq Key:=⟨λ a b=>decide (a=b)⟩
 haveI:LawfulBEq Key:={eq_of_beq:=λ h=>SH h,rfl:=RX rfl}
 exact SetOf_congr ((setObjOf_fresh (knd:=aW X.prog X.w) c).setOf d (by unfold scanBound;lia)) (λ _=>rfl) rfl
theorem yV{k:Key}{u:Value}(r:RelV (kV k) u):kM k u=true/\u.scannable=true:=by
 cases k with
 |inl i=>let⟨t,rfl⟩:=r;exact⟨mQ i t,rfl⟩
 |inr x=>let⟨t,rfl⟩:=r;exact⟨mR x t,rfl⟩
def G5(P:Program)(w:World):R2:=λ x y H Q=>∃a S n k,y=.ref a/\x=kV k/\H a=some (lq P w a S n)/\Q (.bl (S k)) H
theorem wV:fU X (compareOp .In) (G5 X.prog X.w):=by
 intro i s Y H x y v u Q I c b h;let⟨a,S,n,k,rfl,rfl,d,q⟩:=h;cases b;let⟨g,f⟩:=yV c;let⟨e,_⟩:=I.hok _ _ d;exact wpAny_inSet_of (knd:=aW X.prog X.w) g f e ⟨.bl _,H,I.tok _,rfl,q⟩
def CJ(P:Program)(w:World):V->List V->Hp->VK->Prop:=λ x b H Q=>∃a S n k,x=.ref a/\b=[kV k]/\H a=some (lq P w a S n)/\n<4000/\Q .non (upd H a (lq P w a (λ j=>S j||decide (j=k)) (if S k then n else n+1)))
theorem s8:EA X "set.add" (CJ X.prog X.w):=by
 intro F s Y H x A v B Q I g i h;let⟨a,S,n,k,rfl,rfl,d,C,q⟩:=h;cases g;let⟨u,rfl,j⟩:=i.one;let⟨y,r⟩:=yV j;let⟨p,_⟩:=id (I.hok _ _ d);refine call_set_add (knd:=aW X.prog X.w) y r p (by unfold scanBound;lia) λ z f c=>?_;have l:∃u,z.get? a=some u:=by let⟨o,D,E,t,e,_⟩:=c;exact⟨o,e⟩
 exact⟨.non,_,I.write (x:=a) (e:=a) (t':=s.toks+1) (by rw[d];trivial) (.inl rfl) (λ b o m e=>f.extBut b o m e) l (uK c),rfl,q⟩
end
section
variable{prog:Program}{w:World}{A:Around}{E:Value->Shared->Prop}
theorem EG{it l:Addr}(d:l≠it):∀(n i:Nat) (s:Shared) (Q:List Value->Shared->Prop),s.heap.IsListIter it l i->s.heap.IsList l its->i+n<=its.size->
  (∀h',h'.IsListIter it l (i+n)->Heap.SameBut it s.heap h'->Q ((its.toList.drop i).take n) {s with heap:=h'})->wpAny (model prog w) A (draw (.ref it) n) Q E s
 |0,i,s,Q,a,_,_,q=>by
  show wpAny _ _ (pure []) Q E s;exact Q8 (by simpa using q s.heap a (Heap.SameBut.refl ..))
 |n+1,i,s,Q,a,b,le,q=>by
  have f:i<its.size:=by lia
  show wpAny _ _ (pyNext (.ref it) >>= _) Q E s;refine Q2 (UT a b (x:=its[i]) (by simp[f]) λ m k c=>?_);refine Q2 (Sd (EG d n (i+1) _ _ k (b.extBut c.extBut d) 'o' λ h j g=>Q8 ?_));have e:its.toList.drop i=its[i]::its.toList.drop (i+1):=by simp[Ue,f]
  have z:=q h (by rw[show i+(n+1)=i+1+n by lia];exact j) (c.trans g);rw[e,take_succ_cons] at z;exact z
theorem CK{s:Shared}{t:Addr}{c:List (Bool×(Value->Sem Unit))}{Q:Unit->Shared->Prop}(m:A.handled=none)(a:s.heap.IsList t its)
  (l:c.length=its.size) (d:c.findIdx? (·.1)=none)
  (h:∀h',Heap.ExtBut s⁻¹ s.heap h'->wpAny (model prog w) A (assignInOrder (c.map (·.2)) its.toList) Q E {s with heap:=h'}) :
  wpAny (model prog w) A (unpack (.ref t) c) Q E s:=by
 have i:t≠s⁻¹:=by let⟨o,k,_⟩:=a;exact Rb (Q6 k)
 unfold unpack;rw[l,d];refine Q2 (Sd ?_);unfold unpackItems;refine Q2 ?_
 .unfold notIterableAtAll;refine Q2 (wpAny_specialOf a.typeIs slot_list_iter.lookup (Q8 ?_));erw[RA,Rz];refine Q2 (Sd (TV a ?_));refine Q2 (Sd (EG i its.size 0 _ _ ⟨_,Ra _ rfl,rfl,rfl⟩ (a.push _) 'o' λ p u g=>?_));have f:List.take its.size (List.drop 0 its.toList)=its.toList:=by rw[drop_zero];exact Th 's'
  rw[f,Ri 's'];have r:p.IsList t its:=(a.push _).extBut g.extBut i;refine Q2 (Sd (wpAny_pyNext_list_end m u r 's' λ n q=>?_));erw[Option.isSome_none,RA,Rz];exact Q8 (h n λ b o j e=>q b o j (g.extBut b o j (Q3 _ e)))
end
section
variable{X:Cx}{pos:Pos}
def NV(K:ae)(n:Nat)(t:BD):TG:=λ v Y H Q=>∃a b,v=.ref a/\fS K H a b/\b.length=n/\t b Y H Q
theorem G6{es:List Expr}{k:Nat}{t:BD}{n:Nat}(x:X.calm=true)(h:su X es t)
  (p:(assignEach es X.env).length=n:=by rfl) (d:(assignEach es X.env).findIdx? (·.1)=none:=by rfl):PG X (.Tuple es k pos) (NV X.K n t):=by
 intro g s Y H v u Q I r c;let⟨a,i,rfl,m,q,c⟩:=c;cases r;let⟨its,f,j,A⟩:=I.list m;rw[assign_Tuple];refine Q2 (R8 (CK (I.ok.hd x) j.isList (by simp[p,<-q,f.length]) d λ y l=>?_));have z:Inv X g Y H {s with heap:=y}:=I.kept (t':=s.toks) λ b o e=>l b o (Rb (Q6 e)) e;exact h g _ Y H i _ Q z (~~~f) c
theorem wW:fU X (compareOp .LtE) (λ x y H Q=>∃i j,x=.str i/\y=.str j/\Q (.bl (!decide (j.cps.toList<i.cps.toList))) H):=by
 intro d s Y H x y v u Q I b a h;let⟨i,j,rfl,rfl,q⟩:=h;let⟨t,rfl⟩:=b;let⟨c,rfl⟩:=a;exact PySem.P.le_str (sI I q rfl)
end
end L2
namespace L2
open PySem PySem.Spec PyProof.Rows List
open AutoSeq1 (wpAny_loadPart')
variable{Q:Value->Shared->Prop}{i:Nat}{it:Addr}{its:Array Value}
section
variable{prog:Program}{w:World}{A:Around}{E:Value->Shared->Prop}{s:Shared}
theorem nextT{l:Addr}{x:Value}(a:s.heap.IsTupleIter it l i)(b:s.heap.IsTuple l its)(h:its[i]?=some x)
  (q:∀h',h'.IsTupleIter it l (i+1)->Heap.SameBut it s.heap h'->Q x {s with heap:=h'}):wpAny (model prog w) A (Builtin.SmallTypes.nextOf (.ref it)) Q E s:=by
 let⟨o,d,g,c⟩:=id a;let⟨p,f,_,n,e⟩:=b;unfold Builtin.SmallTypes.nextOf;refine Q2 (Si (name:=Str.ofString "__next__") a.typeIs SW (S8 SW a.typeIs Um ?_ (Uh _)));show wpAny _ _ (field (.ref it) 0 >>= _) _ _ s;refine Q2 (R9 d c (x:=.ref l) rfl ?_);show wpAny _ _ (if (Value.ref l==Value.none)=true then _ else _) _ _ s;rw[Ri (show ¬((Value.ref l==Value.none)=true) from R4)];show wpAny _ _ (field (.ref it) 1 >>= _) _ _ s;refine Q2 (R9 d c (x:=.int i 0) rfl ?_);show wpAny _ _ (seqItems? (.ref l) >>= _) _ _ s;refine Q2 (wpAny_seqItems f e ?_);erw[S4,h];refine Q2 (UA d c 's' (Q8 ⟨x,rfl,Q8 (q _ ?_ (Heap.SameBut.update ..))⟩));exact⟨_,S0 _ d (T7 (TH c _)),(Obj.cls_mapFields ..).trans g,by rw[TH c];simp[rawInt]⟩
theorem yW{l:Addr}(f:A.handled=none)(a:s.heap.IsTupleIter it l i)(b:s.heap.IsTuple l its)(j:its[i]?=none)
  (q:∀h' e,Heap.ExtBut it s.heap h'->(Exists λ o=>h'.get? e=some o/\o.cls=.type "StopIteration")->E (.ref e) {s with heap:=h'}):wpAny (model prog w) A (Builtin.SmallTypes.nextOf (.ref it)) Q E s:=by
 let⟨o,d,r,c⟩:=id a;let⟨p,h,_,n,g⟩:=b;unfold Builtin.SmallTypes.nextOf;refine Q2 (Si (name:=Str.ofString "__next__") a.typeIs SW (S8 SW a.typeIs Um ?_ (Uh _)));show wpAny _ _ (field (.ref it) 0 >>= _) _ _ s;refine Q2 (R9 d c (x:=.ref l) rfl ?_);show wpAny _ _ (if (Value.ref l==Value.none)=true then _ else _) _ _ s;rw[Ri (show ¬((Value.ref l==Value.none)=true) from R4)];show wpAny _ _ (field (.ref it) 1 >>= _) _ _ s;refine Q2 (R9 d c (x:=.int i 0) rfl ?_);show wpAny _ _ (seqItems? (.ref l) >>= _) _ _ s;refine Q2 (wpAny_seqItems h g ?_);erw[S4,j];refine Q2 (Us (Q2 (UA d c 's' ?_)));show wpAny _ _ (newExc (.type "StopIteration") [] >>= _) _ _ _;refine Q2 ?_;erw[newExc,newTuple];refine Q2 (Sf ?_ (by size_fits));refine Q2 (m:=firstArgMember _ _) (wpAny_of_eq (a:=Value.none) (by first | rfl | (erw[firstArgMember];rfl)) ?_);refine Sf ?_ (by size_fits);erw[raiseNew];refine Q2 (wpAny_handled ?_)
 first | rw[show A.in1.handled=none from f] | rw[f]
 refine Q2 (Q8 (wpAny_throw ?_));refine q _ _ (λ b o k e=>?_) ⟨_,Ra _ rfl,rfl⟩;exact Q3 _ (Q3 _ ((Heap.SameBut.update ..).extBut b o k e))
theorem s9{e l:Addr}{x c:Value}{Q:Option Value->Shared->Prop}
  (H:IsEnum s.heap e it i c) (a:s.heap.IsTupleIter it l i) (b:s.heap.IsTuple l its) (hx:its[i]?=some x) (C:e≠it)
  (q:∀h',IsEnumOut h' e it ((i:Int)+1) x s⁻¹->h'.IsTupleIter it l (i+1)->
   h'.get? s⁻¹=some {cls:=.type "tuple",data:=.seq #[.int i s.toks,x]}->h'.objs.size=s⁻¹+1->
   (∀b o,b≠e->b≠it->s.heap.get? b=some o->h'.get? b=some o)->Q @(.ref s⁻¹) {s with heap:=h',toks:=s.toks+1}) :
  wpAny (model prog w) A (pyNext (.ref e)) Q E s:=by
 have W:s.TypeIs (.ref e) "enumerate":=⟨_,H,rfl⟩;unfold pyNext;refine Q2 (wpAny_attempt (Si (name:=Str.ofString "__next__") W Tf (S8 Tf W U3 ?_ (UP _))));let⟨j,g,d,f,k⟩:=s;show wpAny _ _ (field (.ref e) 2 >>= _) _ _ _;refine Q2 (R9 H rfl (x:=.ref it) rfl ?_);refine Q2 (nextT a b hx λ m X B=>?_);replace B:Heap.SameBut it j m:=B;have M:IsEnum m e it i c:=(B.2 e C).trans H;show wpAny _ _ (field (.ref e) 3 >>= _) _ _ ⟨m,g,d,f,k⟩;refine Q2 (R9 M rfl (x:=rawInt i) rfl ?_);show wpAny _ _ (field (.ref e) 4 >>= _) _ _ ⟨m,g,d,f,k⟩;refine Q2 (R9 M rfl (x:=.none) rfl ?_);show wpAny _ _ (mkInt i >>= _) _ _ ⟨m,g,d,f,k⟩;refine Q2 (wpAny_mkInt ?_);show wpAny _ _ (setField (.ref e) 3 (rawInt ((i:Int)+1)) >>= _) _ _ ⟨m,g,d,f+1,k⟩;refine Q2 (Te M 's' λ F L z=>?_);replace z:Heap.SameBut e m F:=z;replace L:IsEnum F e it ((i:Int)+1) c:=L;show wpAny _ _ (setField (.ref e) 4 .none >>= _) _ _ ⟨F,g,d,f+1,k⟩;refine Q2 (Te L 's' λ p K y=>?_);replace y:Heap.SameBut e F p:=y;replace K:IsEnum p e it ((i:Int)+1) c:=K;show wpAny _ _ (newTuple [.int i f,x] >>= _) _ _ ⟨p,g,d,f+1,k⟩;refine Q2 (wpAny_newTuple ?_);have J:IsEnum (p.push {cls:=.type "tuple",data:=.seq #[.int i f,x]}) e it ((i:Int)+1) c:=Q3 _ K;generalize h:p.push {cls:=.type "tuple",data:=.seq #[.int i f,x]}=D at J;have G:p.objs.size=j.objs.size:=by rw[y.1,z.1,B.1]
 have S:e<j.objs.size:=Q6 H;have Z:D.get? j.objs.size=some {cls:=.type "tuple",data:=.seq #[.int i f,x]}:=by rw[<-h,<-G];exact Ra _ rfl
 have Y:D.objs.size=j.objs.size+1:=by rw[<-h,R7,G]
 have k4:∀b o,b≠e->b≠it->j.get? b=some o->D.get? b=some o:=λ b o n N O=>by
  rw[<-h];exact Q3 _ (y.extBut b o n (z.extBut b o n (B.extBut b o N O)))
 have a4:D.IsTupleIter it l (i+1):=by
  rw[<-h];let⟨o,ho,r⟩:=(X.extBut z.extBut (Ne.symm C)).extBut y.extBut (Ne.symm C);exact⟨o,Q3 _ ho,r⟩
 show wpAny _ _ (Builtin.SmallTypes.ownedTupleIsFree (.ref e) >>= _) _ _ ⟨D,g,d,f+1,k⟩;rw[G];clear h K y L z M B X G p F m;refine Q2 ?_;unfold Builtin.SmallTypes.ownedTupleIsFree;refine Q2 (R9 J rfl (x:=.none) rfl (Q8 ?_));erw[RQ];refine Q2 (Us ?_);refine Q2 (R9 J rfl (x:=c) rfl ?_);refine Q2 (Te J 's' λ I V v=>?_);replace v:Heap.SameBut e D I:=v;replace V:IsEnum I e it ((i:Int)+1) x:=V;show wpAny _ _ (Builtin.SmallTypes.ownedTupleHandOut (.ref e) (.ref j.objs.size) >>= _) _ _ ⟨I,g,d,f+1,k⟩;refine Q2 ?_;unfold Builtin.SmallTypes.ownedTupleHandOut;refine Q2 (Te V 's' λ R U u=>?_);replace u:Heap.SameBut e I R:=u;replace U:IsEnumOut R e it ((i:Int)+1) x j.objs.size:=U;refine Te U 's' λ P T t=>?_;replace t:Heap.SameBut e R P:=t;replace T:IsEnumOut P e it ((i:Int)+1) x j.objs.size:=T;refine Q2 (wpAny_letGo (Q8 ⟨_,rfl,Q8 (q P T ?_ ?_ ?_ ?_)⟩))
 .exact((a4.extBut v.extBut (Ne.symm C)).extBut u.extBut (Ne.symm C)).extBut t.extBut (Ne.symm C)
 .exact t.extBut _ _ (Sn S) (u.extBut _ _ (Sn S) (v.extBut _ _ (Sn S) Z))
 .rw[t.1,u.1,v.1,Y]
 .exact λ b o n N O=>t.extBut b o n (u.extBut b o n (v.extBut b o n (k4 b o n N O)))
theorem wX{e l:Addr}{c:Value}{Q:Option Value->Shared->Prop}(n:A.handled=none)
  (d:IsEnum s.heap e it i c) (a:s.heap.IsTupleIter it l i) (b:s.heap.IsTuple l its) (m:its[i]?=none)
  (q:∀h',Heap.ExtBut it s.heap h'->Q none {s with heap:=h'}):wpAny (model prog w) A (pyNext (.ref e)) Q E s:=by
 have f:s.TypeIs (.ref e) "enumerate":=⟨_,d,rfl⟩;unfold pyNext;refine Q2 (wpAny_attempt (Si (name:=Str.ofString "__next__") f Tf (S8 Tf f U3 ?_ (UP _))));show wpAny _ _ (field (.ref e) 2 >>= _) _ _ _;refine Q2 (R9 d rfl (x:=.ref it) rfl ?_);refine Q2 (yW n a b m λ h' x k j=>?_);let⟨o,h,g⟩:=j;refine Q2 (wpAny_isInstance (T:="StopIteration") (b:=true) ⟨o,h,g⟩ isSubtype_stop ?_);exact Q8 (q _ k)
theorem wY(l:Addr)(its:Array Value)(n:Nat)(b:Option Addr)(k:Array (Option Value)) :
  Meets (Builtin.«enumerate.__new__» ⟨[.type "enumerate",.ref l],[]⟩) (λ _ R s=>s.heap.get? l=some {cls:=.type "tuple",dict:=b,data:=.seq its n,slots:=k}/\
   R (.ok (.ret (.ref (s.heap.push {cls:=.type "tuple_iterator",data:=.fields #[.ref l,.int 0 0]}).objs.size)))
    {s with heap:=(s.heap.push {cls:=.type "tuple_iterator",data:=.fields #[.ref l,.int 0 0]}).push {cls:=.type "enumerate",data:=.fields #[.none,.bool false,.ref s⁻¹,rawInt 0,.none,.none]}}):=
 .of_wp λ prog w A R s h=>by
  let⟨o,g,d,j,m⟩:=s;let⟨a,h⟩:=h;have e:=sub_enumerate;have f:Heap.IsTuple (Shared.heap ⟨o,g,d,j,m⟩) l its:=⟨_,a,rfl,n,rfl⟩
  wp_walk using wpAny_loadPart' a
  refine wpAny_stack_any λ p=>Q8 ?_;split
  .ext c _ _ _ _ _;cases (c==Value.type "enumerate")
   all_goals
    wp_walk using wpAny_loadPart' a,SV f
    exact⟨_,rfl,h⟩
  .wp_walk using wpAny_loadPart' a,SV f
   exact⟨_,rfl,h⟩
theorem tu{l:Addr}(p:s.heap.IsTuple l its)
  (h:∀h',IsEnum h' (s⁻¹+1) s⁻¹ 0 .none->h'.IsTupleIter s⁻¹ l 0->h'.objs.size=s⁻¹+2->
   (∀b o,s.heap.get? b=some o->h'.get? b=some o)->Q (.ref (s⁻¹+1)) {s with heap:=h'}) :
  wpAny (model prog w) A (call (.type "enumerate") [.ref l]) Q E s:=by
 let⟨⟨c,g,q,k⟩,m,f,n,e⟩:=p;replace f:c=.type "tuple":=f;replace e:q=.seq its n:=e;subst f e;refine callType_new F.called_enumerate 'd' (F.typeCall_enumerate_1 _) (F.newCall_enumerate_1 _) (λ a=>F.args_object_init_2 a _) F.entry_enumerate_new (wY l its n g k) ⟨m,?_⟩;have d:(s.heap.push {cls:=.type "tuple_iterator",data:=.fields #[.ref l,.int 0 0]}).objs.size=s⁻¹+1:=R7 ..;show _/\_;rw[d];have j:IsEnum ((s.heap.push {cls:=.type "tuple_iterator",data:=.fields #[.ref l,.int 0 0]}).push
   {cls:=.type "enumerate",data:=.fields #[.none,.bool false,.ref s⁻¹,rawInt 0,.none,.none]}) (s⁻¹+1) s⁻¹ 0 .none:=by
  have:=Ra (s.heap.push {cls:=.type "tuple_iterator",data:=.fields #[.ref l,.int 0 0]})
   (o:={cls:=.type "enumerate",data:=.fields #[.none,.bool false,.ref s⁻¹,rawInt 0,.none,.none]}) rfl
  rw[d] at this;exact this
 refine⟨⟨_,j,rfl⟩,h _ j ⟨_,Q3 _ (Ra _ rfl),rfl,rfl⟩ (by rw[R7,d]) λ b o x=>Q3 _ (Q3 _ x)⟩
end
end L2
namespace L2
open PySem PySem.Spec PyProof.Rows List
def NW(K:ae)(a:Addr):It:=
 ⟨λ i H=>∃b x,dw K H a b/\b[i]?=some x,λ i H x c=>∃p v,H p=none/\x=.ref p/\c=upd H p (.tup [.int i,v])/\∀b,dw K H a b->b[i]?=some v,λ i H=>∃b,dw K H a b/\b.length<=i⟩
theorem tw{P:Program}{w:World}{K:ae}{elts:List Expr}{Z}{pos:Pos}(a e it:Addr)(y:e≠it) :
  Turn P w K (.Tuple elts Z pos) (NW K a) [e,it] e (λ i h=>(∃old,IsEnum h e it (i:Int) old)/\h.IsTupleIter it a i) where
 mem:=by simp
 obj:=λ i h st b f=>by
  let⟨⟨old,he⟩,o,t,hc,hd⟩:=st;rcases Rk.mp f with rfl | f
  .refine⟨_,he,λ v q=>?_⟩;have q':Data.fields _=Data.cell v:=q;cases q'
  .obtain rfl:b=it:=by simpa using f
   exact⟨o,t,λ v q=>by rw[hd] at q;cases q⟩
 keep:=λ i h h' st k=>by
  let⟨⟨old,he⟩,o,t,r⟩:=st;exact⟨⟨old,k e 's' _ he⟩,o,k it 's' o t,r⟩
 item:=by
  intro X O hw Q hc i V s Y H E I hf st N;subst O hw Q;let⟨xs,x,D,L⟩:=N;let⟨⟨old,he⟩,hit⟩:=st;let⟨its,J,p,hz⟩:=I.tuple D;let⟨u,hu,ru⟩:=J.get L;let⟨f0,f1,f2,f3,f4,f5⟩:=hf e 's';let⟨F,g1,g2,g3,S,R⟩:=hf it 's';refine s9 he hit (show s.heap.IsTuple a its.toArray from p) (x:=u) (~~~hu) y λ h1 t hi ht hs k1=>⟨_,rfl,?_⟩;have A:e<s⁻¹:=Q6 he;have M:it<s⁻¹:=by let⟨o,q,_⟩:=hit;exact Q6 q
  refine Uy (s:={s with heap:=h1,toks:=s.toks+1}) t λ j hE C=>?_;have l:∀b o,b≠e->b≠it->s.heap.get? b=some o->j.get? b=some o:=λ b o U n2 q=>C.extBut b o U (k1 b o U n2 q);have NT:j.get? s⁻¹=some {cls:=.type "tuple",data:=.seq #[.int i s.toks,u]}:=C.extBut _ _ (Sn A) ht;have hsz2:j.objs.size=s⁻¹+1:=by rw[C.1];exact hs
  have g:H s⁻¹=none:=I.hok.fresh (Q7 _);have nt:∀b o,H b=some o->b≠e/\b≠it:=λ b o q=>⟨(λ z=>by rw[z,f0] at q;cases q),(λ z=>by rw[z,F] at q;cases q)⟩;have hok:fQ X.prog X.w (upd H s⁻¹ (.tup [.int i,x])) j:=by
   have lift:∀b o,H b=some o->aX X.prog X.w (upd H s⁻¹ (.tup [.int i,x])) j b o:=λ b o q=>
    (I.hok b o q).stay (λ c v B r=>l c v (by
     rcases B with z | z
     .rw[z];exact(nt b o q).1
     .exact(nt c _ z).1) (by
     rcases B with z | z
     .rw[z];exact(nt b o q).2
     .exact(nt c _ z).2) r) (λ c r=>by rw[ao (aB r g)];exact r) λ c T r=>by rw[ao (aB r g)];exact r
   intro b o q
   by_cases G:b=s⁻¹
   .subst G;rw[aC] at q;cases q;exact⟨by show 2<=sizeLine;decide,[.int i s.toks,u],.cons ⟨_,rfl⟩ %[|ru],⟨_,NT,⟨rfl,rfl⟩,_,rfl⟩⟩
   .rw[ao G] at q;exact lift b o q
  have I2:Inv X V Y (upd H s⁻¹ (.tup [.int i,x])) {s with heap:=j,toks:=s.toks+1}:=by
   refine I.step (g':=s.gens) (d':=s.drawn) (ch:=[e,it]) (λ b f=>?_) (λ b o hL f d q n=>?_) (λ b o hL f d q n=>?_) (λ b o d q n=>?_) (λ b o d q=>?_) (λ b T q=>by rw[ao (aB q g)];exact q) (λ b o u q=>by rw[ao (aB q g)];exact q)
    (λ b ps q=>⟨#[],by rw[ao (aB q g),q];simp⟩) (λ m hm=>?_) hok I.bare
   .rcases Rk.mp f with rfl | f
    .exact⟨f3,f1,f4,f5⟩
    .obtain rfl:b=it:=by simpa using f
     exact⟨g3,g1,S,R⟩
   .erw[RM,Rx,R0,Uz] at d;exact l b o d.1 d.2 q
   .erw[RM,Rx,R0,Uz] at d;exact⟨o.slots,l b o d.1 d.2 q⟩
   .rw[ao (Rb (Q6 q))];exact n
   .erw[RM,Rx,R0,Uz] at d;exact⟨o,l b o d.1 d.2 q⟩
   .let⟨o,es,ep,q,r⟩:=hm;exact⟨o,es,ep,l _ o (Ne.symm f1) (Ne.symm g1) q,r⟩
  refine⟨.ref s⁻¹,_,I2,rfl,⟨_,x,g,rfl,rfl,λ T hy=>by rw[I.mT hy D];exact L⟩,⟨⟨_,by have:=hE;rw[show ((i:Int)+1)=((i+1:Nat):Int) by lia] at this;exact this⟩,?_⟩,λ b f=>?_⟩
  .let⟨o,q,r⟩:=hi;exact⟨o,C.extBut _ _ (Ne.symm y) q,r⟩
  .rcases Rk.mp f with rfl | f
   .rw[ao (Rb A)];exact f0
   .obtain rfl:b=it:=by simpa using f
    rw[ao (Rb M)];exact F
 done:=by
  intro X O hw Q hc i V s Y H E I hf st N;subst O hw Q;let⟨xs,D,L⟩:=N;let⟨⟨old,he⟩,hit⟩:=st;let⟨its,J,p,hz⟩:=I.tuple D;let⟨F,g1,g2,g3,S,R⟩:=hf it 's';have hl:=J.length;exact wX (I.ok.hd hc) he hit (show s.heap.IsTuple a its.toArray from p) (by simp;lia) λ h' G=>⟨rfl,I.turned (t':=s.toks) (λ b o f q=>G b o f q) F g1 g3 S R⟩
 self:=λ _ _ _ _ _ st h=>by
  let⟨⟨old,he⟩,_⟩:=st;exact T3 he h
section
variable{X:Cx}
def G7(K:ae)(e:TA):TI:=fun Y H R=>e Y H λ d b=>∃a,d=[.ref a]/\(∃c,dw K b a c)/\R (NW K a) b
theorem yX{l:Expr}{k:TA}{p pos e:Pos}{f:List Expr}{r}(B:Gl X "enumerate")(hm:X.mg "enumerate"=none)(ha:PA X [l] k)(hs:starEach [l] X.env=[(false,eval l X.env)]:=by rfl) :
  PI X (.Tuple f r e) (.Call (.Name "enumerate" p) [l] [] pos) (G7 X.K k):=by
 intro n s Y H R I h;refine Call_ (iE I B hm (u:=.type "enumerate") 'k' (SN (bF (ha pos n s Y H _ I h) λ G c ⟨F,o,d,v,w⟩=>?_) hs rfl));let⟨a,rfl,⟨E,z⟩,q⟩:=w;let⟨u,rfl,t⟩:=vals1 v;cases t;let⟨g,J,x,L⟩:=d.tuple z;refine tu (show c.heap.IsTuple a g.toArray from x) λ C m i y A=>?_;refine T3 m ?_;have D:Inv X n Y o {c with heap:=C}:=d.kept (t':=c.toks) A;refine⟨_,_,_,_,o,rfl,D,tw a (c⁻¹+1) c⁻¹ (Nat.succ_ne_self _),⟨⟨_,m⟩,i⟩,λ b j=>?_,q⟩;rcases Rk.mp j with rfl | j
 .exact d.qh (Tc _) (d.hok.fresh (Tc _))
 .obtain rfl:b=c⁻¹:=by simpa using j
  exact d.qh (Q7 _) (d.hok.fresh (Q7 _))
end
structure TopD(K:ae)(w:World)(a:Addr)(kvs:List (Str×V)):Prop where
 ex:∃(es:Array DictEntry) (n:Nat),K.lookup a=some ⟨.type "dict",none,.dict es n,#[]⟩/\PySem.W.KeysLit w.params es.toList/\∀x,eN (kvs.lookup x) (findBy Value.isStrOf es x)
 lo:(a==sysModules)=false
section
variable{X:Cx}
def wZ(K:ae)(w:World):R2:=λ x y H Q=>∃z a b,x=.str z/\y=.ref a/\TopD K w a b/\Q (.bl (!(b.lookup z).isSome)) H
theorem eN.isSome{o:Option V}{u:Option Value}(r:eN o u):u.isSome=o.isSome:=by
 cases o<;>cases u<;>first | rfl | exact r.elim
theorem iP:fU X (compareOp .NotIn) (wZ X.K X.w):=by
 intro j s Y H x y v u Q I c b h;let⟨z,a,d,rfl,rfl,T,q⟩:=h;let⟨t,rfl⟩:=c;cases b;let⟨i,n,g,f,e⟩:=T.ex;refine Ve (strKind_is X.prog X.w z t) T.lo (U8 (prog:=X.prog) I.cQ g f) ?_;refine⟨.bl _,H,I.tok _,rfl,?_⟩;rw[(e z).isSome];exact q
def G8(K:ae)(w:World):R2:=λ x y H Q=>∃z a b v,y=.str z/\x=.ref a/\TopD K w a b/\b.lookup z=some v/\Q v H
theorem G9:GO X (G8 X.K X.w):=by
 intro b c C s Y H x y v u Q I g f h k;let⟨z,a,j,o,rfl,rfl,T,l,q⟩:=h;let⟨t,rfl⟩:=f;cases g;let⟨B,n,A,p,m⟩:=T.ex;have r:=m z;rw[l] at r;let⟨u,e,i⟩:=r.some_of;have d:=U8 (prog:=X.prog) I.cQ A p;exact tail_any d.typeIs slot_dict_getitem.lookup (wpAny_getItem_of (strKind_is X.prog X.w z t) d e ⟨o,H,I.tok _,i,q⟩) k
end
end L2
namespace D
open PySem List
variable{α:Type}
inductive W where
 |non | bl (b:Bool) | int (i:Int) | str (x:Str) | tup (xs:List W) | fz (xs:List W) | obj (c:Str) (ks:List Str) (vs:List W) | ref (n:Nat)
 deriving Inhabited
inductive O where
 |lst (xs:List W) | ins (c:Str) (fs:List (Str×W)) | set (ks:List L2.Key) | dic (fs:List (Str×W))
 |exc (c f:Str) (ws:List W)
abbrev Mem:=List O
abbrev Loc:=List (Option W)
inductive R(α:Type) where
 |no
 |ok (a:α) (m:Mem)
@[inline] noncomputable def R.bind{J:Type}(x:R α)(f:α->Mem->R J):R J:=match x with
 |.no=>.no
 |.ok a m=>f a m
inductive U where
 |isx (tab:List (Str×Bool)) | xfl (f:Str) (cs:List Str)
 |mkx (c:Str) (f:Option Str)
 |mE | mind | kin (kvs:List (Str×W)) | knin (kvs:List (Str×W)) | kget (kvs:List (Str×W)) | dict (ks:List Str) | isc (c:Str) | kv | dcm | dzip | dlst
 |stp
inductive B where
 |len | abs | max | min | divmod | all | any | list | tuple | int | sorted | sum | repr | str | dum
 deriving DecidableEq
mutual
inductive T where
 |var (i:Nat) | tup (ts:Ts)
inductive Ts where
 |nil | cons (t:T) (ts:Ts)
end
mutual
inductive E where
 |var (i:Nat) | cst (w:W)
 |bin (op:Operator) (a b:E) | neg (a:E) | not (a:E) | and (a b:E) | or (a b:E)
 |cmp (op:CmpOp) (a b:E) | chain (o1 o2:CmpOp) (a b c:E)
 |ife (t a b:E) | tup (es:Es) | lst (es:Es) | idx (a b:E)
 |slc (a:E) (lo hi:Oe)
 |call (f:Nat) (es:Es) | blt (b:B) (es:Es) | isI (a:E) (t:String)
 |meth (o:E) (m:String) (es:Es)
 |comp (g:G)
 |rng (a:E) | rng2 (a b:E) | enm (a:E) | zip (es:Es) | lrng (a:E)
 |frz (a:E) | fld (a:E) (f:Str) | make (c:Str) (es:Es) | mth (o:E) (m:Str) (es:Es) | set0 | fus (u:U) (a:E)
inductive Es where
 |nil | cons (e:E) (es:Es)
inductive Oe where
 |none | some (e:E)
inductive G where
 |elt (e:E) | gen (t:T) (js:List Nat) (it:E) (ifs:Es) (rest:G)
end
mutual
inductive A where
 |pt (t:T) | sub (o i:E) | tup (l:As)
inductive As where
 |nil | cons (a:A) (l:As)
end
inductive CM where
 |drop | ret | asg (t:A)
 |slc (t:A) (lo hi:Oe)
mutual
inductive S where
 |asg (t:A) (e:E) | aug (i:Nat) (op:Operator) (e:E) | expr (e:E) | ret (e:E) | retN
 |ife (t:E) (a b:Ss) | for_ (t:T) (it:E) (b:Ss) | while_ (t:E) (b:Ss) | pass | brk | cont | never
 |fas (o:E) (f:Str) (e:E)
 |rais (c:Str) (f:Option Str) (e:E) | xc (h:CM) (c:Option Str) (i:Nat) (es:Es) | tr (b:Ss) (cs:List Str) (i:Option Nat) (h:Ss)
inductive Ss where
 |nil | cons (s:S) (r:Ss)
end
def lim:Nat:=1000000
def new(o:O)(m:Mem):R W:=.ok (.ref m.length) (m++[o])
def getL(m:Mem):W->Option (List W)
 |.ref n=>match m[n]? with
  |some (.lst xs)=>some xs
  |_=>none
 |.fz xs=>some xs
 |_=>none
def bS(m:Mem):W->Option (List W)
 |.tup xs=>some xs
 |w=>getL m w
def eO(f:W->Option α):List W->Option (List α)
 | []=>some []
 |x::xs=>match f x with
  |none=>none
  |some d=>match eO f xs with
   |none=>none
   |some ds=>some (d::ds)
def toD:Nat->Mem->W->Option PyData
 |0,_,_=>none
 |n+1,m,w=>match w with
  |.non=>some .none
  |.bl b=>some (.bool b)
  |.int i=>some (.int i)
  |.str x=>if x.cps.all (· < 0x110000) then some (.str x) else none
  |.tup xs=>(eO (toD n m) xs).map .tuple
  |.fz xs=>(eO (toD n m) xs).map .list
  |.ref a=>match getL m (.ref a) with
   |some xs=>(eO (toD n m) xs).map .list
   |none=>none
  |.obj _ _ _=>none
def qc(m:Mem)(x y:W):R Bool:=match toD 60 m x,toD 60 m y with
 |some d,some e=>.ok (PyData.eqv d e) m
 |_,_=>.no
def truthy(m:Mem):W->R Bool
 |.non=>.ok false m
 |.bl b=>.ok b m
 |.int i=>.ok (i != 0) m
 |.str x=>if x.length<=lim then .ok ((x.length:Int) != 0) m else .no
 |.tup xs=>.ok (!xs.isEmpty) m
 |.fz xs=>.ok (!xs.isEmpty) m
 |.ref n=>match getL m (.ref n) with
  |some xs=>.ok (!xs.isEmpty) m
  |none=>.no
 |.obj _ _ _=>.no
def iu(i j:Int):Bool:=(decide (-(2^64)<i)&&decide (i<2^64))||(decide (-(2^64)<j)&&decide (j<2^64))
def CN(m:Mem)(x y:W):R W:=match getL m x,getL m y with
 |some xs,some a=>if xs.length+a.length<=lim then new (.lst (xs++a)) m else .no
 |_,_=>.no
def Qm(n:Nat)(xs:List W):List W:=(List.replicate n xs).flatten
def binop(b:Operator)(x y:W)(m:Mem):R W:=match b with
 |.Add=>match x,y with
  |.int i,.int j=>.ok (.int (i+j)) m
  |.tup xs,.tup a=>if xs.length+a.length<=lim then .ok (.tup (xs++a)) m else .no
  |x,y=>CN m x y
 |.Sub=>match x,y with
  |.int i,.int j=>.ok (.int (i - j)) m
  |_,_=>.no
 |.Mult=>match x,y with
  |.int i,.int j=>if iu i j then .ok (.int (i*j)) m else .no
  |_,_=>.no
 |.FloorDiv=>match x,y with
  |.int i,.int j=>if 0<j/\j<1073741824 then .ok (.int (i / j)) m else .no
  |_,_=>.no
 |.Mod=>match x,y with
  |.int i,.int j=>if 0<j then .ok (.int (i%j)) m else .no
  |_,_=>.no
 |.Pow=>match x,y with
  |.int i,.int j=>if 0<=j/\j<=1000000/\i.natAbs<2^64 then .ok (.int (i^j.toNat)) m else .no
  |_,_=>.no
 |_=>.no
def jq(m:Mem)(x:W)(ys:List W):R Bool:=match toD 60 m x,eO (toD 60 m) ys with
 |some d,some a=>.ok (a.any λ e=>PyData.eqv e d) m
 |_,_=>.no
def ly(k:L2.Key)(ks:List L2.Key):Bool:=ks.any λ j=>decide (j=k)
def yY:W->Option L2.Key
 |.int i=>some (.inl i)
 |.str x=>some (.inr x)
 |_=>none
def yZ(m:Mem)(x y:W):R Bool:=match y with
 |.ref n=>match m[n]? with
  |some (.lst a)=>jq m x a
  |some (.set b)=>match yY x with
   |some k=>.ok (ly k b) m
   |none=>.no
  |some (.dic fs)=>match x with
   |.str z=>.ok (fs.lookup z).isSome m
   |_=>.no
  |_=>.no
 |.fz a=>jq m x a
 |.tup a=>jq m x a
 |_=>.no
def y9:W->Bool
 |.non=>true
 |_=>false
def cG:List W->Option (List Int)
 | []=>some []
 |.int b::r=>(cG r).map (b::·)
 |_::_=>none
def aE(d:CmpOp)(x y:W)(m:Mem):R Bool:=match d with
 |.Eq=>qc m x y
 |.NotEq=>(qc m x y).bind λ b m=>.ok (!b) m
 |.Lt=>match x,y with
  |.int i,.int j=>.ok (decide (i<j)) m
  |_,_=>.no
 |.LtE=>match x,y with
  |.int i,.int j=>.ok (decide (i<=j)) m
  |.str a,.str b=>.ok (!decide (b.cps.toList<a.cps.toList)) m
  |_,_=>.no
 |.Gt=>match x,y with | .int i,.int j=>.ok (decide (j<i)) m | _,_=>.no
 |.GtE=>match x,y with | .int i,.int j=>.ok (decide (j<=i)) m | _,_=>.no
 |.In=>yZ m x y
 |.NotIn=>match y with
  |.ref n=>match m[n]? with
   |some (.lst c)=>(jq m x c).bind λ b m=>.ok (!b) m
   |some (.dic fs)=>match x with
    |.str z=>.ok (!(fs.lookup z).isSome) m
    |_=>.no
   |_=>.no
  |.fz c=>(jq m x c).bind λ b m=>.ok (!b) m
  |.tup c=>(jq m x c).bind λ b m=>.ok (!b) m
  |_=>.no
 |.Is=>match y with
  |.non=>.ok (y9 x) m
  |_=>.no
 |.IsNot=>match y with
  |.non=>.ok (!y9 x) m
  |_=>.no
def aY(x y:W)(m:Mem):R W:=match y with
 |.int i=>match x with
  |.str z=>if z.length<=lim then match L2.uF z.cps.toList i with
   |some c=>.ok (.str ⟨#[c]⟩) m
   |none=>.no else .no
  |x=>match bS m x with
   |some xs=>match L2.uF xs i with
    |some w=>.ok w m
    |none=>.no
   |none=>.no
 |.str z=>match x with
  |.ref n=>match m[n]? with
   |some (.dic fs)=>match fs.lookup z with
    |some w=>.ok w m
    |none=>.no
   |_=>.no
  |_=>.no
 |_=>.no
def gB(xs:List W)(lo hi:Option Int):List W:=(xs.drop (HT.cF xs.length 0 lo)).take (HT.cF xs.length xs.length hi - HT.cF xs.length 0 lo)
def dW(x:W)(lo hi:Option Int)(m:Mem):R W:=match x with
 |.tup xs=>.ok (.tup (gB xs lo hi)) m
 |x=>match getL m x with
  |some xs=>new (.lst (gB xs lo hi)) m
  |none=>.no
def qI(o i v:W)(m:Mem):R Unit:=match o,i with
 |.ref n,.int k=>match m[n]? with
  |some (.lst xs)=>match L2.BE xs.length k with
   |some j=>.ok () (m.set n (.lst (xs.set j v)))
   |none=>.no
  |_=>.no
 |_,_=>.no
def bools:List W->Option (List Bool)
 | []=>some []
 |.bl b::r=>(bools r).map (b::·)
 |_::_=>none
def lz(m:Mem)(t:String):W->Option Bool
 |.non=>some (t=="NoneType")
 |.bl _=>some (t=="bool"||t=="int")
 |.int _=>some (t=="int")
 |.str _=>some (t=="str")
 |.tup _=>some (t=="tuple")
 |.fz _=>some (t=="list")
 |.ref n=>match m[n]? with
  |some (.lst _)=>some (t=="list")
  |_=>none
 |.obj _ _ _=>none
def za:W->Option (List Int)
 |.tup xs=>cG xs
 |_=>none
def jX:List W->Option (List Str)
 | []=>some []
 |.str b::r=>(jX r).map (b::·)
 |_::_=>none
def ins(x:Int):List Int->List Int
 | []=>[x]
 |y::r=>if y<x then y::ins x r else x::y::r
def Pj:List Int->List Int
 | []=>[]
 |x::r=>ins x (Pj r)
def Pn(ys:List W):Option (List W):=match cG ys with
 |some ns=>if ns.length<64 then some ((Pj ns).map .int) else none
 |none=>none
def bA(b:B)(xs:List W)(m:Mem):R W:=match b with
 |.len=>match xs with
  | [x]=>match x with
   |.str z=>if z.length<=lim then .ok (.int z.length) m else .no
   |x=>match bS m x with
    |some a=>.ok (.int a.length) m
    |none=>.no
  |_=>.no
 |.abs=>match xs with
  | [.int i]=>.ok (.int (if i<0 then -i else i)) m
  |_=>.no
 |.max=>match xs with
  | [.int i,.int j]=>.ok (.int (if j>i then j else i)) m
  | [.tup a]=>match cG a with
   |some (n::r)=>.ok (.int (r.foldl max n)) m
   |_=>.no
  |_=>.no
 |.min=>match xs with
  | [.int i,.int j]=>.ok (.int (if j<i then j else i)) m
  | [.tup a]=>match cG a with
   |some (n::r)=>.ok (.int (r.foldl min n)) m
   |_=>.no
  |_=>.no
 |.divmod=>match xs with
  | [.int i,.int j]=>if 0<j/\j<1073741824 then .ok (.tup [.int (i / j),.int (i%j)]) m else .no
  |_=>.no
 |.all=>match xs with
  | [x]=>match getL m x with
   |some a=>match bools a with
    |some bs=>.ok (.bl (bs.all id)) m
    |none=>.no
   |none=>.no
  |_=>.no
 |.any=>match xs with
  | [x]=>match getL m x with
   |some a=>match bools a with
    |some bs=>.ok (.bl (bs.any id)) m
    |none=>.no
   |none=>.no
  |_=>.no
 |.list=>match xs with
  | [x]=>match bS m x with
   |some a=>new (.lst a) m
   |none=>.no
  |_=>.no
 |.tuple=>match xs with
  | [x]=>match bS m x with
   |some a=>.ok (.tup a) m
   |none=>.no
  |_=>.no
 |.int=>match xs with
  | [.int i]=>.ok (.int i) m
  | [.bl b]=>.ok (.int (if b then 1 else 0)) m
  |_=>.no
 |_=>.no
def tB(xs:List W)(m:Mem):R W:=match cG xs with
 |some ns=>if ns.length<=4000 then .ok (.int (L2.unlike ns)) m else .no
 |none=>.no
def Qn(f:List W->List (List Int)->R W)(x:W)(m:Mem):R W:=match getL m x with
 |none=>.no
 |some a=>match eO za a with
  |none=>.no
  |some b=>f a b
def tD(ks:List Str)(x:W)(m:Mem):R W:=match x with
 |.tup ws=>if ks.length=ws.length/\ks.Nodup/\ks.length<=15 then new (.dic (ks.zip ws)) m else .no
 |_=>.no
def Hg(x:W)(m:Mem):R W:=match x with
 |.tup [a,b]=>match bS m a,bS m b with
  |some xs,some d=>match jX xs with
   |some c=>if c.length=d.length/\c.length<=1000/\c.Nodup then new (.dic (c.zip d)) m else .no
   |none=>.no
  |_,_=>.no
 |_=>.no
def iw(m:Mem):W->Option (Str×List (Str×W))
 |.ref n=>match m[n]? with
  |some (.ins c fs)=>some (c,fs)
  |_=>none
 |.obj c ks vs=>some (c,ks.zip vs)
 |_=>none
def K2(c:Str)(x:W)(m:Mem):R W:=match iw m x with
 |some (d,_)=>if d=c then .ok (.bl true) m else .no
 |none=>.no
def zb(x:W)(m:Mem):R W:=match x with
 |.tup ws=>match ws with
  | [a,.int k]=>match getL m a with
   |some xs=>if k=1\/k=-1 then new (.lst (if k=1 then xs else xs.reverse)) m else .no
   |none=>.no
  |_=>.no
 |_=>.no
def uL(tab:List (Str×Bool))(x:W)(m:Mem):R W:=match x with
 |.ref n=>match m[n]? with
  |some (.exc c _ _)=>match tab.lookup c with
   |some b=>.ok (.bl b) m
   |none=>.no
  |_=>.no
 |_=>.no
def EH(f:Str)(cs:List Str)(x:W)(m:Mem):R W:=match x with
 |.ref n=>match m[n]? with
  |some (.exc c g [w])=>if g=f/\cs.contains c=true then .ok w m else .no
  |_=>.no
 |_=>.no
def uM(c:Str)(a:Option Str)(x:W)(m:Mem):R W:=match a with
 |none=>new (.exc c "" []) m
 |some f=>new (.exc c f [x]) m
def ck(u:U)(x:W)(m:Mem):R W:=match u with
 |.isx tab=>uL tab x m
 |.xfl f cs=>EH f cs x m
 |.mkx c d=>uM c d x m
 |.stp=>zb x m
 |.mE=>match x with
  |.tup xs=>tB xs m
  |_=>.no
 |.mind=>.no
 |.kin a=>match x with
  |.str z=>.ok (.bl (a.lookup z).isSome) m
  |.int _=>.ok (.bl false) m
  |_=>.no
 |.knin a=>match x with
  |.str z=>.ok (.bl (!(a.lookup z).isSome)) m
  |.int _=>.ok (.bl true) m
  |_=>.no
 |.kget a=>match x with
  |.str z=>match a.lookup z with
   |some w=>.ok w m
   |none=>.no
  |_=>.no
 |.dict b=>tD b x m
 |.isc c=>K2 c x m
 |.kv=>.no
 |.dcm=>.no
 |.dzip=>Hg x m
 |.dlst=>.no
def lA(n:Nat)(ys xs:List W)(m:Mem):R W:=match xs with
 | [x]=>if ys.length<lim then .ok .non (m.set n (.lst (ys++[x]))) else .no
 |_=>.no
def oY(n:Nat)(xs:List W)(m:Mem):R W:=match xs with
 | []=>.ok .non (m.set n (.lst []))
 |_=>.no
def w5(n:Nat)(ys xs:List W)(m:Mem):R W:=match xs with
 | []=>.ok .non (m.set n (.lst ys.reverse))
 |_=>.no
def K3(n:Nat)(ys xs:List W)(m:Mem):R W:=match xs with
 | []=>match ys[ys.length - 1]? with
  |some y=>.ok y (m.set n (.lst ys.dropLast))
  |none=>.no
 | [.int i]=>if -(2^63)<=i/\i<2^63 then match seqIndex? i ys.length with
  |some k=>match ys[k]? with
   |some y=>.ok y (m.set n (.lst (ys.eraseIdx k)))
   |none=>.no
  |none=>.no else .no
 |_=>.no
def lB(n:Nat)(ys xs:List W)(m:Mem):R W:=match xs with
 | [.ref b]=>match m[b]? with
  |some (.lst zs)=>if ys.length+zs.length<=lim then .ok .non (m.set n (.lst (ys++zs))) else .no
  |_=>.no
 |_=>.no
def lC(n:Nat)(ys xs:List W)(m:Mem):R W:=match xs with
 | [.int i,y]=>if 0<=i/\i<=ys.length/\ys.length<lim then .ok .non (m.set n (.lst (ys.take i.toNat++[y]++ys.drop i.toNat))) else .no
 |_=>.no
def eS(ys xs:List W)(m:Mem):R W:=match xs with
 | [x]=>match x with
  |.str z=>match jX ys with
   |some ss=>.ok (.int (ss.count z)) m
   |none=>.no
  |.int z=>match cG ys with
   |some ss=>.ok (.int (ss.count z)) m
   |none=>.no
  |_=>.no
 |_=>.no
def kE(ys xs:List W)(m:Mem):R W:=match xs with
 | [.int i]=>match cG ys with
  |some ns=>if ns.idxOf i<ns.length/\ns.length<=1000000 then .ok (.int (ns.idxOf i:Nat)) m else .no
  |none=>.no
 |_=>.no
def ee(n:Nat)(ys:List W)(name:String)(xs:List W)(m:Mem):R W:=
 if name="append" then lA n ys xs m
 else if name="clear" then oY n xs m
 else if name="reverse" then w5 n ys xs m
 else if name="pop" then K3 n ys xs m
 else if name="extend" then lB n ys xs m
 else if name="insert" then lC n ys xs m
 else if name="count" then eS ys xs m
 else if name="lindex" then kE ys xs m
 else .no
def Hh(z:Str)(xs:List W)(m:Mem):R W:=match xs with
 | [x]=>match getL m x with
  |some a=>match jX a with
   |some ss=>if (ss.map (·.length)).sum+ss.length*z.length<=16777216 then .ok (.str (Txt.join z ss)) m else .no
   |none=>.no
  |none=>.no
 |_=>.no
def zc(z:Str)(xs:List W)(m:Mem):R W:=match xs with
 | [.str y]=>match (Builtin.Str.occurrences z y 0 z.length 1).head? with
  |some p=>.ok (.int (p:Nat)) m
  |none=>.no
 |_=>.no
def Hi(z:Str)(xs:List W)(m:Mem):R W:=match xs with
 | [.str y]=>.ok (.bl (Txt.endswith z y)) m
 |_=>.no
def CO(z:Str)(xs:List W)(m:Mem):R W:=match xs with
 | [.str y]=>if y.length=1/\z.length<=lim then new (.lst ((Txt.split z y).map .str)) m else .no
 |_=>.no
def nj(z:Str)(name:String)(xs:List W)(m:Mem):R W:=
 if name="join" then Hh z xs m
 else if name="index" then zc z xs m
 else if name="endswith" then Hi z xs m
 else if name="split" then CO z xs m
 else .no
def zd(n:Nat)(ks:List L2.Key)(xs:List W)(m:Mem):R W:=match xs with
 | [x]=>match yY x with
  |some k=>if ks.length<4000 then .ok .non (m.set n (.set (if ly k ks then ks else ks++[k]))) else .no
  |none=>.no
 |_=>.no
def eT(n:Nat)(ks:List L2.Key)(name:String)(xs:List W)(m:Mem):R W:=
 if name="add" then zd n ks xs m
 else .no
def bQ(o:W)(name:String)(xs:List W)(m:Mem):R W:=match o with
 |.ref n=>match m[n]? with
  |some (.lst a)=>ee n a name xs m
  |some (.set b)=>eT n b name xs m
  |_=>.no
 |.str z=>nj z name xs m
 |.fz a=>if name="lindex" then kE a xs m
  else if name="count" then eS a xs m
  else .no
 |.tup a=>if name="tcount" then eS a xs m else .no
 |_=>.no
inductive Kd where
 |lst | str | set | no
 |tup
 deriving DecidableEq
def kdOf(m:Mem):W->Kd
 |.ref n=>match m[n]? with
  |some (.lst _)=>.lst
  |some (.set _)=>.set
  |_=>.no
 |.str _=>.str
 |.fz _=>.lst
 |.tup _=>.tup
 |_=>.no
def w9(name:String):Kd:=if name="join"\/name="index"\/name="endswith"\/name="split" then .str else if name="add" then .set else
 if name="tcount" then .tup else
 .lst
mutual
def mz(g:Nat->Option W):W->Option W
 |.tup xs=>(fX g xs).map .tup
 |.fz xs=>(fX g xs).map .fz
 |.obj c ks vs=>(fX g vs).map (.obj c ks)
 |.ref n=>g n
 |.non=>some .non
 |.bl b=>some (.bl b)
 |.int i=>some (.int i)
 |.str x=>some (.str x)
def fX(g:Nat->Option W):List W->Option (List W)
 | []=>some []
 |x::r=>match mz g x with
  |none=>none
  |some y=>match fX g r with
   |none=>none
   |some ys=>some (y::ys)
end
def CP(m:Mem)(k:Nat):Nat->Nat->Option W
 |0,a=>if a<k then some (.ref a) else none
 |n+1,a=>if a<k then some (.ref a) else match m[a]? with
  |some (.lst xs)=>(fX (CP m k n) xs).map .fz
  |some (.ins c fs)=>(fX (CP m k n) (fs.map (·.2))).map (.obj c (fs.map (·.1)))
  |_=>none
mutual
def iQ(k:Nat):W->Bool
 |.tup xs=>dB k xs
 |.fz xs=>dB k xs
 |.obj _ _ vs=>dB k vs
 |.ref n=>decide (n<k)
 |.non=>true
 |.bl _=>true
 |.int _=>true
 |.str _=>true
def dB(k:Nat):List W->Bool
 | []=>true
 |x::r=>iQ k x&&dB k r
end
def dF(k:Nat):O->Bool
 |.lst xs=>dB k xs
 |.ins _ fs=>dB k (fs.map (·.2))
 |.set _=>true
 |.dic fs=>dB k (fs.map (·.2))
 |.exc _ _ ws=>dB k ws
def xh(k:Nat)(m:Mem):Bool:=m.all (dF k)
def ze(m:Mem)(r:R W):R W:=match r with
 |.no=>.no
 |.ok w a=>if m.length<=a.length/\xh m.length (a.take m.length)=true then match mz (CP a m.length 8) w with
  |some b=>.ok b (a.take m.length)
  |none=>.no else .no
def fR:List Nat->Loc->Loc
 | [],Z=>Z
 |j::r,Z=>fR r (Z.set j none)
mutual
def aK:T->W->Loc->Option Loc
 |.var i,w,Z=>some (Z.set i (some w))
 |.tup ts,w,Z=>match w with
  |.tup xs=>bW ts xs Z
  |.fz xs=>bW ts xs Z
  |_=>none
def bW:Ts->List W->Loc->Option Loc
 |.nil,xs,Z=>match xs with
  | []=>some Z
  |_::_=>none
 |.cons t ts,xs,Z=>match xs with
  | []=>none
  |x::xs=>match aK t x Z with
   |some Z=>bW ts xs Z
   |none=>none
end
inductive Src where
 |lst (n:Nat) | tup (xs:List W) | rng (lo:Int) (k:Nat) | enm (s:Src) | zip (ss:List Src)
inductive Nx where
 |bad | fin | it (w:W)
inductive Qo where
 |bad | fin | its (ws:List W)
mutual
def Src.get:Src->Mem->Nat->Nx
 |.lst n,m,i=>match getL m (.ref n) with
  |some xs=>match xs[i]? with
   |some w=>.it w
   |none=>.fin
  |none=>.bad
 |.tup xs,_,i=>match xs[i]? with
  |some w=>.it w
  |none=>.fin
 |.rng lo k,_,i=>if i<k then .it (.int (lo+i)) else .fin
 |.enm s,m,i=>match s.get m i with
  |.it w=>.it (.tup [.int i,w])
  |.fin=>.fin
  |.bad=>.bad
 |.zip ss,m,i=>match Src.K4 ss m i with
  |.its ws=>.it (.tup ws)
  |.fin=>.fin
  |.bad=>.bad
def Src.K4:List Src->Mem->Nat->Qo
 | [],_,_=>.its []
 |s::ss,m,i=>match s.get m i,Src.K4 ss m i with
  |.bad,_=>.bad
  |_,.bad=>.bad
  |.it w,.its ws=>.its (w::ws)
  |_,_=>.fin
end
mutual
def Src.len:Src->Mem->Nat
 |.lst n,m=>match getL m (.ref n) with
  |some xs=>xs.length
  |none=>0
 |.tup xs,_=>xs.length
 |.rng _ k,_=>k
 |.enm s,m=>s.len m
 |.zip ss,m=>Src.lens ss m
def Src.lens:List Src->Mem->Nat
 | [],_=>0
 |s::ss,m=>max (s.len m) (Src.lens ss m)
end
def srcOf(m:Mem):W->Option Src
 |.tup xs=>some (.tup xs)
 |.fz xs=>some (.tup xs)
 |.ref n=>match getL m (.ref n) with
  |some _=>some (.lst n)
  |none=>none
 |_=>none
def tE(m:Mem):List W->Option (List Src)
 | []=>some []
 |w::ws=>match srcOf m w with
  |none=>none
  |some s=>match tE m ws with
   |none=>none
   |some ss=>some (s::ss)
def signs(z:Str):List W:=z.cps.toList.map λ c=>W.str ⟨#[c]⟩
def zf(m:Mem):W->Option Src
 |.str z=>if L2.asc z then some (.tup (signs z)) else none
 |w=>srcOf m w
inductive F where
 |nx (Z:Loc) | rt (w:W) | bk (Z:Loc) | ct (Z:Loc)
 |rz (c:Str) (fw:Option (Str×W)) (Z:Loc)
set_option genInjectivity false in
structure Cs where
 flds:List (Str×Str)
 mths:List ((Str×Str)×Nat)
 ini:List (Str×Nat)
 dic:List (Str×List (Str×W)):=[]
 isc:List Str:=[]
set_option genInjectivity false in
structure Cx where
 call:Nat->List W->Mem->R W
 fuel:Nat
 cs:Cs
 flow:Nat->List W->Mem->R F
def jY(cs:Cs)(x:W)(f:Str)(m:Mem):R W:=match iw m x with
 |some (c,fs)=>if cs.flds.contains (c,f) then match fs.lookup f with
  |some w=>.ok w m
  |none=>.no else .no
 |none=>.no
def nk(cs:Cs)(x:W)(f:Str)(m:Mem):Option Nat:=match iw m x with
 |some (c,fs)=>if (fs.lookup f).isNone then cs.mths.lookup (c,f) else none
 |none=>none
def d7(f:Str)(v:W):List (Str×W)->List (Str×W)
 | []=>[(f,v)]
 |(g,x)::r=>if g=f then (g,v)::r else (g,x)::d7 f v r
def nq(cs:Cs)(x:W)(f:Str)(v:W)(m:Mem):R Unit:=match x with
 |.ref n=>match m[n]? with
  |some (.ins c fs)=>if cs.flds.contains (c,f)/\fs.length<1000 then .ok () (m.set n (.ins c (d7 f v fs))) else .no
  |_=>.no
 |_=>.no
def zg(C:Cx)(c:Str)(ws:List W)(m:Mem):R W:=match C.cs.ini.lookup c with
 |some i=>(C.call i (.ref m.length::ws) (m++[.ins c []])).bind λ w a=>match w with
  |.non=>.ok (.ref m.length) a
  |_=>.no
 |none=>.no
def er(get:Mem->Nat->Nx)(t:T)(body:Loc->Mem->R F):Nat->Nat->Loc->Mem->R F
 |k,i,Z,m=>match get m i with
  |.bad=>.no
  |.fin=>.ok (.nx Z) m
  |.it x=>match k with
   |0=>.no
   |k+1=>match aK t x Z with
    |none=>.no
    |some Z=>(body Z m).bind λ f m=>match f with
     |.nx Z=>er get t body k (i+1) Z m
     |.ct Z=>er get t body k (i+1) Z m
     |.bk Z=>.ok (.nx Z) m
     |.rt w=>.ok (.rt w) m
     |.rz c w Z=>.ok (.rz c w Z) m
def oZ(c:Loc->Mem->R Bool)(body:Loc->Mem->R F):Nat->Loc->Mem->R F
 |0,_,_=>.no
 |k+1,Z,m=>(c Z m).bind λ b m=>if b then (body Z m).bind λ f m=>match f with
   |.nx Z=>oZ c body k Z m
   |.ct Z=>oZ c body k Z m
   |.bk Z=>.ok (.nx Z) m
   |.rt w=>.ok (.rt w) m
   |.rz c w Z=>.ok (.rz c w Z) m
  else .ok (.nx Z) m
def cR(get:Mem->Nat->Nx)(t:T)(test:Loc->Mem->R Bool)(body:Loc->Mem->List W->R (List W×Loc)):Nat->Nat->Loc->Mem->List W->R (List W×Loc)
 |k,i,Z,m,acc=>match get m i with
  |.bad=>.no
  |.fin=>.ok (acc,Z) m
  |.it x=>match k with
   |0=>.no
   |k+1=>match aK t x Z with
    |none=>.no
    |some Z=>(test Z m).bind λ b m=>if b then (body Z m acc).bind λ p m=>cR get t test body k (i+1) p.2 m p.1 else cR get t test body k (i+1) Z m acc
def nu(x:W)(m:Mem):R Src:=match zf m x with
 |some s=>.ok s m
 |none=>.no
structure Ev where
 v:R W
 t:R Bool
 i:R Src
def vx(v:R W):Ev:=⟨v,v.bind λ w m=>truthy m w,v.bind nu⟩
def tx(v:R W)(t:R Bool):Ev:=⟨v,t,v.bind nu⟩
def ix(i:R Src):Ev:=⟨.no,.no,i⟩
mutual
def dS(C:Cx):E->Loc->Mem->Ev
 |.var i,Z,m=>vx (match Z[i]? with
  |some (some w)=>.ok w m
  |_=>.no)
 |.cst w,_,m=>vx (.ok w m)
 |.bin op a b,Z,m=>vx ((dS C a Z m).v.bind λ x m=>(dS C b Z m).v.bind λ y m=>binop op x y m)
 |.neg a,Z,m=>vx ((dS C a Z m).v.bind λ x m=>match x with
  |.int i=>.ok (.int (-i)) m
  |_=>.no)
 |.not a,Z,m=>tx ((dS C a Z m).v.bind λ x m=>match x with
  |.bl b=>.ok (.bl (!b)) m
  |_=>.no) ((dS C a Z m).t.bind λ c m=>.ok (!c) m)
 |.and a b,Z,m=>tx ((dS C a Z m).v.bind λ x m=>match x with
  |.bl c=>if c then (dS C b Z m).v else .ok (.bl false) m
  |_=>.no) ((dS C a Z m).t.bind λ c m=>if c then (dS C b Z m).t else .ok false m)
 |.or a b,Z,m=>tx ((dS C a Z m).v.bind λ x m=>(truthy m x).bind λ c m=>if c then .ok x m else (dS C b Z m).v) ((dS C a Z m).t.bind λ c m=>if c then .ok true m else (dS C b Z m).t)
 |.cmp op a b,Z,m=>tx ((dS C a Z m).v.bind λ x m=>(dS C b Z m).v.bind λ y m=>(aE op x y m).bind λ c m=>.ok (.bl c) m) ((dS C a Z m).v.bind λ x m=>(dS C b Z m).v.bind λ y m=>aE op x y m)
 |.chain e d a b c,Z,m=>tx ((dS C a Z m).v.bind λ x m=>(dS C b Z m).v.bind λ y m=>(aE e x y m).bind λ k m=>
   if k then (dS C c Z m).v.bind λ z m=>(aE d y z m).bind λ k m=>.ok (.bl k) m else .ok (.bl false) m) ((dS C a Z m).v.bind λ x m=>(dS C b Z m).v.bind λ y m=>(aE e x y m).bind λ k m=>
   if k then (dS C c Z m).v.bind λ z m=>aE d y z m else .ok false m)
 |.ife t a b,Z,m=>tx ((dS C t Z m).t.bind λ c m=>if c then (dS C a Z m).v else (dS C b Z m).v) ((dS C t Z m).t.bind λ c m=>if c then (dS C a Z m).t else (dS C b Z m).t)
 |.tup es,Z,m=>vx ((aS C es Z m).bind λ ws m=>if ws.length<=lim then .ok (.tup ws) m else .no)
 |.lst es,Z,m=>vx ((aS C es Z m).bind λ ws m=>if ws.length<=lim then new (.lst ws) m else .no)
 |.idx a b,Z,m=>vx ((dS C a Z m).v.bind λ x m=>(dS C b Z m).v.bind λ y m=>aY x y m)
 |.slc a lo hi,Z,m=>vx ((dS C a Z m).v.bind λ x m=>(qJ C lo Z m).bind λ l m=>(qJ C hi Z m).bind λ u m=>dW x l u m)
 |.call f es,Z,m=>vx ((aS C es Z m).bind λ ws m=>C.call f ws m)
 |.blt b es,Z,m=>vx ((aS C es Z m).bind λ ws m=>bA b ws m)
 |.isI a t,Z,m=>vx ((dS C a Z m).v.bind λ x m=>match lz m t x with
  |some b=>.ok (.bl b) m
  |none=>.no)
 |.meth o name es,Z,m=>vx ((dS C o Z m).v.bind λ x m=>if kdOf m x=w9 name then (aS C es Z m).bind λ ws m=>bQ x name ws m else .no)
 |.comp g,Z,m=>vx ((jh C g Z m []).bind λ p m=>new (.lst p.1) m)
 |.lrng a,Z,m=>vx ((dS C a Z m).v.bind λ x m=>match x with
  |.int j=>if 0<=j/\j<=1000000 then new (.lst ((List.range j.toNat).map λ i=>W.int (i:Nat))) m else .no
  |_=>.no)
 |.frz a,Z,m=>vx (ze m (dS C a Z m).v)
 |.fld a f,Z,m=>vx ((dS C a Z m).v.bind λ x m=>jY C.cs x f m)
 |.make c es,Z,m=>vx ((aS C es Z m).bind λ ws m=>zg C c ws m)
 |.mth o f es,Z,m=>vx ((dS C o Z m).v.bind λ x m=>match nk C.cs x f m with
  |some i=>(aS C es Z m).bind λ ws m=>C.call i (x::ws) m
  |none=>.no)
 |.set0,_,m=>vx (new (.set []) m)
 |.fus u a,Z,m=>vx ((dS C a Z m).v.bind λ x m=>ck u x m)
 |.rng a,Z,m=>ix ((dS C a Z m).v.bind λ x m=>match x with
  |.int j=>if -(2^62)<=j/\j<2^62 then .ok (.rng 0 j.toNat) m else .no
  |_=>.no)
 |.rng2 a b,Z,m=>ix ((dS C a Z m).v.bind λ x m=>(dS C b Z m).v.bind λ y m=>match x,y with
  |.int i,.int j=>if -(2^62)<=i/\i<2^62/\-(2^62)<=j/\j<2^62 then .ok (.rng i (j - i).toNat) m else .no
  |_,_=>.no)
 |.enm a,Z,m=>ix ((dS C a Z m).v.bind λ x m=>match srcOf m x with
  |some s=>.ok (.enm s) m
  |none=>.no)
 |.zip es,Z,m=>ix ((aS C es Z m).bind λ xs m=>match tE m xs with
  |some ss=>.ok (.zip ss) m
  |none=>.no)
def aS(C:Cx):Es->Loc->Mem->R (List W)
 |.nil,_,m=>.ok [] m
 |.cons e es,Z,m=>(dS C e Z m).v.bind λ w m=>(aS C es Z m).bind λ ws m=>.ok (w::ws) m
def qJ(C:Cx):Oe->Loc->Mem->R (Option Int)
 |.none,_,m=>.ok none m
 |.some e,Z,m=>(dS C e Z m).v.bind λ w m=>match w with
  |.int i=>.ok (some i) m
  |_=>.no
def jh(C:Cx):G->Loc->Mem->List W->R (List W×Loc)
 |.elt e,Z,m,a=>(dS C e Z m).v.bind λ w m=>if a.length<lim then .ok (a++[w],Z) m else .no
 |.gen t js it ifs rest,Z,m,a=>(dS C it Z m).i.bind λ s m=>cR s.get t (fun Z m=>bM C ifs Z m) (fun Z m a=>jh C rest Z m a) (s.len m) 0 (fR js Z) m a
def bM(C:Cx):Es->Loc->Mem->R Bool
 |.nil,_,m=>.ok true m
 |.cons e es,Z,m=>(dS C e Z m).t.bind λ b m=>if b then bM C es Z m else .ok false m
end
def aq(C:Cx)(e:E)(Z:Loc)(m:Mem):R W:=(dS C e Z m).v
def bq(C:Cx)(e:E)(Z:Loc)(m:Mem):R Bool:=(dS C e Z m).t
def dR(C:Cx)(e:E)(Z:Loc)(m:Mem):R Src:=(dS C e Z m).i
section
variable{C:Cx}{Z:Loc}{m:Mem}
theorem aH(i:Nat):aq C (.var i) Z m=(match Z[i]? with
   |some (some w)=>.ok w m
   |_=>.no):=rfl
theorem nv(i:Nat):bq C (.var i) Z m=(aq C (.var i) Z m).bind λ w m=>D.truthy m w:=rfl
theorem bh(w:W):aq C (.cst w) Z m=(.ok w m):=rfl
theorem ny(w:W):bq C (.cst w) Z m=(aq C (.cst w) Z m).bind λ w m=>D.truthy m w:=rfl
theorem cZ(c:Operator)(a b:E):aq C (.bin c a b) Z m=((aq C a Z m).bind λ x m=>(aq C b Z m).bind λ y m=>binop c x y m):=rfl
theorem nA(c:Operator)(a b:E):bq C (.bin c a b) Z m=(aq C (.bin c a b) Z m).bind λ w m=>D.truthy m w:=rfl
theorem lD(a:E):aq C (.neg a) Z m=((aq C a Z m).bind λ x m=>match x with
   |.int i=>.ok (.int (-i)) m
   |_=>.no):=rfl
theorem nB(a:E):bq C (.neg a) Z m=(aq C (.neg a) Z m).bind λ w m=>D.truthy m w:=rfl
theorem gC(a:E):aq C (.not a) Z m=((aq C a Z m).bind λ x m=>match x with
   |.bl b=>.ok (.bl (!b)) m
   |_=>.no):=rfl
theorem dM(a b:E):aq C (.and a b) Z m=((aq C a Z m).bind λ x m=>match x with
   |.bl c=>if c then aq C b Z m else .ok (.bl false) m
   |_=>.no):=rfl
theorem mH(a b:E):aq C (.or a b) Z m=((aq C a Z m).bind λ x m=>(D.truthy m x).bind λ c m=>if c then .ok x m else aq C b Z m):=rfl
theorem gp(d:CmpOp)(a b:E):aq C (.cmp d a b) Z m=((aq C a Z m).bind λ x m=>(aq C b Z m).bind λ y m=>(aE d x y m).bind λ c m=>.ok (.bl c) m):=rfl
theorem dg(e d:CmpOp)(a b c:E):aq C (.chain e d a b c) Z m=((aq C a Z m).bind λ x m=>(aq C b Z m).bind λ y m=>(aE e x y m).bind λ k m=>
    if k then (aq C c Z m).bind λ z m=>(aE d y z m).bind λ k m=>.ok (.bl k) m else .ok (.bl false) m):=rfl
theorem gq(t a b:E):aq C (.ife t a b) Z m=((bq C t Z m).bind λ c m=>if c then aq C a Z m else aq C b Z m):=rfl
theorem bZ(es:Es):aq C (.tup es) Z m=((aS C es Z m).bind λ ws m=>if ws.length<=lim then .ok (.tup ws) m else .no):=rfl
theorem nE(es:Es):bq C (.tup es) Z m=(aq C (.tup es) Z m).bind λ w m=>D.truthy m w:=rfl
theorem dX(es:Es):aq C (.lst es) Z m=((aS C es Z m).bind λ ws m=>if ws.length<=lim then new (.lst ws) m else .no):=rfl
theorem nF(es:Es):bq C (.lst es) Z m=(aq C (.lst es) Z m).bind λ w m=>D.truthy m w:=rfl
theorem bN(a b:E):aq C (.idx a b) Z m=((aq C a Z m).bind λ x m=>(aq C b Z m).bind λ y m=>aY x y m):=rfl
theorem nG(a b:E):bq C (.idx a b) Z m=(aq C (.idx a b) Z m).bind λ w m=>D.truthy m w:=rfl
theorem fK(a:E)(lo hi:Oe):aq C (.slc a lo hi) Z m=((aq C a Z m).bind λ x m=>(qJ C lo Z m).bind λ l m=>(qJ C hi Z m).bind λ u m=>dW x l u m):=rfl
theorem nH(a:E)(lo hi:Oe):bq C (.slc a lo hi) Z m=(aq C (.slc a lo hi) Z m).bind λ w m=>D.truthy m w:=rfl
theorem gD(f:Nat)(es:Es):aq C (.call f es) Z m=((aS C es Z m).bind λ ws m=>C.call f ws m):=rfl
theorem gE(f:Nat)(es:Es):bq C (.call f es) Z m=(aq C (.call f es) Z m).bind λ w m=>D.truthy m w:=rfl
theorem cU(b:B)(es:Es):aq C (.blt b es) Z m=((aS C es Z m).bind λ ws m=>bA b ws m):=rfl
theorem lE(b:B)(es:Es):bq C (.blt b es) Z m=(aq C (.blt b es) Z m).bind λ w m=>D.truthy m w:=rfl
theorem iy(a:E)(t:String):aq C (.isI a t) Z m=((aq C a Z m).bind λ x m=>match lz m t x with
   |some b=>.ok (.bl b) m
   |none=>.no):=rfl
theorem nJ(a:E)(t:String):bq C (.isI a t) Z m=(aq C (.isI a t) Z m).bind λ w m=>D.truthy m w:=rfl
theorem cL(o:E)(name:String)(es:Es):aq C (.meth o name es) Z m=((aq C o Z m).bind λ x m=>if kdOf m x=w9 name then (aS C es Z m).bind λ ws m=>bQ x name ws m else .no):=rfl
theorem jr(o:E)(name:String)(es:Es):bq C (.meth o name es) Z m=(aq C (.meth o name es) Z m).bind λ w m=>D.truthy m w:=rfl
theorem jt(g:G):bq C (.comp g) Z m=(aq C (.comp g) Z m).bind λ w m=>D.truthy m w:=rfl
theorem fY(a:E):aq C (.lrng a) Z m=((aq C a Z m).bind λ x m=>match x with
   |.int j=>if 0<=j/\j<=1000000 then new (.lst ((List.range j.toNat).map λ i=>W.int (i:Nat))) m else .no
   |_=>.no):=rfl
theorem ju(a:E):bq C (.lrng a) Z m=(aq C (.lrng a) Z m).bind λ w m=>D.truthy m w:=rfl
theorem bT(u:U)(a:E):aq C (.fus u a) Z m=((aq C a Z m).bind λ x m=>ck u x m):=rfl
theorem iR(u:U)(a:E):bq C (.fus u a) Z m=(aq C (.fus u a) Z m).bind λ w m=>D.truthy m w:=rfl
theorem nK(a:E):bq C (.frz a) Z m=(aq C (.frz a) Z m).bind λ w m=>D.truthy m w:=rfl
theorem lF(a:E)(f:Str):aq C (.fld a f) Z m=((aq C a Z m).bind λ x m=>jY C.cs x f m):=rfl
theorem nL(a:E)(f:Str):bq C (.fld a f) Z m=(aq C (.fld a f) Z m).bind λ w m=>D.truthy m w:=rfl
theorem fZ(c:Str)(es:Es):aq C (.make c es) Z m=((aS C es Z m).bind λ ws m=>zg C c ws m):=rfl
theorem jv(c:Str)(es:Es):bq C (.make c es) Z m=(aq C (.make c es) Z m).bind λ w m=>D.truthy m w:=rfl
theorem lG(o:E)(f:Str)(es:Es):aq C (.mth o f es) Z m=((aq C o Z m).bind λ x m=>match nk C.cs x f m with
   |some i=>(aS C es Z m).bind λ ws m=>C.call i (x::ws) m
   |none=>.no):=rfl
theorem nM(o:E)(f:Str)(es:Es):bq C (.mth o f es) Z m=(aq C (.mth o f es) Z m).bind λ w m=>D.truthy m w:=rfl
theorem fc :aq C (.set0) Z m=(new (.set []) m):=rfl
theorem jw :bq C (.set0) Z m=(aq C (.set0) Z m).bind λ w m=>D.truthy m w:=rfl
theorem jZ(a b:E):bq C (.and a b) Z m=((bq C a Z m).bind λ c m=>if c then bq C b Z m else .ok false m):=rfl
theorem iF(a b:E):bq C (.or a b) Z m=((bq C a Z m).bind λ c m=>if c then .ok true m else bq C b Z m):=rfl
theorem dN(a:E):bq C (.not a) Z m=((bq C a Z m).bind λ c m=>.ok (!c) m):=rfl
theorem bO(c:CmpOp)(a b:E):bq C (.cmp c a b) Z m=((aq C a Z m).bind λ x m=>(aq C b Z m).bind λ y m=>aE c x y m):=rfl
theorem eU(e d:CmpOp)(a b c:E):bq C (.chain e d a b c) Z m=((aq C a Z m).bind λ x m=>(aq C b Z m).bind λ y m=>(aE e x y m).bind λ k m=>
   if k then (aq C c Z m).bind λ z m=>aE d y z m else .ok false m):=rfl
theorem lH(t a b:E):bq C (.ife t a b) Z m=((bq C t Z m).bind λ c m=>if c then bq C a Z m else bq C b Z m):=rfl
theorem aF:aS C .nil Z m=.ok [] m:=rfl
theorem av(e:E)(es:Es):aS C (.cons e es) Z m=((aq C e Z m).bind λ w m=>(aS C es Z m).bind λ ws m=>.ok (w::ws) m):=rfl
theorem jx:qJ C .none Z m=.ok none m:=rfl
theorem f9(e:E):qJ C (.some e) Z m=((aq C e Z m).bind λ w m=>match w with
   |.int i=>.ok (some i) m
   |_=>.no):=rfl
theorem ay{J:Type}{a:α}{m:Mem}{f:α->Mem->R J}:(R.ok a m).bind f=f a m:=Eq.trans rfl rfl
theorem lI(i:Nat):dR C (.var i) Z m=(aq C (.var i) Z m).bind nu:=rfl
theorem EI(a b:E):dR C (.idx a b) Z m=(aq C (.idx a b) Z m).bind nu:=rfl
theorem zh(f:Nat)(es:Es):dR C (.call f es) Z m=(aq C (.call f es) Z m).bind nu:=rfl
theorem zj(a:E):dR C (.frz a) Z m=(aq C (.frz a) Z m).bind nu:=rfl
theorem EJ(a:E)(f:Str):dR C (.fld a f) Z m=(aq C (.fld a f) Z m).bind nu:=rfl
theorem EK(o:E)(f:Str)(es:Es):dR C (.mth o f es) Z m=(aq C (.mth o f es) Z m).bind nu:=rfl
theorem EL(a:E)(lo hi:Oe):dR C (.slc a lo hi) Z m=(aq C (.slc a lo hi) Z m).bind nu:=rfl
theorem EM(w:W):dR C (.cst w) Z m=(aq C (.cst w) Z m).bind nu:=rfl
theorem EN(es:Es):dR C (.tup es) Z m=(aq C (.tup es) Z m).bind nu:=rfl
theorem EO(es:Es):dR C (.lst es) Z m=(aq C (.lst es) Z m).bind nu:=rfl
theorem ER(c:Operator)(a b:E):dR C (.bin c a b) Z m=(aq C (.bin c a b) Z m).bind nu:=rfl
theorem gF(g:G):aq C (.comp g) Z m=((jh C g Z m []).bind λ p m=>new (.lst p.1) m):=rfl
theorem iS(a:E):aq C (.frz a) Z m=ze m (aq C a Z m):=rfl
theorem uN(a:E):dR C (.rng a) Z m=(aq C a Z m).bind λ x m=>match x with
  |.int j=>if -(2^62)<=j/\j<2^62 then .ok (.rng 0 j.toNat) m else .no
  |_=>.no:=rfl
theorem zk(a b:E):dR C (.rng2 a b) Z m=(aq C a Z m).bind λ x m=>(aq C b Z m).bind λ y m=>match x,y with
  |.int i,.int j=>if -(2^62)<=i/\i<2^62/\-(2^62)<=j/\j<2^62 then .ok (.rng i (j - i).toNat) m else .no
  |_,_=>.no:=rfl
theorem nN(a:E):dR C (.enm a) Z m=(aq C a Z m).bind λ x m=>match srcOf m x with
  |some s=>.ok (.enm s) m
  |none=>.no:=rfl
theorem ES(es:Es):dR C (.zip es) Z m=(aS C es Z m).bind λ xs m=>match tE m xs with
  |some ss=>.ok (.zip ss) m
  |none=>.no:=rfl
theorem ET{a:List W}(e:E):jh C (.elt e) Z m a=(aq C e Z m).bind λ w m=>if a.length<lim then .ok (a++[w],Z) m else .no:=rfl
theorem K5{a:List W}(t:T)(js:List Nat)(it:E)(ifs:Es)(b:G):jh C (.gen t js it ifs b) Z m a=(dR C it Z m).bind λ s m=>cR s.get t (fun Z m=>bM C ifs Z m) (fun Z m a=>jh C b Z m a) (s.len m) 0 (fR js Z) m a:=rfl
theorem EU:bM C .nil Z m=.ok true m:=rfl
theorem zl(e:E)(es:Es):bM C (.cons e es) Z m=(bq C e Z m).bind λ b m=>if b then bM C es Z m else .ok false m:=rfl
def dG:=And.intro (@aF) (@av)
def EV:=And.intro (@jx) (@f9)
def nO:=And.intro (@ET) (@K5)
def iT:=And.intro (@EU) (@zl)
end
mutual
def eV(C:Cx):A->W->Loc->Mem->R Loc
 |.pt t,w,Z,m=>match aK t w Z with
  |some Z=>.ok Z m
  |none=>.no
 |.sub o i,w,Z,m=>(aq C o Z m).bind λ x m=>(aq C i Z m).bind λ y m=>(qI x y w m).bind λ _ m=>.ok Z m
 |.tup l,w,Z,m=>match bS m w with
  |some xs=>fh C l xs Z m
  |none=>.no
def fh(C:Cx):As->List W->Loc->Mem->R Loc
 |.nil,xs,Z,m=>match xs with
  | []=>.ok Z m
  |_::_=>.no
 |.cons a l,xs,Z,m=>match xs with
  | []=>.no
  |x::xs=>(eV C a x Z m).bind fun Z m=>fh C l xs Z m
end
def EW(c:Operator)(x y:W)(m:Mem):R W:=match c with
 |.Add=>match x,y with
  |.int a,.int b=>.ok (.int (a+b)) m
  |_,_=>.no
 |.Sub=>match x,y with
  |.int a,.int b=>.ok (.int (a - b)) m
  |_,_=>.no
 |_=>.no
def outF:F->Mem->R W
 |.nx _,m=>.ok .non m
 |.rt w,m=>.ok w m
 |_,_=>.no
def iU(C:Cx)(h:CM)(Z:Loc)(w:W)(m:Mem):R F:=match h with
 |.drop=>.ok (.nx Z) m
 |.ret=>.ok (.rt w) m
 |.asg t=>(eV C t w Z m).bind fun Z m=>.ok (.nx Z) m
 |.slc t lo hi=>(qJ C lo Z m).bind λ l m=>(qJ C hi Z m).bind λ u m=>(dW w l u m).bind λ x m=>(eV C t x Z m).bind fun Z m=>.ok (.nx Z) m
def yh(C:Cx)(h:CM)(Z:Loc)(a:Option W)(fl:F)(m:Mem):R F:=match fl with
 |.rz c b _=>.ok (.rz c b Z) m
 |fl=>(outF fl m).bind λ w m=>match a with
  |none=>iU C h Z w m
  |some x=>match w with
   |.non=>iU C h Z x m
   |_=>.no
def Hj(c:Str):Option (Str×W)->O
 |none=>.exc c "" []
 |some (f,w)=>.exc c f [w]
def tF(i:Option Nat)(w:Option W)(Z:Loc):Loc:=match i with
 |none=>Z
 |some i=>Z.set i w
def gone(i:Option Nat)(fl:F)(m:Mem):R F:=match fl with
 |.nx Z=>.ok (.nx (tF i none Z)) m
 |.bk Z=>.ok (.bk (tF i none Z)) m
 |.ct Z=>.ok (.ct (tF i none Z)) m
 |.rt w=>.ok (.rt w) m
 |.rz _ _ _=>.no
mutual
def bu(C:Cx):S->Loc->Mem->R F
 |.asg t e,Z,m=>(aq C e Z m).bind λ w m=>(eV C t w Z m).bind fun Z m=>.ok (.nx Z) m
 |.aug i op e,Z,m=>match Z[i]? with
  |some (some x)=>(aq C e Z m).bind λ y m=>(EW op x y m).bind λ z m=>.ok (.nx (Z.set i (some z))) m
  |_=>.no
 |.expr e,Z,m=>(aq C e Z m).bind λ _ m=>.ok (.nx Z) m
 |.ret e,Z,m=>(aq C e Z m).bind λ w m=>.ok (.rt w) m
 |.retN,_,m=>.ok (.rt .non) m
 |.ife t a b,Z,m=>(bq C t Z m).bind λ c m=>if c then aD C a Z m else aD C b Z m
 |.for_ t it b,Z,m=>(dR C it Z m).bind λ s m=>er s.get t (fun Z m=>aD C b Z m) (s.len m) 0 Z m
 |.while_ t b,Z,m=>oZ (fun Z m=>bq C t Z m) (fun Z m=>aD C b Z m) C.fuel Z m
 |.pass,Z,m=>.ok (.nx Z) m
 |.brk,Z,m=>.ok (.bk Z) m
 |.cont,Z,m=>.ok (.ct Z) m
 |.never,_,_=>.no
 |.fas o f e,Z,m=>(aq C e Z m).bind λ w m=>(aq C o Z m).bind λ x m=>(nq C.cs x f w m).bind λ _ m=>.ok (.nx Z) m
 |.rais c f e,Z,m=>(aq C e Z m).bind λ w m=>.ok (.rz c (f.map λ g=>(g,w)) Z) m
 |.xc h none i es,Z,m=>(aS C es Z m).bind λ ws m=>(C.flow i ws m).bind λ fl m=>yh C h Z none fl m
 |.xc h (some c) i es,Z,m=>(aS C es Z m).bind λ ws m=>(C.flow i (.ref m.length::ws) (m++[.ins c []])).bind λ fl m1=>yh C h Z @(.ref m.length) fl m1
 |.tr b cs i h,Z,m=>(aD C b Z m).bind λ fl m=>match fl with
  |.rz c d Z1=>if cs.contains c then (aD C h (tF i @(.ref m.length) Z1) (m++[Hj c d])).bind λ fl m=>gone i fl m else .no
  |fl=>.ok fl m
def aD(C:Cx):Ss->Loc->Mem->R F
 |.nil,Z,m=>.ok (.nx Z) m
 |.cons s r,Z,m=>(bu C s Z m).bind λ f m=>match f with
  |.nx Z=>aD C r Z m
  |f=>.ok f m
end
section
variable{C:Cx}{Z:Loc}{m:Mem}
theorem gr(t:A)(e:E):bu C (.asg t e) Z m=(aq C e Z m).bind λ w m=>(eV C t w Z m).bind fun Z m=>.ok (.nx Z) m:=rfl
theorem zm(i:Nat)(a:Operator)(e:E):bu C (.aug i a e) Z m=match Z[i]? with
  |some (some x)=>(aq C e Z m).bind λ y m=>(EW a x y m).bind λ z m=>.ok (.nx (Z.set i (some z))) m
  |_=>.no:=rfl
theorem lJ(e:E):bu C (.expr e) Z m=(aq C e Z m).bind λ _ m=>.ok (.nx Z) m:=rfl
theorem qK(e:E):bu C (.ret e) Z m=(aq C e Z m).bind λ w m=>.ok (.rt w) m:=rfl
theorem o9:bu C .retN Z m=.ok (.rt .non) m:=rfl
theorem qL(t:E)(a b:Ss):bu C (.ife t a b) Z m=(bq C t Z m).bind λ c m=>if c then aD C a Z m else aD C b Z m:=rfl
theorem pe(t:T)(it:E)(b:Ss):bu C (.for_ t it b) Z m=(dR C it Z m).bind λ s m=>er s.get t (fun Z m=>aD C b Z m) (s.len m) 0 Z m:=rfl
theorem qM(t:E)(b:Ss):bu C (.while_ t b) Z m=oZ (fun Z m=>bq C t Z m) (fun Z m=>aD C b Z m) C.fuel Z m:=rfl
theorem pq:bu C .pass Z m=.ok (.nx Z) m:=rfl
theorem uO:bu C .brk Z m=.ok (.bk Z) m:=rfl
theorem pA:bu C .cont Z m=.ok (.ct Z) m:=rfl
theorem kG:bu C .never Z m=.no:=rfl
theorem qN(o:E)(f:Str)(e:E):bu C (.fas o f e) Z m=(aq C e Z m).bind λ w m=>(aq C o Z m).bind λ x m=>(nq C.cs x f w m).bind λ _ m=>.ok (.nx Z) m:=rfl
theorem tG(c:Str)(f:Option Str)(e:E):bu C (.rais c f e) Z m=(aq C e Z m).bind λ w m=>.ok (.rz c (f.map λ g=>(g,w)) Z) m:=rfl
theorem iV(h:CM)(i:Nat)(es:Es):bu C (.xc h none i es) Z m=(aS C es Z m).bind λ ws m=>(C.flow i ws m).bind λ fl m=>yh C h Z none fl m:=rfl
theorem uP(h:CM)(c:Str)(i:Nat)(es:Es):bu C (.xc h (some c) i es) Z m=(aS C es Z m).bind λ ws m=>(C.flow i (.ref m.length::ws) (m++[.ins c []])).bind λ fl m1=>yh C h Z @(.ref m.length) fl m1:=rfl
theorem K6(b:Ss)(cs:List Str)(i:Option Nat)(h:Ss):bu C (.tr b cs i h) Z m=(aD C b Z m).bind λ fl m=>match fl with
  |.rz c a Z1=>if cs.contains c then (aD C h (tF i @(.ref m.length) Z1) (m++[Hj c a])).bind λ fl m=>gone i fl m else .no
  |fl=>.ok fl m:=rfl
theorem pB:aD C .nil Z m=.ok (.nx Z) m:=rfl
theorem gb(s:S)(r:Ss):aD C (.cons s r) Z m=(bu C s Z m).bind λ f m=>match f with
  |.nx Z=>aD C r Z m
  |f=>.ok f m:=rfl
end
set_option genInjectivity false in
structure Fn where
 np:Nat
 nl:Nat
 body:Ss
def fj(n:Nat)(ws:List W):Loc:=ws.map some++List.replicate (n - ws.length) none
end D
namespace L2
open PySem PySem.Spec PyProof.Rows List
variable{C fa:Addr}{E' xe:Value->Shared->Prop}{H:Hp}{K:ae}{M:Model}{P:Program}{Q:Unit->Shared->Prop}{X:Cx}{bm us:List Value}{e fl:Value}{h:Heap}{i:Option Value}{o:Obj}{aa:List (Addr×Obj)}{s:Shared}{tk:Tok}{w:World}{Y:St}
theorem zo(its:List Value):slicePick its.toArray none none @(-1)=its.reverse.toArray:=by
 have p:sliceBounds none none @(-1) its.toArray.size=((its.length:Int) - 1,-1,-1):=by
  simp[sliceBounds]
 unfold slicePick;rw[p];congr 1;have m:sliceRange ((its.length:Int) - 1) (-1) (-1)=(List.range its.length).map λ k=>its.length - 1 - k:=by
  unfold sliceRange;have n:(if (-1:Int)>0 then if (its.length:Int) - 1 < -1 then (-1 - ((its.length:Int) - 1)+-1 - 1) / -1 else 0 else if (its.length:Int) - 1>-1 then ((its.length:Int) - 1 - -1 - -1 - 1) / - -1 else 0).toNat=its.length:=by
   rw[Ri 'd'];split
   .rw[show (- -1:Int)=1 from rfl,Int.ediv_one];lia
   .lia
  erw[n];refine map_congr_left λ k a=>?_;have:=TQ.mp a;lia
 show filterMap (λ x=>its.toArray[x]?) (sliceRange ((its.length:Int) - 1) (-1) (-1))=its.reverse;rw[m,filterMap_map];have:∀l:List Nat,(∀k∈l,k<its.length)->l.filterMap ((λ x=>its.toArray[x]?)∘λ k=>its.length - 1 - k)=l.map λ k=>its.reverse.getD k .none:=by
  intro l d
  induction l with
  |nil=>rfl
  |cons k r f=>
   have a:=d k RG;have e:its.toArray[its.length - 1 - k]?=some (its.reverse.getD k .none):=by
    rw[Rq,getElem?_reverse a];have c:its.length - 1 - k<its.length:=by lia
    simp[c]
   rw[filterMap_cons_some (b:=its.reverse.getD k .none) (~~~e),f λ x g=>d x (Ro _ g)];rfl
 rw[this _ λ k a=>TQ.mp a];refine ext_getElem 's' λ j t q=>?_;rw[Sx,getElem_range,Rq,Rj q];rfl
theorem Vals.rev{xs:List V}(h:Vals xs us):Vals xs.reverse us.reverse:=by
 induction h with
 |nil=>exact .nil
 |cons r t a=>
  rw[U4,U4];exact a.append %[|r]
def jy(h:Heap)(e:Addr)(cls:Value)(c:Option Addr)(tb:Value):Prop:=∃a b,h.get? e=some a/\a.cls=cls/\a.dict=c/\a.data=.fields b/\b[1]?=some tb
def BF(h:Heap)(T:Addr)(fl:Value):Prop:=∃b a,h.get? T=some b/\b.data=.fields a/\a[3]?=some fl
def CQ(h:Heap)(e:Addr)(tb:Value):Prop:=tb=.none\/∃T,tb=.ref T/\BF h T .none/\T≠e
section
variable{M:Model}{A:Around}{E:Value->Shared->Prop}{s:Shared}{base:Heap}{env:Env}{outer:List Env}{L e:Addr}{cls tb:Value}{od:Option Addr}
theorem jy.yl{l:List Env}(f:s.heap.FunFrames base l)(g:jy s.heap e cls od tb):e∉l.filterMap (·.frame):=λ d=>by
 let⟨_,o,b,a⟩:=f.mem d;let⟨m,c,k,_,_,j,_⟩:=g;rw[k] at b;cases b;exact a c j
theorem BF.yl{l:List Env}{T:Addr}(f:s.heap.FunFrames base l)(g:BF s.heap T fl):T∉l.filterMap (·.frame):=λ d=>by
 let⟨_,o,b,a⟩:=f.mem d;let⟨m,c,k,j,_⟩:=g;rw[k] at b;cases b;exact a c j
theorem qO{F:Value}{c:Bool}(p:A.frames=some (env::outer))(u:s.heap.FunFrames base (env::outer))(J:env.frame=some L)(v:jy s.heap e cls od tb)
  (h:∀h' T,(∀b o,s.heap.get? b=some o->b∉(env::outer).filterMap (·.frame)->b≠e->h'.get? b=some o)->(∀b o,s.heap.get? b=some o->b≠e->∃m,h'.get? b=some {o with slots:=m})->
   jy h' e cls od (.ref T)->BF h' T (rawInt L)->s⁻¹<=T->Q () {s with heap:=h'}) :
  wpAny M A (frameOf env >>= λ a=>entryPlaceOf L c >>= λ k=>EntryCells.newEntry F a .none (rawInt L) .none k >>= λ b=>setField (.ref e) 1 b) Q E s:=by
 have U:=v.yl u;let⟨t,G,S,R,O,z,y⟩:=v;refine Q2 (wpAny_frameOf_fun p u J λ g l=>?_);refine Q2 (wpAny_entryPlaceOf λ k f=>?_);unfold EntryCells.newEntry newFields;refine Q2 (Sf ?_ (f.sizeOk5 _ _ _ _ _));have D:g.get? e=some t:=(l.2.1 e U).trans S;generalize j:({cls:=.type "traceback",dict:=none,data:=.fields ([F,.ref L,.none,rawInt L,.none]++(if k.isEmpty then List.replicate 6 Value.none else k)).toArray}:Obj)=n;have B:(g.push n).get? e=some t:=Q3 n D;have N:g.objs.size≠e:=Sn (Q6 D);refine UA B z (SX.mp y).1 (h _ g.objs.size (λ b o r I d=>?_) (λ b o r d=>?_) ?_ ?_ ?_)
 .rw[Sq _ _ (Ne.symm d)];exact Q3 _ ((l.2.1 b I).trans r)
 .let⟨m,q⟩:=l.2.2 b o r;exact⟨m,by rw[Sq _ _ (Ne.symm d)];exact Q3 _ q⟩
 .have x:=TH z (·.setIfInBounds 1 (Value.ref g.objs.size));refine⟨_,_,S0 _ B (T7 x),(Obj.cls_mapFields _ _).trans R,?_,x,?_⟩
  .rw[<-O];unfold Obj.mapFields;split<;>rfl
  .have:1<G.size:=(SX.mp y).1;simp[this]
 .refine⟨n,_,?_,by rw[<-j],?_⟩
  .rw[Sq _ _ (Ne.symm N)];exact Ra g (by rw[<-j];rfl)
  .first | (simp;done) | (rcases f with rfl | ⟨_,_,_,_,_,_,_,rfl⟩<;>simp)
 .exact Vu l.1.symm
theorem zp{T:Addr}{x:Value}(j:BF s.heap T fl)(h:∀h',h'.objs.size=s⁻¹->(∀b,b≠T->h'.get? b=s.heap.get? b)->BF h' T x->Q () {s with heap:=h'}):wpAny M A (setField (.ref T) 3 x) Q E s:=by
 let⟨l,g,f,d,c⟩:=j;have a:=TH d (·.setIfInBounds 3 x);refine UA f d (SX.mp c).1 (h _ (Heap.size_after_update ..) (λ b k=>Sq _ _ (Ne.symm k)) ⟨_,_,S0 _ f (T7 a),a,?_⟩);have:3<g.size:=(SX.mp c).1;simp[this]
theorem uQ(f:A.frames=some (env::outer))(r:s.heap.FunFrames base (env::outer))(t:env.frame=some L)(D:jy s.heap e cls od tb)(Z:CQ s.heap e tb)
  (h:∀h' T,(∀b o,s.heap.get? b=some o->b∉(env::outer).filterMap (·.frame)->b≠e->tb≠.ref b->h'.get? b=some o)->(∀b o,s.heap.get? b=some o->b≠e->tb≠.ref b->∃R,h'.get? b=some {o with slots:=R})->
   jy h' e cls od (.ref T)->BF h' T (rawInt L)->s⁻¹<=T->Q () {s with heap:=h'}):wpAny M A (noteFrame (.ref e) env) Q E s:=by
 let⟨U,J,I,h2,h3,G,F⟩:=id D;unfold noteFrame;erw[t];refine Q2 (R9 I G F ?_);rcases Z with rfl | ⟨T,rfl,x,NY⟩
 .rw[Ri 'd'];exact qO f r t D λ h' T p n m l k=>h h' T (λ b o c a d _=>p b o c a d) (λ b o c a _=>n b o c a) m l k
 .let⟨oT,N,B,y,O⟩:=id x;rw[Rf (show (Value.ref T != Value.none)=true from by simp)];refine Q2 (R9 B y O ?_);rw[Ri (show ¬((Value.none==rawInt L)=true) from by simp[rawInt])];refine Q2 (zp x λ g V j kT=>?_);have nT:=x.yl r;have q:g.FunFrames base (env::outer):=r.of_keeps λ b o v hn=>⟨o,by rw[j b λ z=>by subst z;rw[B] at v;cases v;exact hn N y];exact v,rfl⟩;have u:jy g e cls od (.ref T):=⟨U,J,by rw[j e (Ne.symm NY)];exact I,h2,h3,G,F⟩;refine qO (s:={s with heap:=g}) f q t u λ h' T' p n m l k=>h h' T' (λ b o c a d S=>?_) (λ b o c a d=>?_) m l ?_
  .exact p b o (by rw[j b λ z=>S (by rw[z])];exact c) a d
  .exact n b o (by rw[j b λ z=>d (by rw[z])];exact c) a
  .rw[<-V];exact k
theorem pC{T:Addr}(c:jy s.heap e cls od (.ref T))(a:BF s.heap T fl)(h:∀h',h'.objs.size=s⁻¹->(∀b,b≠T->h'.get? b=s.heap.get? b)->BF h' T .none->Q () {s with heap:=h'}):wpAny M A (setFlight (.ref e) none) Q E s:=by
 let⟨k,j,g,m,l,f,d⟩:=c;unfold setFlight;refine Q2 (R9 g f d ?_);rw[Rf (show (Value.ref T != Value.none)=true from by simp)];exact zp a h
theorem zq(m:A.frames=some (env::outer))(G:s.heap.FunFrames base (env::outer))(I:env.frame=some L)(r:jy s.heap e cls od tb)(F:CQ s.heap e tb)
  (h:∀h' T,(∀b o,s.heap.get? b=some o->b∉(env::outer).filterMap (·.frame)->b≠e->tb≠.ref b->h'.get? b=some o)->(∀b o,s.heap.get? b=some o->b≠e->tb≠.ref b->∃u,h'.get? b=some {o with slots:=u})->
   jy h' e cls od (.ref T)->BF h' T .none->s⁻¹<=T->Q () {s with heap:=h'}):wpAny M A (leaving env (.ref e)) Q E s:=by
 unfold leaving;refine Q2 (uQ m G I r F λ g T B y p x n=>?_);refine pC p x λ h' _ l D=>?_;have k:∀b o,s.heap.get? b=some o->b≠T:=λ b o q=>Rb (Rh (Q6 q) n);have J:T≠e:=λ z=>by
  let⟨j,_,q,_⟩:=r;exact k e j q z.symm
 refine h h' T (λ b o a d c f=>by rw[l b (k b o a)];exact B b o a d c f) (λ b o a d c=>by rw[l b (k b o a)];exact y b o a d c) ?_ D n;let⟨j,t,a,d,c,f,v⟩:=p;exact⟨j,t,by rw[l e (Ne.symm J)];exact a,d,c,f,v⟩
end
def sy(g:Heap)(H:Hp)(h:Heap)(a:Addr)(cls:Value)(d:Option Addr):Prop:=
 ∃c,jy h a cls d c/\CQ h a c/\g.get? a=none/\H a=none/\(∀T,c=.ref T->g.get? T=none/\H T=none)/\∀b o,g.get? b=some o->∃f,h.get? b=some f
def lK(P:Program)(w:World):uC:=λ b H s E e c=>∃a d g f,e=.ref a/\c.os=s.os/\AllBare c.gens/\Un (frs b) [] H f s.heap c.heap/\fQ P w f c.heap/\sy s.heap f c.heap a d g/\E d g f
theorem K7:Passes (lK X.prog X.w) X E0:=λ _ _ _ _ _ _ _ h=>by
 let⟨_,_,_,_,_,_,_,_,_,_,z⟩:=h;exact False.elim z
section
variable{X:Cx}{aa:List (Addr×Obj)}{Y:St}{H:Hp}{s s':Shared}{E:XK}{e:Value}{a:Addr}{cls:Value}{od:Option Addr}
theorem Inv.Hl(I:Inv X aa Y H s)(h:lK X.prog X.w X.stack H s E e s'):∃a cls od d,e=.ref a/\Inv X aa Y d s'/\sy s.heap d s'.heap a cls od/\E cls od d:=by
 let⟨a,cls,od,d,rfl,j,c,g,f,x,q⟩:=h;exact⟨a,cls,od,d,rfl,I.Ep (ch:=[]) j g f c λ b z=>absurd z 's',x,q⟩
theorem left(hx:X.ex=[])(l:X.stack=X.env::X.outer)(r:X.env.frame=some X.env.locals)(I:Inv X aa Y H s)(x:sy X.s₀.heap H s.heap a cls od)
  (hQ:∀h',Un (frs X.outer) [] X.H₀ H X.s₀.heap h'->fQ X.prog X.w H h'->sy X.s₀.heap H h' a cls od->Q () {s with heap:=h'}):wpAny M X.A (leaving X.env (.ref a)) Q E' s:=by
 let⟨V,U,h2,S,R,O,h6⟩:=x;have hl:s.heap.FunFrames X.base (X.env::X.outer):=by rw[<-l];exact I.stack
 have fr:∀b∈(X.env::X.outer).filterMap (·.frame),H b=none:=λ b d=>I.kB b (by rw[l];exact d);refine zq (base:=X.base) (L:=X.env.locals) (by rw[<-l];exact I.ok.frames) hl r U h2 λ h' T N B k3 Z y=>?_;have v:∀b o,X.s₀.heap.get? b=some o->b≠a/\V≠.ref b/\b≠X.env.locals:=λ b o q=>⟨λ z=>(by rw[z,S] at q;cases q),λ z=>(by rw[(O b z).1] at q;cases q),Rb (Rh (Q6 q) I.ok.above)⟩;have m:∀b,b∉X.ex:=λ b=>by rw[hx];simp
 have J:∀b u o,H b=some u->s.heap.get? b=some o->h'.get? b=some o:=λ b u o d q=>N b o q (λ z=>by rw[fr b z] at d;cases d) (λ z=>by rw[z,R] at d;cases d) λ z=>by rw[(O b z).2] at d;cases d
 have D:fQ X.prog X.w H h':=λ b u d=>(I.hok b u d).stay (λ c o F q=>by
  rcases F with rfl | F
  .exact J _ _ _ d q
  .exact J _ _ _ F q) (λ _ q=>q) λ _ _ q=>q
 refine hQ h' ⟨λ b o q n d _=>?_,λ b o q n d _=>?_,λ b o q n _=>I.base.free b o q n (m b),λ b o q _=>?_,I.base.tups,I.base.gw,I.base.g8⟩ D ⟨.ref T,k3,.inr ⟨T,rfl,Z,λ z=>?_⟩,S,R,λ T' e=>?_,λ b o q=>?_⟩
 .let⟨k,j,t⟩:=v b o q;refine N b o (I.base.keep b o q n d (m b)) (λ z=>?_) k j;rw[Up,r] at z;rcases Rk.mp z with z | z
  .exact t z
  .exact d z
 .let⟨k,j,t⟩:=v b o q;let⟨sl,g⟩:=I.base.slot b o q n d (m b);let⟨f,p⟩:=B b _ g k j;exact⟨f,p⟩
 .let⟨k,j,t⟩:=v b o q;let⟨G,g⟩:=I.base.there b o q (m b);let⟨f,p⟩:=B b _ g k j;exact⟨_,p⟩
 .subst z;let⟨oe,_,q,_⟩:=U;exact absurd (Q6 q) (U0.mpr y)
 .cases e;refine⟨?_,I.hok.fresh y⟩;cases z:X.s₀.heap.get? T with
  |none=>rfl
  |some o=>
   let⟨G,g⟩:=I.base.there T o z (m T);exact absurd (Q6 g) (U0.mpr y)
 .let⟨k,j,t⟩:=v b o q;let⟨G,g⟩:=I.base.there b o q (m b);let⟨f,p⟩:=B b _ g k j;exact⟨_,p⟩
end
section
variable{prog:Program}{w:World}{A:Around}{R:Result->Shared->Prop}{h:Heap}{g:Array GenState}{d:Drawn}{t:Nat}{os:OsState}
variable{nm q:Str}{C N f:Addr}{bs bm bmB:List Value}{hdct:Bool}{sn:List Str}{sub:List Value}{ab:Bool}{col:Option Bool}{dd:Option Addr}{k0 k1 k2 k3 k5:Option Value}{B Bn newId nid initId inN:String}{bmN:List Value}
abbrev nP(a:List Value):Obj:={cls:=.type "tuple",data:=.seq a.toArray}
abbrev fk(C t:Addr):Obj:={cls:=.ref C,data:=.fields #[.ref t,.none,.none,.none,.bool false,.none]}
theorem Ho(y:ExcBaseFacts Bn newId inN bmN)(m:bmB.contains (.type Bn)=true)(F:ExcBaseFacts B nid initId bmB)(T:OwnTail h bmB bm){D:Str->Option Value}{a:List Value}{Q:Fin->Shared->Prop}{E:Value->Shared->Prop}
  (l:h.get? C=@(excClassObj nm q C N bs bm hdct sn sub ab col dd k0 k1 k2 k3 k5 newId)) (J:h.Ns N D) (p:D "__init__"=@(.ref f)) (L:∀c,PySem.W.Looks (model prog w) h (bindSpecial (.ref f) c) (.ref f,[c])) (hrest:a.length<=sizeLine)
  (I:codeAny (model prog w) A (.call (.ref f) ⟨.ref (h.objs.size+1)::a,[]⟩) (λ r n=>match r with | .ok (.ret v)=>v=.none/\Q (.done (.ret (.ref (h.objs.size+1)))) n | .ok _=>False | .error e=>E e n) ⟨(h.push {cls:=.type "tuple",data:=.seq a.toArray}).push {cls:=.ref C,data:=.fields #[.ref h.objs.size,.none,.none,.none,.bool false,.none]},g,d,t,os⟩) :
  wpAny (model prog w) A (Builtin.«type.__call__» ⟨.ref C::a,[]⟩) Q E ⟨h,g,d,t,os⟩:=by
 repeat (first | with_reducible refine Rw l ?_ | with_reducible refine wpAny_madeBy_exc l ?_ | wp_step)
 refine codeAny_call_builtin_code (TF _ y.quiet) (wpAny_check_new_subU y m T l ?_);refine codeAny_exc_new_subU y m F T l ?_ hrest;show wpAny _ _ _ _ _ _;have k:∀b o,h.get? b=some o->((h.push {cls:=.type "tuple",data:=.seq a.toArray}).push {cls:=.ref C,data:=.fields #[.ref h.objs.size,.none,.none,.none,.bool false,.none]}).get? b=some o:=λ b o e=>Q3 _ (Q3 _ e);have G:=k _ _ l;have u:=J.keeps k;have j:((h.push {cls:=.type "tuple",data:=.seq a.toArray}).push {cls:=.ref C,data:=.fields #[.ref h.objs.size,.none,.none,.none,.bool false,.none]}).get? (h.objs.size+1)=some {cls:=.ref C,data:=.fields #[.ref h.objs.size,.none,.none,.none,.bool false,.none]}:=by heap_get
 have x:(Value.ref C::bm).contains (.ref C)=true:=by simp
 have O:=T.keeps k;unfold isInstance
 repeat (first | with_reducible refine Rw j ?_ | (with_reducible refine Sw G ?_;rw[x]) | wp_step)
 show wpAny _ _ (typeLookup (.ref C) _) _ _ _;refine wpAny_typeLookup_tail G u O F.mroIs F.init.lookup ?_;rw[p];refine Sd (Q2 (((L (.ref (h.objs.size+1))).keeps k).here ?_));refine Q2 (Uw (So I λ r n z=>?_));rcases r with e | (v | _ | _ | _)<;>first | exact z | exact z.elim | skip;let⟨rfl,z⟩:=z
 wp_walk
 exact z
theorem zv{E:Value->Shared->Prop}{Q:Value->Shared->Prop}(x:ExcBaseFacts Bn newId inN bmN)(l:bmB.contains (.type Bn)=true)(F:ExcBaseFacts B nid initId bmB)(T:OwnTail h bmB bm){m:Str->Option Value}{a:List Value}
  (c:h.get? C=@(excClassObj nm q C N bs bm hdct sn sub ab col dd k0 k1 k2 k3 k5 newId)) (p:h.Ns N m) (k:m "__init__"=@(.ref f)) (u:∀b,PySem.W.Looks (model prog w) h (bindSpecial (.ref f) b) (.ref f,[b])) (hrest:a.length<=sizeLine)
  (n:codeAny (model prog w) (A.under (.builtin "type.__call__" ⟨.ref C::a,[]⟩)) (.call (.ref f) ⟨.ref (h.objs.size+1)::a,[]⟩) (λ r j=>match r with | .ok (.ret v)=>v=.none/\Q (.ref (h.objs.size+1)) j | .ok _=>False | .error e=>E e j) ⟨(h.push {cls:=.type "tuple",data:=.seq a.toArray}).push {cls:=.ref C,data:=.fields #[.ref h.objs.size,.none,.none,.none,.bool false,.none]},g,d,t,os⟩) :
  wpAny (model prog w) A (call (.ref C) a) Q E ⟨h,g,d,t,os⟩:=by
 have G:=tc_lookup;have D:=tc_bind (.ref C);have y:(⟨h,g,d,t,os⟩:Shared).TypeIs (.ref C) "type":=⟨_,c,rfl⟩;refine Uw (U7 ?_);show wpAny _ _ (callAny (.ref C) _) _ _ _
 repeat (any_goals (first | assumption | with_reducible refine Rw c ?_ | wp_step))
 refine⟨rfl,?_⟩;refine codeAny_call_builtin_at (TF _ 'k') entry_typeCall (wpAny_check_type_call_sub c (Ho x l F T c p k u hrest (So n λ r j z=>?_)));rcases r with e | (v | _ | _ | _)<;>exact z
end
section
variable{prog:Program}{w:World}{A:Around}{E:Value->Shared->Prop}{h:Heap}{g:Array GenState}{d:Drawn}{t:Nat}{os:OsState}
variable{nm q:Str}{C N x:Addr}{bs bm bmB:List Value}{sn:List Str}{sub:List Value}{ab:Bool}{col:Option Bool}{dd:Option Addr}{k0 k1 k2 k3 k5:Option Value}{B newId sa owner:String}{name:Str}{v:Value}{o:Obj}{vs:Array Value}
theorem tH(T:OwnTail h bmB bm){b:Value}{a:Str}(e:refuseLoop b a bmB=pure ()):refuseLoop b a bm=pure ():=by
 induction T with
 |base=>exact e
 |own _ _ _ _ c=>rw[refuseLoop_ref];exact c
theorem tK{Q:Fin->Shared->Prop}(SF:StoreFacts B bmB sa owner)(T:OwnTail h bmB bm)
  (hC:h.get? C=@(excClassObj nm q C N bs bm true sn sub ab col dd k0 k1 k2 k3 k5 newId)) (F:PySem.W.Looks (model prog w) h (typeLookup (.ref C) name) none)
  (n:h.get? x=some o) (hc:o.cls=.ref C) (J:o.dict=none) (m:o.data=.fields vs)
  (Z:∀h' p,h'.get? x=some {o with dict:=some h.objs.size}->h'.Ns1 h.objs.size (λ y=>if y=name then some v else none)->(∀b u,b≠x->h.get? b=some u->h'.get? b=some u)->Q (.done (.ret .none)) ⟨h',g,d,p,os⟩) :
  wpAny (model prog w) A (Builtin.«object.__setattr__» ⟨[.ref x,.str name tk,v],[]⟩) Q E ⟨h,g,d,t,os⟩:=by
 have j:=tH T (SF.passes (.ref x));unfold Builtin.«object.__setattr__»
 repeat (first | rw[refuse_eq] | (rw[refuseLoop_ref,j]) | (with_reducible refine Rw n ?_;rw[hc]) | with_reducible refine wpAny_mroOf_exc hC ?_ | with_reducible refine Sz F ?_ | wp_step)
 rw[J,Ri (by simp[typeHasDict])];split
 .ext f;cases f
 split
 .ext c f;rw[m] at f;cases f
 .have a:(h.push {cls:=.type "dict",data:=.dict #[]}).get? x=some o:=Q3 _ n;have k:x≠h.objs.size:=Rb (Q6 n);refine Q2 (wpAny_alloc' ?_);refine Q2 (wpAny_update' a ?_);refine Q8 ?_;have G:((h.push {cls:=.type "dict",data:=.dict #[]}).update x λ o=>{cls:=o.cls,dict:=some h.objs.size,data:=o.data,slots:=o.slots}).get? h.objs.size
    = some {cls:=.type "dict",data:=.dict #[]}:=
   (Heap.get?_update_ne _ _ _ _ k.symm).trans (Heap.get?_push_at rfl rfl)
  have D:((h.push {cls:=.type "dict",data:=.dict #[]}).update x λ o=>{cls:=o.cls,dict:=some h.objs.size,data:=o.data,slots:=o.slots}).Ns h.objs.size (λ _=>none):=
   ⟨_,#[],_,G,rfl,λ e he=>absurd he 's',λ _=>rfl⟩
  show wpAny _ _ (Builtin.ObjectAttr.storeInDict h.objs.size (.str name tk) name v) _ _ _;unfold Builtin.ObjectAttr.storeInDict Builtin.ObjectAttr.newKeyGuard;refine Q2 (Q8 (Q2 (wpAny_nsSet1 (Heap.Ns1.of_empty D) λ h' l S=>?_)));let⟨oD,esD,epD,z,L,O⟩:=l.count (Within.cons name v Within.nil);refine Q2 (wpAny_lookBehind z (by rw[L];exact pastItsLine_dict (Rv O (by rw[RD,Uv,S3];lia))) ?_)
  wp_walk
  refine Z h' _ ?_ l (λ b ob R U=>?_)
  .refine(S.2 x k).trans (S0 _ a ?_);have I:=(Heap.get?_some_iff.mp n).2;let⟨oc,od,r,V⟩:=o;cases r<;>first | rfl | exact I
  .exact(S.2 b (Rb (Q6 U))).trans ((Heap.get?_update_ne _ _ _ _ R).trans (Q3 _ U))
theorem xj{a:Value}(b:StoreFacts B bmB sa owner)(T:OwnTail h bmB bm)
  (l:h.get? C=@(excClassObj nm q C N bs bm true sn sub ab col dd k0 k1 k2 k3 k5 newId)) (j:h.get? x=some o) (k:o.cls=.ref C) (c:Q () ⟨h,g,d,t,os⟩) :
  wpAny M A (checkBuiltinCall sa ⟨[.ref x,a,v],[]⟩) Q E ⟨h,g,d,t,os⟩:=by
 have n:(Value.ref C::bm).contains (.type owner)=true:=by rw[Ub,T.hasType b.hasOwner,Uo]
 have f:=b.args (.ref x) a v;erw[checkBuiltinCall,b.kind,b.split];refine Q2 ?_
 .unfold isInstance
  repeat (first | (with_reducible refine Rw j ?_;rw[k]) | (with_reducible refine Sw l ?_;rw[n]) | wp_step)
  cases hsig:Manifest.signature? sa with
  |none=>exact Q8 c
  |some sig=>
   erw[argsOk,hsig] at f;have m:Bind.checkArgs sa sig ⟨[.ref x,a,v],[]⟩=pure ():=f;show wpAny M A (Bind.checkArgs sa sig ⟨[.ref x,a,v],[]⟩) Q E _;rw[m];exact Q8 c
theorem xm(k:StoreFacts B bmB sa owner)(T:OwnTail h bmB bm)
  (r:h.get? C=@(excClassObj nm q C N bs bm true sn sub ab col dd k0 k1 k2 k3 k5 newId)) (D:PySem.W.Looks (model prog w) h (typeLookup (.ref C) "__setattr__") @(.builtin sa)) (m:PySem.W.Looks (model prog w) h (typeLookup (.ref C) name) none)
  (l:h.get? x=some o) (p:o.cls=.ref C) (n:o.dict=none) (j:o.data=.fields vs)
  (z:∀h' f,h'.get? x=some {o with dict:=some h.objs.size}->h'.Ns1 h.objs.size (λ y=>if y=name then some v else none)->(∀b u,b≠x->h.get? b=some u->h'.get? b=some u)->Q () ⟨h',g,d,f,os⟩) :
  wpAny (model prog w) A (setAttr (.ref x) name v) Q E ⟨h,g,d,t,os⟩:=by
 have F:=k.slot.bind (.ref x);unfold setAttr callSpecial? specialOf
 repeat (any_goals (first | assumption | (with_reducible refine Rw l ?_;rw[p]) | with_reducible refine Sz D ?_ | wp_step))
 refine S5 k.slot.plain k.entry (xj k T r l p (tK k T r m l p n j λ h' f a b c=>?_))
 repeat (any_goals (first | assumption | wp_step))
 exact z h' f a b c
end
def VE:List Value:=[.type "ValueError",.type "Exception",.type "BaseException",.type "object"]
structure XC(K:ae)(C:Addr)(bm:List Value)(i:Option Value):Prop where
 ex:∃(nm q:Str) (N:Addr) (bs:List Value) (sn:List Str) (sub:List Value) (ab:Bool) (col:Option Bool) (dd:Option Addr) (k0 k1 k2 k3 k5:Option Value) (Bn newId inN:String) (bmN:List Value) (mN:Str->Option Value),
  K.lookup C=some (excClassObj nm q C N bs bm true sn sub ab col dd k0 k1 k2 k3 k5 newId)/\ExcBaseFacts Bn newId inN bmN/\VE.contains (.type Bn)=true/\mN "__init__"=i/\∀h,K.In h->h.Ns N mN/\OwnTail h VE bm
 sa:PySem.W.findIn K (.ref C) "__setattr__"=@(some (.builtin "object.__setattr__"))
 kp:PySem.W.keepIn K (.ref C)=true
def gR(a:Addr)(o:Obj):HO:=.ext λ h=>h.get? a=some o
theorem tM{a:Addr}(e:h.get? a=some o):aX P w H h a (gR a o):=⟨e,⟨o,e⟩,λ _ _ p k=>k o p⟩
theorem gU{a:Addr}(b:fQ P w H h)(e:H a=@(gR a o)):h.get? a=some o:=(show aX P w H h a (gR a o) from b a _ e).1
def EX(H:Hp)(a:Addr):Hp:=λ b=>if b=a then none else H b
section
variable{X:Cx}{aa:List (Addr×Obj)}{Y:St}{H:Hp}{s:Shared}
theorem Inv.drop{a:Addr}{g:Heap->Prop}(I:Inv X aa Y H s)(e:H a=@(.ext g)):Inv X aa Y (EX H a) s:=by
 have k:∀b u,b≠a->H b=u->EX H a b=u:=λ b u n q=>by unfold EX;rw[Ri n];exact q
 have z:∀b,H b=none->EX H a b=none:=λ b q=>by unfold EX;split<;>first | rfl | exact q
 refine⟨I.ok,I.os,I.bare,⟨I.base.keep,I.base.slot,λ b o q n l=>z _ (I.base.free b o q n l),I.base.there,λ b f q=>?_,λ b o u q=>?_,λ b j q=>?_⟩,I.loc,I.cell,z _ I.free,λ x c q=>z _ (I.freeC x c q),λ p t=>?_,λ b u q=>?_,I.len⟩
 .have d:=I.base.tups b f q;exact k b _ (λ y=>by rw[y,e] at d;cases d) d
 .have d:=I.base.gw b o u q;exact k b _ (λ y=>by rw[y,e] at d;cases d) d
 .let⟨m,d⟩:=I.base.g8 b j q;exact⟨m,k b _ (λ y=>by rw[y,e] at d;cases d) d⟩
 .let⟨B,A,v⟩:=I.pin p t;exact⟨B,z _ A,v⟩
 .unfold EX at q;split at q
  .cases q
  .exact(I.hok b u q).stay (λ _ _ _ r=>r) (λ c r=>k c _ (λ y=>by rw[y,e] at r;cases r) r) λ c f r=>k c _ (λ y=>by rw[y,e] at r;cases r) r
theorem xq{a:Addr}{vs:Array Value}{f:Str}{y:V}{u:Value}{A:Around}{E:Value->Shared->Prop}(c:XC X.K C bm i)(nf:PySem.W.findIn X.K (.ref C) f=some none)
  (I:Inv X aa Y H s) (e:H a=@(gR a o)) (hc:o.cls=.ref C) (S:o.dict=none) (D:o.data=.fields vs) (ry:RelV y u)
  (hQ:∀dx Z,H dx=none->dx≠a->Inv X aa Y (upd (upd H a (gR a {o with dict:=some dx})) dx (.xd [(f,y)])) Z->Q () Z):wpAny (model X.prog X.w) A (setAttr (.ref a) f u) Q E s:=by
 let⟨nm,q,N,bs,sn,sub,ab,col,dd,k0,k1,k2,k3,k5,Bn,R,inN,bmN,mN,hC,Fn,hBn,hi,T⟩:=c.ex;have hx:=gU I.hok e;let⟨B,g,d,t,os⟩:=s;refine xm (bmB:=VE) F.store_ValueError (T _ I.cQ).2 (I.cQ _ _ hC) (R5 I.cQ c.sa) (R5 I.cQ nf) hx hc S D λ h' O h1 h2 J=>?_;have ne:B.objs.size≠a:=Sn (Q6 hx);have hn:H B.objs.size=none:=I.hok.fresh (Q7 _);have k:∀b r,H b=some r->b≠a->upd (upd H a (gR a {o with dict:=some B.objs.size})) B.objs.size (.xd [(f,y)]) b=some r:=λ b r m j=>by rw[ao (aB m hn),ao j];exact m
 refine hQ B.objs.size _ hn ne (I.un (t':=O) (h':=h') ⟨λ b p m j _ _=>J b p (λ z=>by rw[z,e] at j;cases j) m,λ b p m j _ _=>⟨p.slots,J b p (λ z=>by rw[z,e] at j;cases j) m⟩,λ b p m j _=>?_,λ b p m _=>?_,λ b xs q=>k b _ q (λ z=>(by rw[z,e] at q;cases q)),
  λ b p v q=>k b _ q (λ z=>(by rw[z,e] at q;cases q)),λ b ps q=>⟨#[],(by rw[k b _ q (λ z=>(by rw[z,e] at q;cases q))];simp)⟩⟩ λ b r q=>?_)
 .rw[ao (Rb (Q6 m)),ao (λ z=>(by rw[z,e] at j;cases j))];exact j
 .by_cases z:b=a
  .exact⟨_,by rw[z];exact h1⟩
  .exact⟨p,J b p z m⟩
 .by_cases z:b=B.objs.size
  .subst z;rw[aC] at q;cases q;refine⟨_,h2,λ G=>?_⟩;show eN (List.lookup G [(f,y)]) (if G=f then some u else none)
   by_cases l:G=f
   .have U:(G==f)=true:=RT.mpr l;erw[List.lookup,U,Rf l];exact ry
   .have U:(G==f)=false:=SK.mpr l;erw[List.lookup,U,Ri l];trivial
  .rw[ao z] at q
   by_cases L:b=a
   .subst L;rw[aC] at q;cases q;exact tM h1
   .rw[ao L] at q;refine(I.hok b r q).stay (λ c v x n=>J c v ?_ n) (λ c n=>k c _ n λ l=>by rw[l,e] at n;cases n) λ c xs n=>k c _ n λ l=>by rw[l,e] at n;cases n
    rcases x with rfl | x
    .exact L
    .intro l;rw[l,e] at x;cases x
end
def K8(C:Addr)(g d:TE)(f:Str):TS:=λ D Y H=>d Y H λ y j=>g Y j λ x c=>∃a t,x=.ref a/\c a=some (gR a (fk C t))/\
 ∀b,c b=none->b≠a->D.nx Y (upd (upd c a (gR a {fk C t with dict:=some b})) b (.xd [(f,y)]))
def EY(C:Addr)(f:Str):Sp:=λ c H Q _=>∃a t y,c=[.ref a,y]/\H a=some (gR a (fk C t))/\∀b,H b=none->b≠a->Q .non (upd (upd H a (gR a {fk C t with dict:=some b})) b (.xd [(f,y)]))
section
variable{X:Cx}{o value:Expr}{f:Str}{pos pos':Pos}{ta tv:TE}{C:Addr}{bm:List Value}{i:Option Value}
theorem CT(c:XC X.K C bm i)(m:PySem.W.findIn X.K (.ref C) f=some none)(v:PE X o ta)(n:PE X value tv)(p:swapsWith value @(.Attribute o f pos') pos.line X.env=pure false):PS X (.Assign [.Attribute o f pos'] value pos) (K8 C ta tv f):=by
 intro aa s Y H D I h;refine T6 (bF (n aa s Y H _ I h) λ u d ⟨y,J,G,g,q⟩=>bF (v aa d Y J _ G q) λ l N ⟨x,O,F,j,a,t,z,A,k⟩=>?_) p;subst z;obtain rfl:l=Value.ref a:=j;exact xq c m F A rfl rfl rfl g λ B L r b E=>⟨Y,_,E,k B r b⟩
theorem uR{CX:uC}{k:Nat}{fd:FuncData}{ps:List Str}{E:XK}{v:V}{u:Value}(c:XC X.K C bm @(.ref fa))(O:PySem.W.typeIn X.K (.ref fa)=@(.type "function"))
  (F:cg X.prog X.w X.K X.mg X.base yg k fa fd ps (EY C f)) (hr:bP (k+1) X.A) (hb:Binds X.K fd ps []) (L:ps.length=2) (I:Inv X aa Y H s) (r:RelV v u) {Q:Value->Shared->Prop}
  (hQ:∀a dx m,H dx=none->Inv X aa Y (upd H dx (.xd [(f,v)])) m->sy s.heap (upd H dx (.xd [(f,v)])) m.heap a (.ref C) (some dx)->(∃z,m.heap.get? a=some {fk C z with dict:=some dx})->Q (.ref a) m):wpAny (model X.prog X.w) X.A (call (.ref C) [u]) Q E' s:=by
 let⟨nm,q,N,bs,sn,sub,ab,col,dd,k0,k1,k2,k3,k5,Bn,J,inN,bmN,mN,hC,Fn,R,hi,T⟩:=c.ex;let⟨l,g,d,t,os⟩:=s;let⟨hN,hT⟩:=T _ I.cQ;refine zv (bmB:=VE) Fn R SY hT (I.cQ _ _ hC) hN hi (λ p=>PySem.W.bind_fn I.cQ p O) (by rw[S3];show 1<=_;decide) ?_;generalize x:l.objs.size=z;have e2:((l.push (nP [u])).push (fk C z)).get? (z+1)=some (fk C z):=by
  have:=Ra (l.push (nP [u])) (o:=fk C z) rfl
  rwa [R7,x] at this
 have Z:Inv X aa Y (upd H (z+1) (gR (z+1) (fk C z))) ⟨(l.push (nP [u])).push (fk C z),g,d,t,os⟩:=
  I.laid (t':=t) (h':=(l.push (nP [u])).push (fk C z)) (a:=z+1) (λ b G q=>Q3 _ (Q3 _ q)) (by rw[<-x];exact Tc _) (tM e2)
 have hn:H (z+1)=none:=I.hok.fresh (by rw[<-x];exact Tc _);refine So (F.run _ X.stack _ _ ⟨[.ref (z+1),u],[]⟩ [.ref (z+1),u] [.ref (z+1),v] (λ v' H'=>v'=.non/\∃dx,H dx=none/\dx≠z+1/\H'=upd (upd (upd H (z+1) (gR (z+1) (fk C z))) (z+1) (gR (z+1) {fk C z with dict:=some dx})) dx (.xd [(f,v)])) E0
  (hr.make C [u] []) (Z.Ce.make C [u] []) (by have:=hb ⟨(l.push (nP [u])).push (fk C z),g,d,t,os⟩ [.ref (z+1),u] Z.cQ (by rw[L];rfl);rwa [R6] at this) %[rfl,|r] ⟨z+1,z,v,rfl,aC,λ dx B j=>⟨rfl,dx,?_,j,rfl⟩⟩) λ rr m n=>?_
 .rw[ao j] at B;exact B
 .cases rr with
  |error e=>exact False.elim n
  |ok fl=>
   cases fl with
   |ret u'=>
    let⟨v',H',U,rv,ev,dx,B,j,eH⟩:=Z.after n;subst ev;subst eH;have S:upd (upd (upd H (z+1) (gR (z+1) (fk C z))) (z+1) (gR (z+1) {fk C z with dict:=some dx})) dx (.xd [(f,v)]) (z+1)=some (gR (z+1) {fk C z with dict:=some dx}):=by rw[ao (Ne.symm j),aC]
    have I4:=U.drop S;have eD:EX (upd (upd (upd H (z+1) (gR (z+1) (fk C z))) (z+1) (gR (z+1) {fk C z with dict:=some dx})) dx (.xd [(f,v)])) (z+1)=upd H dx (.xd [(f,v)]):=by
     funext b;unfold EX
     by_cases y:b=z+1
     .rw[Rf y,y,ao (Ne.symm j),hn]
     .rw[Ri y]
      by_cases D:b=dx
      .rw[D,aC,aC]
      .rw[ao D,ao y,ao y,ao D]
    rw[eD] at I4;refine⟨rv,hQ (z+1) dx m B I4 ⟨.none,⟨_,_,gU U.hok S,rfl,rfl,rfl,rfl⟩,.inl rfl,Heap.get?_none_of_le (by show l.objs.size<=z+1;rw[<-x];exact Tc _),?_,λ T e=>(by cases e),λ b G q=>?_⟩ ⟨z,gU U.hok S⟩⟩
    .rw[ao (Ne.symm j)];exact hn
    .have q0:((l.push (nP [u])).push (fk C z)).get? b=some G:=Q3 _ (Q3 _ q);let⟨_,_,_,_,un,_⟩:=id n;exact un.there b G q0 's'
   |next=>exact False.elim n
   |brk=>exact False.elim n
   |cont=>exact False.elim n
end
def Old(X:Cx)(aa:List (Addr×Obj))(g:Heap):Prop:=(∀b o,X.s₀.heap.get? b=some o->∃a,g.get? b=some a)/\∀p∈X.pn++aa,∃a,g.get? p.1=some a
theorem Inv.old(I:Inv X aa Y H s)(a:X.ex=[]):Old X aa s.heap:=⟨λ b o e=>I.base.there b o e (by rw[a];simp),λ p c=>⟨_,(I.pin p c).1⟩⟩
theorem sy.old{g:Heap}{m:Hp}{a:Addr}{cls:Value}{f:Option Addr}(d:Old X aa g)(x:sy g m h a cls f):sy X.s₀.heap m h a cls f:=by
 have k:∀b,g.get? b=none->X.s₀.heap.get? b=none:=λ b q=>by
  cases z:X.s₀.heap.get? b with
  |none=>rfl
  |some o=>
   let⟨j,c⟩:=d.1 b o z;rw[q] at c;cases c
 let⟨n,v,u,t,r,l,p⟩:=x;exact⟨n,v,u,k _ t,r,λ T e=>⟨k _ (l T e).1,(l T e).2⟩,λ b o q=>by
  let⟨j,c⟩:=d.1 b o q;exact p b j c⟩
def ki(X:Cx)(Y:St)(cls:Value)(b:Option Addr)(H:Hp):Prop:=∀(aa:List (Addr×Obj)) (s:Shared) (a:Addr) (g:Heap),Inv X aa Y H s->Old X aa g->sy g H s.heap a cls b->X.xe (.ref a) s
theorem XC.base(c:XC K C bm i){A:Around}{E:Value->Shared->Prop}{env:Env}{x:Sem Value}{Q:Flow->Shared->Prop}(p:A.handled=none)
  (h:wpAny M A x (λ v a=>∃e j z,v=.ref e/\K.In a.heap/\a.heap.get? e=some {fk C z with dict:=j}/\E (.ref e) a) E s):wpAny M A (raiseStmt env (some x) none) Q E s:=by
 let⟨J,q,N,bs,G,m,ab,B,dd,V,U,S,R,O,Bn,f,n,D,L,u,Fn,y,hi,T⟩:=c.ex;unfold raiseStmt;refine Q2 (Rm h (λ v a b=>?_) λ _ _ x=>x);let⟨e,j,z,rfl,k,r,t⟩:=b;let⟨Z,g,d,tk,I⟩:=a;have l:=k _ _ u;have F:(Value.ref C::bm).contains (.type "BaseException")=true:=by rw[Ub,(T _ k).2.hasType (show VE.contains (.type "BaseException")=true from by decide),Uo]
 repeat (first | with_reducible refine Rw r ?_ | with_reducible refine Rw l ?_ | (with_reducible refine Sw l ?_;rw[F]) | wp_step)
 exact wpAny_raiseNew_none p t
def Hq(X:Cx)(C:Addr)(f:Str)(c:TE):TS:=λ _ Y H=>c Y H λ y b=>∀a,b a=none->ki X Y (.ref C) (some a) (upd b a (.xd [(f,y)]))
section
variable{X:Cx}{e:Expr}{f x:Str}{pos cpos np:Pos}{tv:TE}{C:Addr}{bm:List Value}
theorem zw{k:Nat}{J:FuncData}{ps:List Str}(c:XC X.K C bm @(.ref fa))(m:PySem.W.typeIn X.K (.ref fa)=@(.type "function"))
  (F:cg X.prog X.w X.K X.mg X.base yg k fa J ps (EY C f)) (B:bP (k+1) X.A) (hb:Binds X.K J ps []) (l:ps.length=2) (j:X.ex=[]) (V:Gl X x) (U:X.mg x=@(.ref C)) (T:PE X e tv) (p:(x==("__debug__":Str))=false:=by decide)
  (G:starEach [e] X.env=(false,eval e X.env)::starEach [] X.env:=by rfl) (n:evalOpt @(.Call (.Name x np) [e] [] cpos) X.env=some (eval (.Call (.Name x np) [e] [] cpos) X.env):=by rfl):PS X (.Raise @(.Call (.Name x np) [e] [] cpos) none pos) (Hq X C f tv):=by
 intro aa s Y H D I h;rw[arm_exec_Raise,n];refine Q2 (R8 ?_);show wpAny _ _ (raiseStmt X.env @(do let v <-eval (.Call (.Name x np) [e] [] cpos) X.env;standAt pos;pure v) none) _ _ _;refine c.base B.hd (Q2 ?_);refine RV (cV I V U ?_ p);have h':qm tv sP Y H λ g d=>match g with | [y]=>∀b,d b=none->ki X Y (.ref C) (some b) (upd d b (.xd [(f,y)])) | _=>False:=h
 refine Sh (h₀:=X.base) I.ok.mod.kin c.kp (bF (bI T cY G cpos aa s Y H _ I h') λ us s1 ⟨g,d,t,r,q⟩=>⟨t.cQ,?_⟩) G rfl;obtain⟨y,rfl⟩:∃y,g=[y]:=by
  match g,q with
  | [y],_=>exact⟨y,rfl⟩
 replace q:∀b,d b=none->ki X Y (.ref C) (some b) (upd d b (.xd [(f,y)])):=q;let⟨u,rfl,R⟩:=vals1 r;refine uR (CX:=yg) (E:=E0) c m F B hb l t R λ a b O Z L N ⟨z,S⟩=>?_;refine Q2 (R8 (Q8 ?_));exact⟨a,_,z,rfl,L.cQ,S,q b Z aa O a _ L (t.old j) N⟩
end
theorem aX.EZ{a:Addr}{o:HO}(x:aX P w H h a o):∃u,h.get? a=some u:=by
 cases o with
 |lst xs=>let⟨_,_,_,_,e⟩:=x;exact⟨_,e⟩
 |tup xs=>let⟨_,_,_,c,e,_⟩:=x;exact⟨_,e⟩
 |dK b=>let⟨_,_,_,_,o,_,_,e,_⟩:=x;exact⟨_,e⟩
 |dT b=>let⟨_,_,_,_,o,_,_,e,_⟩:=x;exact⟨_,e⟩
 |set S n=>let⟨o,_,_,_,e,_⟩:=x;exact⟨_,e⟩
 |ins C g fs=>let⟨_,_,_,e,_⟩:=x;exact⟨_,e⟩
 |own y=>let⟨_,e⟩:=x;exact⟨_,e⟩
 |xd fs=>let⟨_,⟨_,_,_,e,_⟩,_⟩:=x;exact⟨_,e⟩
 |rng lo hi=>let⟨_,_,_,e⟩:=x;exact⟨_,e⟩
 |frz c u=>let⟨e,_⟩:=x;exact⟨_,e⟩
 |tbl ps=>exact⟨_,show h.get? a=some _ from x⟩
 |met f y=>exact⟨_,show h.get? a=some _ from x⟩
 |ext d=>let⟨_,⟨_,e⟩,_⟩:=x;exact⟨_,e⟩
def CU(X:Cx)(C:Addr)(a:TE):TS:=λ _ Y H=>a Y H λ _ b=>ki X Y (.ref C) none b
section
variable{X:Cx}{e:Expr}{f x:Str}{pos cpos np:Pos}{tv:TE}{C:Addr}{bm:List Value}
theorem xr(c:XC X.K C bm none)(n:X.A.handled=none)(B:X.ex=[])(hg:Gl X x)(j:X.mg x=@(.ref C))(hv:PE X e tv)(F:(x==("__debug__":Str))=false:=by decide)
  (O:starEach [e] X.env=(false,eval e X.env)::starEach [] X.env:=by rfl) (E:evalOpt @(.Call (.Name x np) [e] [] cpos) X.env=some (eval (.Call (.Name x np) [e] [] cpos) X.env):=by rfl):PS X (.Raise @(.Call (.Name x np) [e] [] cpos) none pos) (CU X C tv):=by
 intro aa s Y H D I h;let⟨nm,q,N,bs,sn,V,ab,col,dd,k0,k1,k2,k3,k5,Bn,p,inN,bmN,mN,hC,Fn,G,hi,T⟩:=c.ex;rw[arm_exec_Raise,E];refine Q2 (R8 ?_);show wpAny _ _ (raiseStmt X.env @(do let v <-eval (.Call (.Name x np) [e] [] cpos) X.env;standAt pos;pure v) none) _ _ _;refine c.base n (Q2 ?_);refine RV (cV I hg j ?_ F);have J:qm tv sP Y H λ m l=>match m with | [_]=>ki X Y (.ref C) none l | _=>False:=h
 refine Sh (h₀:=X.base) I.ok.mod.kin c.kp (bF (bI hv cY O cpos aa s Y H _ I J) λ us Z ⟨m,l,k,r,q⟩=>⟨k.cQ,?_⟩) O rfl;obtain⟨y,rfl⟩:∃y,m=[y]:=by
  match m,q with
  | [y],_=>exact⟨y,rfl⟩
 replace q:ki X Y (.ref C) none l:=q;let⟨u,rfl,ru⟩:=vals1 r;let⟨n,g,d,t,os⟩:=Z;let⟨hN,hT⟩:=T _ k.cQ;refine wpAny_call_exc_subU (bmB:=VE) (hrest:=by rw[S3];show 1<=_;decide) Fn G SY hT (k.cQ _ _ hC) hN hi λ J a j=>?_;refine Q2 (R8 (Q8 ?_));let⟨z,R,g2,g3⟩:=j.there;have S:Inv X aa Y l ⟨J,g,d,t,os⟩:=k.kept (t':=t) j.keeps;have hn:l a=none:=by
  cases U:l a with
  |none=>rfl
  |some o=>
   let⟨ob,L⟩:=aX.EZ (k.hok _ _ U);rw[show n.get? a=none from j.new] at L;cases L
 exact⟨a,none,z,rfl,S.cQ,R,q aa _ a n S (k.old B) ⟨.none,⟨_,_,R,rfl,rfl,rfl,rfl⟩,.inl rfl,j.new,hn,λ T e=>(by cases e),λ b o q=>⟨o,j.keeps b o q⟩⟩⟩
end
section
variable{P:Program}{w:World}{K:ae}{mg:Str->Option Value}{base:Heap}{N:List Str}{qual:Str}{scope:Scope}{f:Addr}{cd:Value}{A:Around}{outer:List Env}{s:Shared}{H:Hp}{E:XK}
theorem uT{cls:Value}{b:Option Addr}{d:Hp}(h:E cls b d):ki (iL (lK P w) P w K mg base N qual scope f cd A outer s H E) Y cls b d:=λ aa m a g I l x=>
 left (X:=iL (lK P w) P w K mg base N qual scope f cd A outer s H E) rfl rfl rfl I (x.old l) λ n k c j=>⟨a,cls,b,d,rfl,I.os,I.bare,k,c,j,h⟩
theorem E2(l:X.ex=[]){k:XK}(h:∀cls c d,k cls c d->ki X Y cls c d){j:Hp}{g b:Shared}(I:Inv X aa Y j g)(m:lK X.prog X.w X.stack j g k e b):X.xe e b:=by
 let⟨a,cls,c,d,rfl,n,x,q⟩:=I.Hl m;exact h _ _ _ q aa b a _ n (I.old l) x
theorem CV:PassesOwn (model P w) (iL (lK P w) P w K mg base N qual scope f cd A outer s H E).A (iL (lK P w) P w K mg base N qual scope f cd A outer s H E).env (iL (lK P w) P w K mg base N qual scope f cd A outer s H E).xe:=by
 have:=PassesOwn.leaving (M:=model P w) (A:=A.deeper (envOfC qual scope s⁻¹ f cd)) (env:=envOfC qual scope s⁻¹ f cd) (Q₁:=λ e a=>lK P w outer H s E e a) (E₁:=λ b a=>lK P w outer H s E b a);exact this
end
section
variable{X:Cx}{aa:List (Addr×Obj)}{Y:St}{H:Hp}{s:Shared}{a:Addr}{cls:Value}{od:Option Addr}{g:Heap}
theorem Inv.past{h':Heap}{tb:Value}(I:Inv X aa Y H s)(hx:X.ex=[])(ol:Old X aa g)(h1:jy s.heap a cls od tb)(h2:CQ s.heap a tb)(h3:g.get? a=none)(h4:H a=none)(h5:∀T,tb=.ref T->g.get? T=none/\H T=none)
  (U:∀b o,s.heap.get? b=some o->b∉frs X.stack->b≠a->tb≠.ref b->h'.get? b=some o) (E:∀b o,s.heap.get? b=some o->b≠a->tb≠.ref b->∃D,h'.get? b=some {o with slots:=D})
  : Inv X aa Y H {s with heap:=h'}:=by
 have na:∀b o,s.heap.get? b=some o->(∀j,o.data≠.fields j)->b≠a/\tb≠.ref b:=λ b o q nf=>by
  let⟨oe,j,e1,_,_,e2,_⟩:=h1;refine⟨λ z=>?_,λ z=>?_⟩
  .rw[z,e1] at q;cases q;exact nf j e2
  .rcases h2 with y | ⟨T,y,⟨oT,ts,t1,t2,_⟩,_⟩
   .rw[y] at z;cases z
   .rw[y] at z;cases z;rw[t1] at q;cases q;exact nf ts t2
 have S:∀b o,g.get? b=some o->b≠a/\tb≠.ref b:=λ b o q=>⟨λ z=>(by rw[z,h3] at q;cases q),λ z=>(by rw[(h5 b z).1] at q;cases q)⟩;have f:∀b o,X.s₀.heap.get? b=some o->b≠a/\tb≠.ref b:=λ b o q=>by
  let⟨R,q'⟩:=ol.1 b o q;exact S b R q'
 have fr:∀b∈frs X.stack,H b=none:=I.kB;have B:∀b,b∉X.ex:=λ b=>by rw[hx];simp
 have kh:∀b u o,H b=some u->s.heap.get? b=some o->h'.get? b=some o:=λ b u o d q=>U b o q (λ z=>by rw[fr b z] at d;cases d) (λ z=>by rw[z,h4] at d;cases d) λ z=>by rw[(h5 b z).2] at d;cases d
 have lo:∀b o,X.s₀.heap.get? b=some o->b∈frs X.stack->b∈X.fs:=λ b o q d=>by
  rcases Rk.mp (I.ji b d) with e | e
  .rw[e] at q;exact absurd (Q6 q) (U0.mpr I.ok.above)
  .exact e
 let⟨m,hm,hl⟩:=I.loc;have V:h'.Ns X.env.locals m:=by
  let⟨o,es,ep,l,t,r⟩:=hm;let⟨L,J⟩:=na _ _ l (λ j z=>by rw[t] at z;cases z);let⟨D,q⟩:=E _ _ l L J;exact⟨_,es,ep,q,t,r⟩
 have A:∀c v,s.heap.IsCell c v->h'.IsCell c v:=λ c v ⟨o,l,t⟩=>by
  let⟨L,J⟩:=na _ _ l (λ j z=>by rw[t] at z;cases z);let⟨D,q⟩:=E _ _ l L J;exact⟨_,q,t⟩
 refine⟨I.ok,I.os,I.bare,⟨λ b o q n d _=>?_,λ b o q n d _=>?_,λ b o q n _=>I.base.free b o q n (B b),λ b o q _=>?_,I.base.tups,I.base.gw,I.base.g8⟩,⟨m,V,λ i x v e1 e2 e3=>?_⟩,λ x c q=>?_,I.free,I.freeC,λ p hp=>?_,λ b u d=>?_,I.len⟩
 .exact U b o (I.base.keep b o q n d (B b)) (λ z=>d (lo b o q z)) (f b o q).1 (f b o q).2
 .let⟨D,O⟩:=I.base.slot b o q n d (B b);let⟨k,N⟩:=E b _ O (f b o q).1 (f b o q).2;exact⟨k,N⟩
 .let⟨R,O⟩:=I.base.there b o q (B b);let⟨k,N⟩:=E b _ O (f b o q).1 (f b o q).2;exact⟨_,N⟩
 .let⟨u,r,z⟩:=hl i x v e1 e2 e3;refine⟨u,r,?_⟩;rcases z with⟨G,F⟩ | ⟨G,c,F,z3⟩
  .exact .inl ⟨G,F⟩
  .exact .inr ⟨G,c,F,A _ _ z3⟩
 .let⟨v,z⟩:=I.cell x c q;exact⟨v,A _ _ z⟩
 .let⟨p1,p2,p3,p4,p5⟩:=I.pin p hp;let⟨R,y⟩:=ol.2 p hp;refine⟨U _ _ p1 (λ z=>?_) (S _ _ y).1 (S _ _ y).2,p2,p3,p4,p5⟩;rcases Rk.mp (I.ji _ z) with e | e
  .exact p3 e
  .exact p4 e
 .refine(I.hok b u d).stay (λ c o Z q=>?_) (λ _ q=>q) λ _ _ q=>q;rcases Z with rfl | Z
  .exact kh _ _ _ d q
  .exact kh _ _ _ Z q
theorem landed(hx:X.ex=[])(c:X.stack=X.env::X.outer)(v:X.env.frame=some X.env.locals)(I:Inv X aa Y H s)(ol:Old X aa g)(x:sy g H s.heap a cls od)
  (hQ:∀h',Inv X aa Y H {s with heap:=h'}->sy g H h' a cls od->Q () {s with heap:=h'}):wpAny M X.A (noteFrame (.ref a) X.env) (λ _ s2=>wpAny M X.A (setFlight (.ref a) none) Q E' s2) E' s:=by
 let⟨Z,D,S,B,R,O,N⟩:=x;have hl:s.heap.FunFrames X.base (X.env::X.outer):=by rw[<-c];exact I.stack
 refine uQ (base:=X.base) (L:=X.env.locals) (by rw[<-c];exact I.ok.frames) hl v D S λ g1 T k1 J G k4 u=>?_;refine pC (s:={s with heap:=g1}) G k4 λ h' _ l j2=>?_;have k:∀b o,s.heap.get? b=some o->b≠T:=λ b o q=>Rb (Rh (Q6 q) u);let⟨F,V,j,p,q3,q4,q5⟩:=G;have f:T≠a:=λ z=>by
  let⟨r,_,q,_⟩:=D;exact k a r q z.symm
 have ka:h'.get? a=some F:=by rw[l a (Ne.symm f)];exact j
 have hH:H T=none:=I.hok.fresh u;have I':Inv X aa Y H {s with heap:=h'}:=I.past hx ol D S B R O (λ b o d n m U=>by rw[l b (k b o d)];exact k1 b o d (by rw[<-c];exact n) m U) (λ b o d n m=>by
  let⟨E,y⟩:=J b o d n m;exact⟨E,by rw[l b (k b o d)];exact y⟩)
 refine hQ h' I' ⟨.ref T,⟨F,V,ka,p,q3,q4,q5⟩,.inr ⟨T,rfl,j2,f⟩,B,R,λ T' e=>?_,λ b o q=>?_⟩
 .cases e;refine⟨?_,hH⟩;cases z:g.get? T with
  |none=>rfl
  |some o=>
   let⟨t,q⟩:=N T o z;exact absurd (Q6 q) (U0.mpr u)
 .have n1:b≠a:=λ z=>by rw[z,B] at q;cases q
  have n2:Z≠.ref b:=λ z=>by rw[(O b z).1] at q;cases q
  let⟨t,j⟩:=N b o q;let⟨E,p⟩:=J b t j n1 n2;exact⟨_,by rw[l b (k b t j)];exact p⟩
end
section
variable{prog:Program}{w:World}{A:Around}{E:Value->Shared->Prop}{h:Heap}{g:Array GenState}{d:Drawn}{t:Nat}{os:OsState}
variable{nm q:Str}{C N x dx:Addr}{bs bm:List Value}{sn:List Str}{sub:List Value}{ab:Bool}{col:Option Bool}{dd:Option Addr}{k0 k1 k2 k3 k5:Option Value}{newId:String}{name:Str}{v:Value}{o:Obj}{vs:Array Value}{mA:Str->Option Value}
theorem xu{P e:Addr}{I:List Value}{j:Option Value}{z:Obj}{Q:Bool->Shared->Prop}(c:XC K C bm i)(p:XC K P I j)(r:K.In h)(he:h.get? e=some z)(a:z.cls=.ref C)
  (m:Q ((Value.ref C::bm).contains (.ref P)) ⟨h,g,d,t,os⟩):wpAny M A (excMatches (.ref e) (.ref P)) Q E ⟨h,g,d,t,os⟩:=by
 let⟨nm,q,N,bs,sn,sub,ab,col,dd,k0,k1,k2,k3,k5,Bn,newId,Z,bmN,mN,u,Fn,hBn,hi,T⟩:=c.ex;let⟨L,q',N',bs',J,y,ab',F,dd',V,U,Pw,S,R,Bn',k,B,G,O,l,Fn',D,hi',T'⟩:=p.ex;have u:=r _ _ u;have l:=r _ _ l;have CS:(Value.ref P::I).contains (.type "BaseException")=true:=by rw[Ub,(T' _ r).2.hasType (show VE.contains (.type "BaseException")=true from by decide),Uo]
 have f:=tc_notTuple;generalize n:(Value.ref C::bm).contains (.ref P)=b at m;unfold excMatches
 repeat (first | (with_reducible refine Rw he ?_;rw[a]) | with_reducible refine Rw l ?_ | (with_reducible refine Sw l ?_;rw[CS]) | (with_reducible refine Sw u ?_;rw[n]) | wp_step)
 cases b<;>first | exact m | (wp_walk;exact m)
theorem xw{Q:Fin->Shared->Prop}(r:h.get? C=@(excClassObj nm q C N bs bm true sn sub ab col dd k0 k1 k2 k3 k5 newId))(j:PySem.W.Looks (model prog w) h (typeLookup (.ref C) name) none)
  (l:h.get? x=some o) (m:o.cls=.ref C) (a:o.data=.fields vs) (k:o.dict=some dx) (f:h.Ns1 dx mA) (n:mA name=some v) (p:Q (.done (.ret v)) ⟨h,g,d,t,os⟩) :
  wpAny (model prog w) A (Builtin.«object.__getattribute__» ⟨[.ref x,.str name tk],[]⟩) Q E ⟨h,g,d,t,os⟩:=by
 unfold Builtin.«object.__getattribute__»
 repeat (first | (with_reducible refine Rw l ?_;rw[m]) | with_reducible refine Sz j ?_ | wp_step)
 split
 .ext c b;rw[a] at b;cases b
 unfold instanceDict
 repeat (first | (with_reducible refine Rw l ?_;rw[m]) | with_reducible refine Rw r ?_ | wp_step)
 rw[k]
 repeat (first | (with_reducible refine wpAny_nsGet f.ns ?_;rw[n]) | wp_step)
 exact p
theorem iW{a:Value}(l:h.get? C=@(excClassObj nm q C N bs bm true sn sub ab col dd k0 k1 k2 k3 k5 newId))(m:bm.contains (.type "BaseException")=true)
  (c:h.get? x=some o) (k:o.cls=.ref C) (f:Q () ⟨h,g,d,t,os⟩):wpAny M A (checkBuiltinCall "BaseException.__getattribute__" ⟨[.ref x,a],[]⟩) Q E ⟨h,g,d,t,os⟩:=by
 have j:builtinKind "BaseException.__getattribute__"=some .slot:=by decide +kernel
 have b:splitId "BaseException.__getattribute__"=some ("BaseException","__getattribute__"):=by decide +kernel
 have n:(Value.ref C::bm).contains (.type "BaseException")=true:=by rw[Ub,m,Uo]
 have p:=PySem.F.args_bexc_ga (.ref x) a;erw[checkBuiltinCall,j,b];refine Q2 ?_
 .unfold isInstance
  repeat (first | (with_reducible refine Rw c ?_;rw[k]) | (with_reducible refine Sw l ?_;rw[n]) | wp_step)
  exact f
theorem zx{a:Bool}{Q:Value->Shared->Prop}(r:ExcAttrFacts "ValueError")(p:h.get? C=@(excClassObj nm q C N bs bm true sn sub ab col dd k0 k1 k2 k3 k5 newId))(y:bm.contains (.type "BaseException")=true)
  (l:PySem.W.Looks (model prog w) h (typeLookup (.ref C) "__getattribute__") @(.builtin "BaseException.__getattribute__")) (k:PySem.W.Looks (model prog w) h (typeLookup (.ref C) "__getattr__") none)
  (j:PySem.W.Looks (model prog w) h (typeLookup (.ref C) name) none) (c:h.get? x=some o) (n:o.cls=.ref C) (b:o.data=.fields vs) (m:o.dict=some dx) (f:h.Ns1 dx mA) (u:mA name=some v) (D:handedOut v=pure v) (B:Q v ⟨h,g,d,t+1,os⟩) :
  wpAny (model prog w) A (getAttr (.ref x) name a) Q E ⟨h,g,d,t,os⟩:=by
 have F:=r.ga.bind (.ref x);have I:(a&&onTheHeap (Value.builtin "BaseException.__getattribute__"))=false:=by cases a<;>rfl
 have z:(Value.builtin "BaseException.__getattribute__"==Value.builtin "object.__getattribute__")=false:=by decide +kernel
 have G:(onTheHeap (Value.ref C)&&Value.builtin "BaseException.__getattribute__"==Value.builtin "object.__getattribute__")=false:=by rw[z];rfl
 unfold getAttr
 repeat (any_goals (first | assumption | (with_reducible refine Rw c ?_;rw[n]) | with_reducible refine Sz l ?_ | with_reducible refine Sz k ?_ | wp_step))
 refine S5 r.ga.plain Vc (iW p y c n (xw p j c n b m f u ?_))
 repeat (any_goals (first | assumption | wp_step))
end
abbrev Cx.pD(X:Cx)(pn:List (Addr×Obj))(xe:Value->Shared->Prop):Cx:={X with pn:=X.pn++pn,xe:=xe}
abbrev Cx.qP(X:Cx)(e:Value)(pn:List (Addr×Obj))(xe:Value->Shared->Prop):Cx:={X with A:=X.A.mark (some e),calm:=false,pn:=X.pn++pn,xe:=xe}
section
variable{X:Cx}{aa:List (Addr×Obj)}{Y:St}{H:Hp}{s:Shared}{a:Addr}{cls:Value}{od:Option Addr}{g:Heap}
theorem Inv.pD(I:Inv X aa Y H s):Inv (X.pD aa xe) [] Y H s:=
 ⟨⟨I.ok.mod,I.ok.kind,I.ok.glob,I.ok.blt,I.ok.above,I.ok.inj,I.ok.has,I.ok.cab,I.ok.hd,I.ok.frames,I.ok.stk,I.ok.exf,I.ok.bs,I.ok.bsz,I.ok.noex,I.ok.exfs,I.ok.iC,I.ok.frf⟩,
  I.os,I.bare,I.base,I.loc,I.cell,I.free,I.freeC,λ p b=>I.pin p (~~~b),I.hok,I.len⟩
theorem Inv.qQ{b:List (Addr×Obj)}(I:Inv (X.pD aa xe) b Y H s):Inv X aa Y H s:=
 ⟨⟨I.ok.mod,I.ok.kind,I.ok.glob,I.ok.blt,I.ok.above,I.ok.inj,I.ok.has,I.ok.cab,I.ok.hd,I.ok.frames,I.ok.stk,I.ok.exf,I.ok.bs,I.ok.bsz,I.ok.noex,I.ok.exfs,I.ok.iC,I.ok.frf⟩,
  I.os,I.bare,I.base,I.loc,I.cell,I.free,I.freeC,λ p c=>I.pin p (RJ _ c),I.hok,I.len⟩
theorem Inv.qP(I:Inv X aa Y H s):Inv (X.qP e aa xe) [] Y H s:=
 ⟨⟨I.ok.mod,I.ok.kind,I.ok.glob,I.ok.blt,I.ok.above,I.ok.inj,I.ok.has,I.ok.cab,λ z=>(by cases z),I.ok.frames,I.ok.stk,I.ok.exf,I.ok.bs,I.ok.bsz,I.ok.noex,I.ok.exfs,I.ok.iC,I.ok.frf⟩,
  I.os,I.bare,I.base,I.loc,I.cell,I.free,I.freeC,λ p b=>I.pin p (~~~b),I.hok,I.len⟩
theorem Inv.uU(c:X.Ok)(I:Inv (X.qP e aa xe) [] Y H s):Inv X aa Y H s:=
 ⟨c,I.os,I.bare,I.base,I.loc,I.cell,I.free,I.freeC,λ p b=>I.pin p (by rw[R6];exact b),I.hok,I.len⟩
theorem Hr{A:Around}(Z:X.ex=[])(I:Inv X aa Y H s)(R:Old X aa g)(x:sy g H s.heap a cls od)
  (E:∀h',Inv X aa Y H {s with heap:=h'}->sy g H h' a cls od->Q () {s with heap:=h'}):wpAny M A (setFlight (.ref a) none) Q E' s:=by
 let⟨tb,d,h2,p,m,l,F⟩:=x;rcases h2 with rfl | ⟨T,rfl,D,c⟩
 .let⟨B,v,u,J,G,t,r⟩:=id d;unfold setFlight;refine Q2 (R9 u t r ?_);rw[Ri 'd'];exact Q8 (E s.heap I ⟨.none,d,.inl rfl,p,m,λ T e=>(by cases e),F⟩)
 .refine pC d D λ h' _ f V=>?_;have y:∀b,b≠a->Value.ref T≠.ref b->b≠T:=λ b _ n z=>n (by rw[z]);have U:jy h' a cls od (.ref T):=by
   let⟨B,v,u,J,G,t,r⟩:=d;exact⟨B,v,(by rw[f a (Ne.symm c)];exact u),J,G,t,r⟩
  refine E h' (I.past Z R d (.inr ⟨T,rfl,D,c⟩) p m l (λ b o k _ j L=>by rw[f b (y b j L)];exact k) λ b o k N j=>⟨o.slots,by rw[f b (y b N j)];exact k⟩) ⟨.ref T,U,.inr ⟨T,rfl,V,c⟩,p,m,l,λ b o q=>?_⟩;let⟨S,O⟩:=F b o q;refine⟨S,?_⟩;rw[f b λ z=>by
   subst z;rw[(l _ rfl).1] at q;cases q]
  exact O
theorem name_goes{A:Around}{E:Value->Shared->Prop}{i:Nat}{n:Str}{pos:Pos}(I:Inv X aa Y H s)(hN:X.N.Nodup)(hi:X.N[i]?=some n)(hk:X.env.kindOf n=some .local)
  (hQ:∀O,Inv X aa (Y.set i none) H O->Q () O):wpAny M A (do bindName X.env n .none;unbindBehindTheSuite X.env n pos) Q E s:=by
 let⟨m,S,hl⟩:=id I.loc;have t:(X.env.scope.kind==.class||(X.env.scope.kind==.module&&X.env.locals != X.env.globals))=false:=by rw[I.ok.kind];rfl
 have F:i<Y.length:=by rw[I.len];exact(Q4.mp hi).1
 refine wpAny_nameGoes_keeps hk S t λ h' v B f=>hQ _ ?_;have J:=I.ym;let⟨oL,_,_,hoL,_⟩:=id S;refine⟨I.ok,I.os,I.bare,⟨λ b o e n G r=>?_,λ b o e n G r=>?_,I.base.free,λ b o e r=>?_,I.base.tups,I.base.gw,I.base.g8⟩,⟨_,B,λ j y T l x e3=>?_⟩,λ y c e=>?_,I.free,I.freeC,λ p hp=>?_,λ b ob e=>?_,~~~I.len⟩
 .exact(f.2 b (Rb (Rh (Q6 e) I.ok.above))).trans (I.base.keep b o e n G r)
 .let⟨V,l⟩:=I.base.slot b o e n G r;exact⟨V,(f.2 b (Rb (Rh (Q6 e) I.ok.above))).trans l⟩
 .let⟨o',l⟩:=I.base.there b o e r;exact⟨o',(f.2 b (Rb (Rh (Q6 e) I.ok.above))).trans l⟩
 .by_cases D:j=i
  .subst D;rw[RH F] at x;cases x
  .rw[RN (Ne.symm D)] at x;let⟨U,Z,q⟩:=hl j y T l x e3;refine⟨U,Z,?_⟩;rcases q with⟨k,e⟩ | ⟨k,c,e,z⟩
   .refine .inl ⟨k,?_⟩;have:y≠n:=λ e=>D (kN hN l (e▸hi));simp[this,e]
   .exact .inr ⟨k,c,e,z.sameBut f (J y c e)⟩
 .let⟨L,z⟩:=I.cell y c e;exact⟨L,z.sameBut f (J y c e)⟩
 .let⟨e,n,R,nf,d⟩:=I.pin p hp;exact⟨(f.2 p.1 R).trans e,n,R,nf,d⟩
 .refine(I.hok b ob e).stay (λ c L u q=>(f.2 c ?_).trans q) (λ _ q=>q) λ _ _ q=>q;rintro rfl;rcases u with rfl | u
  .rw[I.free] at e;cases e
  .rw[I.free] at u;cases u
end
def uV(C:Addr)(b:Option Addr)(o:Obj):Prop:=o.cls=.ref C/\o.dict=b/\∃a,o.data=.fields a
section
variable{X:Cx}{aa:List (Addr×Obj)}{Y:St}{H:Hp}{s:Shared}{a C:Addr}{od:Option Addr}{g:Heap}
theorem tracked(I:Inv X aa Y H s)(D:Old X aa g)(x:sy g H s.heap a (.ref C) od):∃E,uV C od E/\H a=none/\Inv X aa Y (upd H a (gR a E)) s:=by
 let⟨tb,⟨V,L,B,e2,e3,A,e5⟩,h2,J,G,h5,h6⟩:=x;have t:X.env.locals≠a:=λ z=>by
  let⟨m,⟨o,es,ep,k,d,_⟩,_⟩:=I.loc;rw[z,B] at k;cases k;rw[A] at d;cases d
 have j:∀b u,H b=some u->b≠a:=λ b u q z=>by rw[z,G] at q;cases q
 refine⟨V,⟨e2,e3,L,A⟩,G,I.ok,I.os,I.bare,⟨I.base.keep,I.base.slot,λ b o q n hx=>?_,I.base.there,λ b l q=>?_,λ b o u q=>?_,λ b N q=>?_⟩,I.loc,I.cell,?_,λ y c q=>?_,λ p F=>?_,λ b u q=>?_,I.len⟩
 .let⟨Z,f⟩:=D.1 b o q;rw[ao λ z=>by rw[z,J] at f;cases f];exact I.base.free b o q n hx
 .rw[ao (j _ _ (I.base.tups b l q))];exact I.base.tups b l q
 .rw[ao (j _ _ (I.base.gw b o u q))];exact I.base.gw b o u q
 .let⟨m,f⟩:=I.base.g8 b N q;exact⟨m,by rw[ao (j _ _ f)];exact f⟩
 .rw[ao t];exact I.free
 .rw[ao λ z=>?_]
  .exact I.freeC y c q
  .let⟨v,o,k,d⟩:=I.cell y c q;rw[z,B] at k;cases k;rw[A] at d;cases d
 .let⟨U,T,S,R,O⟩:=I.pin p F;let⟨Z,f⟩:=D.2 p F;exact⟨U,by rw[ao λ z=>by rw[z,J] at f;cases f];exact T,S,R,O⟩
 .by_cases z:b=a
  .subst z;rw[aC] at q;cases q;exact tM B
  .rw[ao z] at q;exact(I.hok b u q).stay (λ _ _ _ r=>r) (λ c r=>by rw[ao (j _ _ r)];exact r) λ c l r=>by rw[ao (j _ _ r)];exact r
end
abbrev BG:Value->Shared->Prop:=λ _ _=>False
def Ends.gone(D:Ends)(i:Nat):Ends:={nx:=fun Y H=>D.nx (Y.set i none) H,rt:=D.rt,bk:=fun Y H=>D.bk (Y.set i none) H,ct:=fun Y H=>D.ct (Y.set i none) H}
def Qq(X:Cx)(P:Addr)(i:Nat)(ts:Cx->TS)(D:Ends)(Y:St)(cls:Value)(d:Option Addr)(H:Hp):Prop:=
 ∃C bm j,cls=.ref C/\XC X.K C bm j/\(Value.ref C::bm).contains (.ref P)=true/\∀a c b,uV C d b->H a=none->ts (X.qP (.ref a) c BG) (D.gone i) (Y.set i @(.ref a)) (upd H a (gR a b))
def N7(X:Cx)(g:Ends->St->Value->Option Addr->Hp->Prop)(tb:Cx->TS):TS:=λ D Y H=>∀c xe,(∀a b d f,g D a b d f->ki (X.pD c xe) a b d f)->tb (X.pD c xe) D Y H
section
variable{X:Cx}{body suite:List Stmt}{b₀:Stmt}{cn n:Str}{np hpos pos:Pos}{P:Addr}{Ji:List Value}{jP:Option Value}{i:Nat}{tb ts:Cx->TS}{hd:Ends->St->Value->Option Addr->Hp->Prop}{h₀:ExceptHandler}
theorem Hs(N:X.ex=[])(F:X.stack=X.env::X.outer)(J:X.env.frame=some X.env.locals)
  (R:∀pn xe,PassesOwn (model X.prog X.w) X.A X.env xe->iD (X.pD pn xe) body (tb (X.pD pn xe)))
  (O:∀aa Y H s a g cls x D,Inv X aa Y H s->Old X aa g->sy g H s.heap a cls x->hd D Y cls x H->wpAny (model X.prog X.w) X.A (handleBy (.ref a) X.env [h₀]) (SP X aa D) X.xe s) :
  PS X (.Try body [h₀] [] [] pos) (N7 X hd tb):=by
 intro aa s Y H D I h;refine wpAny_Try_except ?_;have B:=R aa (λ e c=>wpAny (model X.prog X.w) X.A (noteFrame e X.env) (λ _ m=>wpAny (model X.prog X.w) X.A (setFlight e none) (λ _ l=>wpAny (model X.prog X.w) X.A (handleBy e X.env [h₀]) (SP X aa D) X.xe l) X.xe m) X.xe c) PassesOwn.looking
  [] s Y H D I.pD (h aa _ fun y cls x U q Z V a g T t L=>landed N F J T.qQ ⟨t.1,λ p G=>t.2 p (RJ _ G)⟩ L λ h' S E=>O aa y U _ a g cls x D S ⟨t.1,λ p G=>t.2 p (RJ _ G)⟩ E q)
 refine Rm B (λ f c q=>?_) λ _ _ z=>z;cases f with
 |next=>
  let⟨b,k,j,d⟩:=q;exact uw aa c b k D j.qQ d
 |brk=>
  let⟨b,k,j,d⟩:=q;exact⟨b,k,j.qQ,d⟩
 |cont=>
  let⟨b,k,j,d⟩:=q;exact⟨b,k,j.qQ,d⟩
 |ret u=>
  let⟨v,b,k,j,r,d⟩:=q;exact⟨v,b,k,j.qQ,r,d⟩
theorem N8(hx:X.ex=[])(x:X.N.Nodup)(hi:X.N[i]?=some n)(t:X.env.kindOf n=some .local)(p:XC X.K P Ji jP)(hg:Gl X cn)(hm:X.mg cn=@(.ref P))
  (hs:∀a pn,iD (X.qP (.ref a) pn BG) (b₀::suite) (ts (X.qP (.ref a) pn BG))) (J:(cn==("__debug__":Str))=false:=by decide)
  (aa:List (Addr×Obj)) (Y:St) (H:Hp) (s:Shared) (a:Addr) (g:Heap) (y:Value) (S:Option Addr) (D:Ends) (I:Inv X aa Y H s) (R:Old X aa g) (O:sy g H s.heap a y S) (h:Qq X P i ts D Y y S H) :
  wpAny (model X.prog X.w) X.A (handleBy (.ref a) X.env [.ExceptHandler @(.Name cn np) (some n) (b₀::suite) hpos]) (SP X aa D) X.xe s:=by
 let⟨C,bm,j,rfl,c,G,q⟩:=h;refine wpAny_handleBy_cons (codeAny_handlers_test ?_) (by intro z;cases z);refine cV (X:=X.qP (.ref a) aa BG) I.qP hg hm ?_ J;let⟨tb,⟨oe,vs,e1,e2,_⟩,_⟩:=id O;let⟨hp,gg,d,tk,os⟩:=s;refine xu c p I.cQ e1 e2 ?_;rw[G];refine codeAny_handlers_suite_as ?_;refine Hr hx I R O λ h2 I2 B=>?_;let⟨Z,T,F,I3⟩:=tracked I2 R B;refine gx (X:=X.qP (.ref a) aa BG) (I3.qP (e:=.ref a) (xe:=BG)) x hi (.inl t) (v:=V.ref a) rfl (λ U I4=>?_) (.inr t);refine Rm (hs a aa [] U _ _ _ I4 (q a _ Z T F)) (λ f s5 z=>?_) λ _ _ z=>z.elim;cases f with
 |next=>
  let⟨b,L,m,k⟩:=z;exact name_goes (m.uU I.ok) x hi t λ E l=>⟨_,_,l,k⟩
 |brk=>
  let⟨b,L,m,k⟩:=z;exact name_goes (m.uU I.ok) x hi t λ E l=>⟨_,_,l,k⟩
 |cont=>
  let⟨b,L,m,k⟩:=z;exact name_goes (m.uU I.ok) x hi t λ E l=>⟨_,_,l,k⟩
 |ret u=>
  let⟨v,b,L,m,r,k⟩:=z;exact name_goes (m.uU I.ok) x hi t λ E l=>⟨v,_,_,l,r,k⟩
end
section
variable{prog:Program}{w:World}{A:Around}{E:Value->Shared->Prop}{h:Heap}{g:Array GenState}{d:Drawn}{t:Nat}{os:OsState}
variable{nm q:Str}{C N x:Addr}{bs bm:List Value}{sn:List Str}{sub:List Value}{ab:Bool}{col:Option Bool}{dd:Option Addr}{k0 k1 k2 k3 k5:Option Value}{newId:String}{o:Obj}
theorem tN{R:Result->Shared->Prop}(f:h.get? C=@(excClassObj nm q C N bs bm true sn sub ab col dd k0 k1 k2 k3 k5 newId))(c:bm.contains (.type "object")=true)(a:h.get? x=some o)(b:o.cls=.ref C)(l:R (.ok (.ret (.ref C))) ⟨h,g,d,t,os⟩) :
  codeAny (model prog w) A (.call (.builtin "getset_descriptor.__get__") ⟨[.builtin "object.__class__",.ref x,.ref C],[]⟩) R ⟨h,g,d,t,os⟩:=by
 have j:(⟨h,g,d,t,os⟩:Shared).TypeIs (.builtin "object.__class__") "getset_descriptor":=Ti;have k:(Value.ref C::bm).contains (.type (".".intercalate ("object.__class__".cutAt '.').dropLast))=true:=by rw[PySem.F.owner_object_class,Ub,c,Uo]
 refine S5 PySem.F.slot_gs_get.plain PySem.F.entry_gs_get (PySem.F.slot_gs_get.check _ _ _ _ _ _ _ _ j (PySem.F.args_gs_get _ _ _) ?_)
 repeat (any_goals (first | assumption | (with_reducible refine Rw a ?_;rw[b]) | (with_reducible refine Sw f ?_;rw[k]) | wp_step))
 refine⟨TF _ 'k',codeAny_builtin PySem.F.entry_object_class ?_⟩
 repeat (any_goals (first | assumption | (with_reducible refine Rw a ?_;rw[b]) | wp_step))
theorem pF{Q:Fin->Shared->Prop}(j:h.get? C=@(excClassObj nm q C N bs bm true sn sub ab col dd k0 k1 k2 k3 k5 newId))(f:bm.contains (.type "object")=true)(c:PySem.W.Looks (model prog w) h (typeLookup (.ref C) "__class__") @(.builtin "object.__class__"))
  (a:h.get? x=some o) (b:o.cls=.ref C) (k:Q (.done (.ret (.ref C))) ⟨h,g,d,t,os⟩):wpAny (model prog w) A (Builtin.«object.__getattribute__» ⟨[.ref x,.str "__class__" tk],[]⟩) Q E ⟨h,g,d,t,os⟩:=by
 have p:(⟨h,g,d,t,os⟩:Shared).TypeIs (.builtin "object.__class__") "getset_descriptor":=Ti;have n:=Ti;have m:=PySem.F.slot_gs_get.lookup;have l:=PySem.F.slot_gs_set.lookup
 repeat (any_goals (first | assumption | (with_reducible refine Rw a ?_;rw[b]) | with_reducible refine Sz c ?_ | wp_step))
 refine tN j f a b ?_
 repeat (any_goals (first | assumption | wp_step))
theorem xA{Q:Value->Shared->Prop}(j:h.get? C=@(excClassObj nm q C N bs bm true sn sub ab col dd k0 k1 k2 k3 k5 newId))(l:bm.contains (.type "object")=true)(m:bm.contains (.type "BaseException")=true)
  (k:PySem.W.Looks (model prog w) h (typeLookup (.ref C) "__class__") @(.builtin "object.__class__")) (c:PySem.W.Looks (model prog w) h (typeLookup (.ref C) "__getattribute__") @(.builtin "BaseException.__getattribute__")) (b:PySem.W.Looks (model prog w) h (typeLookup (.ref C) "__getattr__") none)
  (a:h.get? x=some o) (f:o.cls=.ref C) (p:Q (.ref C) ⟨h,g,d,t,os⟩):wpAny (model prog w) A (getAttrBy (.ref x) (.str "__class__" tk) false) Q E ⟨h,g,d,t,os⟩:=by
 have r:=PySem.F.excAttr_ValueError.ga.bind (.ref x);have n:(Value.builtin "BaseException.__getattribute__"==Value.builtin "object.__getattribute__")=false:=by decide +kernel
 have u:(onTheHeap (Value.ref C)&&Value.builtin "BaseException.__getattribute__"==Value.builtin "object.__getattribute__")=false:=by rw[n];rfl
 repeat (any_goals (first | assumption | (with_reducible refine Rw a ?_;rw[f]) | with_reducible refine Sz c ?_ | with_reducible refine Sz b ?_ | wp_step))
 refine S5 PySem.F.excAttr_ValueError.ga.plain Vc (iW j m a f (pF j l k a f ?_))
 repeat (any_goals (first | assumption | wp_step))
theorem qR{Q:Option Value->Shared->Prop}(l:h.get? C=@(excClassObj nm q C N bs bm true sn sub ab col dd k0 k1 k2 k3 k5 newId))(k:bm.contains (.type "object")=true)(m:bm.contains (.type "BaseException")=true)
  (f:PySem.W.Looks (model prog w) h (typeLookup (.ref C) "__class__") @(.builtin "object.__class__")) (b:PySem.W.Looks (model prog w) h (typeLookup (.ref C) "__getattribute__") @(.builtin "BaseException.__getattribute__")) (a:PySem.W.Looks (model prog w) h (typeLookup (.ref C) "__getattr__") none)
  (c:h.get? x=some o) (j:o.cls=.ref C) (n:Q @(.ref C) ⟨h,g,d,t+1,os⟩):wpAny (model prog w) A (getAttr? (.ref x) "__class__") Q E ⟨h,g,d,t,os⟩:=by
 unfold getAttr? getAttrBy?
 repeat (any_goals (first | assumption | with_reducible apply xA l k m f b a c j | wp_step))
end
structure XG(K:ae)(C:Addr):Prop where
 ga:PySem.W.findIn K (.ref C) "__getattribute__"=@(some (.builtin "BaseException.__getattribute__"))
 gt:PySem.W.findIn K (.ref C) "__getattr__"=some none
 kl:PySem.W.findIn K (.ref C) "__class__"=@(some (.builtin "object.__class__"))
theorem qS{x:Addr}(c:XC K C bm i)(r:XG K C):PySem.W.KitX K (.ref x) (.ref C) (λ h=>∃o,h.get? x=some o/\o.cls=.ref C):=by
 let⟨U,q,N,bs,L,u,ab,I,G,k0,k1,k2,k3,Z,Bn,a,y,J,V,f,Fn,D,hi,T⟩:=c.ex;refine⟨λ M h X p=>?_,λ M h X p=>?_,λ h m G v n O X b=>?_,λ {prog w A E Q s} X p k=>?_⟩
 .let⟨o,l,j⟩:=p;exact j▸(PySem.W.Looks.ld l).andThen .now
 .intro A' Q' E' R k q;unfold isType loadHead;exact Q2 (wpAny_loadPart (k _ _ (X _ _ f)) (Q8 q))
 .refine Bool.eq_false_iff.mpr λ q=>?_;have e:C=m:=Value.ref.inj (RT.mp q);subst e;have z:=TR Obj.data (R1 ((X _ _ f).symm.trans b));cases z
 .let⟨o,l,j⟩:=p;let⟨hh,g,d,t,S⟩:=s;have B:bm.contains (.type "object")=true:=(T _ X).2.hasType (show VE.contains (.type "object")=true from by decide);have F:bm.contains (.type "BaseException")=true:=(T _ X).2.hasType (show VE.contains (.type "BaseException")=true from by decide);exact qR (X _ _ f) B F (R5 X r.kl) (R5 X r.ga) (R5 X r.gt) l j k
section
variable{X:Cx}
theorem zy:cj X (.builtin "isinstance") (λ xs H Q=>∃a C f d bm j y u b,xs=[.ref a,y]/\H a=some (gR a d)/\uV C f d/\XC X.K C bm j/\XG X.K C/\(∀u',RelV y u'->u'=u)/\PySem.W.kitOne X.K (.ref C) u=some b/\Q (.bl b) H):=by
 intro aa s Y H xs us Q I m h;let⟨a,C,f,d,bm,j,y,u,b,rfl,t,g,c,r,q,e,k⟩:=h;let⟨l,v,rfl,p,n⟩:=vals2 m;obtain rfl:l=Value.ref a:=p;obtain rfl:=q _ n;exact R3 (qS c r) I.cQ ⟨d,gU I.hok t,g.1⟩ e (λ z=>nomatch z) λ tk=>⟨.bl b,H,I.tok tk,rfl,k⟩
theorem xB:cj X (.builtin "isinstance") (λ xs H Q=>∃a C t g bm j d ys vs b,xs=[.ref a,.ref d]/\H a=some (gR a g)/\uV C t g/\XC X.K C bm j/\XG X.K C/\H d=some (.tup ys)/\(∀f,Vals ys f->f=vs)/\PySem.W.kitAny X.K (.ref C) vs=some b/\Q (.bl b) H):=by
 intro aa s Y H xs us Q I y h;let⟨a,C,t,g,bm,j,d,ys,vs,b,rfl,L,u,c,r,J,G,e,k⟩:=h;let⟨x,v,rfl,B,A⟩:=vals2 y;obtain rfl:x=Value.ref a:=B;obtain rfl:v=Value.ref d:=A;let⟨_,m,q,o,O,N,p⟩:=(show aX X.prog X.w H s.heap d (.tup ys) from I.hok d _ J);obtain rfl:=G _ q;let⟨F,E,l,D⟩:=o;let⟨n,p⟩:=p;obtain rfl:F=Value.type "tuple":=N.1;obtain rfl:l=Data.seq m.toArray n:=p;exact PySem.W.kia_tup (qS c r) I.cQ ⟨g,gU I.hok L,u.1⟩ O e (λ z=>nomatch z) λ tk=>⟨.bl b,H,I.tok tk,rfl,k⟩
def N9(K:ae)(k:TE)(f:Str):TE:=fun Y H Q=>k Y H λ x b=>∃a C g c bm j d y,x=.ref a/\b a=some (gR a c)/\uV C (some g) c/\XC K C bm j/\XG K C/\PySem.W.findIn K (.ref C) f=some none/\b g=some (.xd d)/\d.lookup f=some y/\Q y b
theorem Ht{e:Expr}{f:Str}{pos:Pos}{m:TE}(he:PE X e m)(hb:attributeBase e f X.env (eval e X.env)=eval e X.env):PE X (.Attribute e f pos) (N9 X.K m f):=by
 intro aa s Y H Q I h;refine uB hb (bF (he aa s Y H _ I h) λ u n Z=>?_);let⟨x,A,b,J,a,C,z,oa,bm,j,fs,y,ex,ha,⟨E,D,vs,B⟩,c,r,L,hd,l,q⟩:=Z;subst ex;obtain rfl:u=Value.ref a:=J;let⟨R,O,V⟩:=(show aX X.prog X.w A n.heap z (.xd fs) from b.hok z _ hd);let⟨u,U,p⟩:=eN.some_of (v:=y) (o:=R f) (by rw[<-l];exact V f);let⟨nm,q',N,bs,sn,G,ab,col,dd,k0,k1,k2,k3,k5,Bn,k,S,bmN,mN,hC,Fn,hBn,hi,T⟩:=c.ex;have hB:bm.contains (.type "BaseException")=true:=(T _ b.cQ).2.hasType (show VE.contains (.type "BaseException")=true from by decide);have hg:=gU b.hok ha;let⟨hh,g,d,t,os⟩:=n;exact zx PySem.F.excAttr_ValueError (b.cQ _ _ hC) hB (R5 b.cQ r.ga) (R5 b.cQ r.gt) (R5 b.cQ L) hg E B D O U
  (PySem.W.handedOut_of (mV p)) ⟨y,A,b.tok _,p,q⟩
end
def BH(X:Cx)(Y:St):XK:=λ a b H=>ki X Y a b H
def lM(X:Cx)(sp:Sp)(b:List V)(t:TA):TE:=fun Y H Q=>t Y H λ a c=>sp (a++b) c Q (BH X Y)
def tO(X:Cx)(C:Addr)(sp:Sp)(d:List V)(t:TA):TE:=fun Y H Q=>t Y H λ c b=>∀x a,b x=none->b a=none->a≠x->
 sp (.ref x::(c++d)) (upd (upd b a (.own x)) x (.ins C a [])) (λ v f=>v=.non/\Q (.ref x) f) (BH X Y)
section
variable{X:Cx}{k:Nat}{f C:Addr}{fd:FuncData}{ps:List Str}{sp:Sp}{jV:List V}{ds:List Value}{x m:Str}{p pos apos:Pos}{e o:Expr}{es:List Expr}{ta:TE}{t:TA}
theorem CW{Q:VK}{vs:List V}(c:X.ex=[])(F:cg X.prog X.w X.K X.mg X.base (lK X.prog X.w) k f fd ps sp)(d:bP k X.A)(l:Binds X.K fd ps ds)(j:Vals jV ds)
  (I:Inv X aa Y H s) (r:Vals vs us) (h:sp (vs++jV) H Q (BH X Y)):wpAny (model X.prog X.w) X.A (call (.ref f) us) (EP X aa Y Q) X.xe s:=by
 have b:Vals (vs++jV) (us++ds):=r.append j;have g:(us++ds).length=ps.length:=by rw[<-b.length];exact F.len _ _ _ _ h
 refine Uw (So (F.run X.A X.stack s H ⟨us,[]⟩ (us++ds) (vs++jV) Q (BH X Y) d I.Ce (l s us I.cQ g) b h) λ r n a=>?_);cases r with
 |error e=>exact E2 c (λ _ _ _ z=>z) I a
 |ok fl=>
  cases fl with
  |ret u=>exact I.after a
  |next=>exact False.elim a
  |brk=>exact False.elim a
  |cont=>exact False.elim a
theorem qT(d:X.ex=[])(F:cg X.prog X.w X.K X.mg X.base (lK X.prog X.w) k f fd ps sp)(g:bP k X.A)(n:Gl X x)(j:X.mg x=@(.ref f))(l:PySem.W.keepIn X.K (.ref f)=true)(y:Binds X.K fd ps ds)(v:Vals jV ds)
  (z:PA X (e::es) t) (b:(x==("__debug__":Str))=false:=by decide) (u:starEach (e::es) X.env=(false,eval e X.env)::starEach es X.env:=by rfl) (a:(backTo pos (starEach es X.env)).any (·.1)=false:=by rfl) :
  PE X (.Call (.Name x p) (e::es) [] pos) (lM X sp jV t):=by
 intro aa s Y H Q I h;refine RV (cV I n j ?_ b);refine Sh (h₀:=X.base) I.ok.mod.kin l (bF (z pos aa s Y H _ I h) λ us D ⟨B,E,c,r,q⟩=>⟨c.cQ,?_⟩) u a;exact CW d F g y v c r q
theorem xC{Q:VK}{vs:List V}(l:X.ex=[])(M:Mk X.K C f)(F:cg X.prog X.w X.K X.mg X.base (lK X.prog X.w) k f fd ps sp)(n:bP (k+1) X.A)(B:Binds X.K fd ps ds)(y:Vals jV ds)
  (I:Inv X aa Y H s) (r:Vals vs us)
  (h:∀x dx,H x=none->H dx=none->dx≠x->sp (.ref x::(vs++jV)) (upd (upd H dx (.own x)) x (.ins C dx [])) (λ v G=>v=.non/\Q (.ref x) G) (BH X Y)) :
  wpAny (model X.prog X.w) X.A (call (.ref C) us) (EP X aa Y Q) X.xe s:=by
 have d:=h (s⁻¹+1) s⁻¹ (I.hok.fresh (Tc _)) (I.hok.fresh (Q7 _)) (Rb (SR _));have b:=Inv.made (C:=C) I;have c:Vals (V.ref (s⁻¹+1)::(vs++jV)) (Value.ref (s⁻¹+1)::(us++ds)):=.cons rfl (r.append y);have q:(Value.ref (s⁻¹+1)::us++ds).length=ps.length:=by
  have e:=c.length;rw[F.len _ _ _ _ d] at e;exact e.symm
 refine Uw (yF (f:=f) I.cQ M.makes M.init (RT.mp M.fn) (So (F.run _ X.stack _ _ ⟨Value.ref (s⁻¹+1)::us,[]⟩ (Value.ref (s⁻¹+1)::(us++ds)) _ _ (BH X Y) (n.make C us [])
  (b.Ce.make C us []) (B _ (Value.ref (s⁻¹+1)::us) b.cQ q) c d) λ r L a=>?_))
 cases r with
 |error e=>exact E2 l (λ _ _ _ z=>z) b a
 |ok fl=>
  cases fl with
  |ret u=>
   let⟨v,J,E,g,D,j⟩:=b.after a;subst D;exact⟨g,⟨V.ref (s⁻¹+1),J,E,rfl,j⟩⟩
  |next=>exact False.elim a
  |brk=>exact False.elim a
  |cont=>exact False.elim a
theorem zA(d:X.ex=[])(M:Mk X.K C f)(F:cg X.prog X.w X.K X.mg X.base (lK X.prog X.w) k f fd ps sp)(g:bP (k+1) X.A)(l:Gl X x)(j:X.mg x=@(.ref C))(v:Binds X.K fd ps ds)(u:Vals jV ds)
  (y:PA X (e::es) t) (b:(x==("__debug__":Str))=false:=by decide) (n:starEach (e::es) X.env=(false,eval e X.env)::starEach es X.env:=by rfl) (a:(backTo pos (starEach es X.env)).any (·.1)=false:=by rfl) :
  PE X (.Call (.Name x p) (e::es) [] pos) (tO X C sp jV t):=by
 intro aa s Y H Q I h;refine RV (cV I l j ?_ b);refine Sh (h₀:=X.base) I.ok.mod.kin M.kp (bF (y pos aa s Y H _ I h) λ us B ⟨z,D,c,r,q⟩=>⟨c.cQ,?_⟩) n a;exact xC d M F g v u c r q
end
theorem ED.Qs{g:Str->Option Value}{base:Heap}{x qual:Str}{st:Stmt}{f:Addr}{j:FuncData}{N ps:List Str}{k:Nat}{sp:Sp}(F:ED K x qual st f j)(S:fV N ps (aJ st))(c:∀vs H Q E,sp vs H Q E->vs.length=ps.length)
  (b:∀(a:Value) (A:Around) (outer:List Env) (s:Shared) (H:Hp) (vs:List V) (Q:VK) (E:XK),bP k (A.deeper (envOfC qual (aJ st) s⁻¹ f a))->sp vs H Q E->
   ∃t,iD (iL (lK P w) P w K g base N qual (aJ st) f a A outer s H E) (cH st) t/\t {nx:=λ _ r=>Q .non r,rt:=Q} (start N vs) H):cg P w K g base (lK P w) (k+1) f j ps sp:=by
 let⟨y,v,z,q,u,D,a,B,m,rfl,n,d⟩:=F.ex;exact Ey n d S c λ A outer s H vs Q E p l=>b a A outer s H vs Q E p l
theorem CY{G:Str->Option Value}{base:Heap}{x qual:Str}{st:Stmt}{z:FuncData}{b v d:Str}{u r p n:Pos}{k:Nat}(F:ED K x qual st fa z)(S:fV [b,v] [b,v] (aJ st))
  (m:cH st=[.Assign [.Attribute (.Name b u) d r] (.Name v p) n]) (c:XC K C bm i) (D:PySem.W.findIn K (.ref C) d=some none) (j:Eo (aJ st) b) (g:Eo (aJ st) v)
  (T:(b==("__debug__":Str))=false) (R:(b==("__classdict__":Str))=false) (O:(v==("__debug__":Str))=false) (N:(v==("__classdict__":Str))=false)
  (I:∀env:Env,swapsWith (.Name v p) @(.Attribute (.Name b u) d r) n.line env=pure false):cg P w K G base yg (k+1) fa z [b,v] (EY C d):=by
 refine F.ok S (λ B H Q E h=>?_) (λ Z A f s H B Q E hr h=>?_)
 .let⟨a,t,y,rfl,_⟩:=h;rfl
 .let⟨a,t,y,rfl,L,q⟩:=h;rw[m];refine⟨_,BR (CT c D (sE (i:=0) rfl j T R) (sE (i:=1) rfl g O N) (I _)),?_⟩;exact⟨y,rfl,V.ref a,rfl,a,t,rfl,L,λ U J l=>q U J l⟩
end L2
namespace D
open PySem PySem.Spec PyProof.Rows L2 List
variable{H H2:Hp}{d p:Addr}{e:Expr}{n:Nat}{o:O}{v:V}{vs:List V}{w:W}{ws:List W}{Δ:Option Addr}{J β2:List Addr}{Y:L2.St}
def qU(K:ae)(H:Hp)(a:Addr)(xs:List V):Prop:=(∃o,H a=@(.frz o (.lst xs)))\/
 ∃(o:Obj) (b:Array Value) (n:Nat),K.lookup a=some o/\o.cls=.type "list"/\o.dict=none/\o.data=.seq b n/\b.size<=sizeLine/\Vals xs b.toList
theorem qU.l{K:ae}{a:Addr}{xs:List V}(h:qU K H a xs):fS K H a xs:=h.elim (λ ⟨o,e⟩=>.inl (.inr ⟨o,e⟩)) .inr
def ai(K:ae)(c:Str):Addr:=match PySem.W.nsIn K mainGlobals c with
 |some (some (.ref C))=>C
 |_=>0
set_option genInjectivity false in
structure Cl where
 P:Program
 w:World
section
variable(K:ae)(cl:Cl)
mutual
inductive RW(J:List Addr)(H:Hp):W->V->Prop
 |non:RW J H .non .non
 |bl (b:Bool):RW J H (.bl b) (.bl b)
 |int (i:Int):RW J H (.int i) (.int i)
 |str (x:Str):RW J H (.str x) (.str x)
 |tup {a vs xs}:dw K H a vs->aU J H xs vs->RW J H (.tup xs) (.ref a)
 |fz {a vs xs}:qU K H a vs->aU J H xs vs->RW J H (.fz xs) (.ref a)
 |obj {a c ks xs dx o fs}:H a=some (.frz o (.ins (ai K c) dx fs))->ks=fs.map (·.1)->aU J H xs (fs.map (·.2))->RW J H (.obj c ks xs) (.ref a)
 |ref {n a}:J[n]?=some a->RW J H (.ref n) (.ref a)
inductive aU(J:List Addr)(H:Hp):List W->List V->Prop
 |nil:aU J H [] []
 |cons {w:W} {v:V} {ws:List W} {vs:List V}:RW J H w v->aU J H ws vs->aU J H (w::ws) (v::vs)
end
inductive fL(J:List Addr)(H:Hp):List (Str×W)->List (Str×V)->Prop
 |nil:fL J H [] []
 |cons {f w v ws vs}:RW K J H w v->fL J H ws vs->fL J H ((f,w)::ws) ((f,v)::vs)
def keyed(a:List (Str×V)):List (Key×V):=a.map λ p=>(.inr p.1,p.2)
def XD(H:Hp)(a:Option Addr)(f:Str)(vs:List V):Prop:=(a=none/\vs=[])\/∃b y,a=some b/\vs=[y]/\H b=@(.xd [(f,y)])
def RO(J:List Addr)(H:Hp)(a:Addr):O->Prop
 |.lst ws=>∃vs,H a=some (.lst vs)/\aU K J H ws vs
 |.ins c fs=>∃dx fs',H a=some (.ins (ai K c) dx fs')/\fL K J H fs fs'
 |.set ks=>∃S,H a=some (lq cl.P cl.w a S ks.length)/\∀k,S k=ly k ks
 |.dic fs=>∃fs',H a=some (.dK (keyed fs'))/\fL K J H fs fs'
 |.exc c f ws=>∃g b vs,H a=some (gR a g)/\uV (ai K c) b g/\aU K J H ws vs/\XD H b f vs
structure Rel(J:List Addr)(m:Mem)(H:Hp):Prop where
 len:J.length=m.length
 nd:J.Nodup
 obj:∀{n:Nat} {o:O} {a:Addr},m[n]?=some o->J[n]?=some a->RO K cl J H a o
structure cN(Δ:Option Addr)(J:List Addr)(H:Hp)(J':List Addr)(H':Hp):Prop where
 pre:∃γ,J'=J++γ/\∀a∈γ,H a=none
 keep:∀{a:Addr} {o:HO},H a=some o->a∉J->some a≠Δ->H' a=some o
abbrev Ext:=cN none
structure RL(J:List Addr)(H:Hp)(Z:Loc)(Y:L2.St):Prop where
 len:Z.length=Y.length
 at_:∀{i:Nat} {w:W},Z[i]?=some (some w)->∃v,Y[i]?=some (some v)/\RW K J H w v
end
section
variable{K:ae}{cl:Cl}{J J' J'':List Addr}{H H' Jj:Hp}{m m':Mem}{a:Addr}
theorem Rel.mem(r:Rel K cl J m H)(h:a∈J):∃(n:Nat) (o:O),J[n]?=some a/\m[n]?=some o/\RO K cl J H a o:=by
 let⟨n,b⟩:=U9 h;have c:n<m.length:=by
  have:=(Q4.mp b).1;rw[r.len] at this;exact this
 exact⟨n,m[n],b,by simp[c],r.obj (by simp[c]) b⟩
theorem RO.ex(h:RO K cl J H a o):∃u,H a=some u/\(∀xs,u≠.tup xs)/\∀g x,u≠.frz g x:=by
 cases o with
 |lst ws=>let⟨vs,e,_⟩:=h;exact⟨_,e,(by intro _ z;cases z),(by intro _ _ z;cases z)⟩
 |ins c fs=>let⟨l,b,e,_⟩:=h;exact⟨_,e,(by intro _ z;cases z),(by intro _ _ z;cases z)⟩
 |set k=>let⟨S,e,_⟩:=h;exact⟨_,e,(by intro _ z;cases z),(by intro _ _ z;cases z)⟩
 |dic fs=>let⟨b,e,_⟩:=h;exact⟨_,e,(by intro _ z;cases z),(by intro _ _ z;cases z)⟩
 |exc c f ws=>let⟨j,i,vs,e,_⟩:=h;exact⟨_,e,(by intro _ z;cases z),(by intro _ _ z;cases z)⟩
theorem RO.La(h:RO K cl J H a o)(g:List (Str×V)):H a≠some (.xd g):=λ q=>by
 cases o with
 |lst ws=>let⟨vs,e,_⟩:=h;rw[q] at e;cases e
 |ins c g=>let⟨l,b,e,_⟩:=h;rw[q] at e;cases e
 |set k=>let⟨S,e,_⟩:=h;rw[q] at e;cases e
 |dic g=>let⟨b,e,_⟩:=h;rw[q] at e;cases e
 |exc c f ws=>let⟨j,i,vs,e,_⟩:=h;rw[q] at e;cases e
theorem Rel.La(r:Rel K cl J m H){b:List (Str×V)}(e:H a=@(.xd b)):a∉J:=λ h=>by
 let⟨n,o,_,_,x⟩:=r.mem h;exact x.La b e
theorem Rel.ex(r:Rel K cl J m H)(h:a∈J):∃u,H a=some u/\(∀xs,u≠.tup xs)/\∀b x,u≠.frz b x:=by
 let⟨n,o,_,_,x⟩:=r.mem h;exact x.ex
theorem Ext.refl:cN Δ J H J H:=⟨⟨[],by simp,by simp⟩,λ h _ _=>h⟩
theorem cN.trans(x:cN Δ J H J' H')(k:Rel K cl J' m' H')(y:cN Δ J' H' J'' Jj)(q:∀d,Δ=some d->H' d≠none:=by intro d z;cases z):cN Δ J H J'' Jj:=by
 let⟨j,rfl,c⟩:=x.pre;let⟨i,rfl,b⟩:=y.pre;refine⟨⟨j++i,by simp,λ a l=>?_⟩,λ {a o} h hn f=>?_⟩
 .rcases RC.mp l with z | z
  .exact c a z
  .by_cases g:a∈J
   .let⟨u,e,_⟩:=k.ex (RJ _ g);rw[b a z] at e;cases e
   .cases e:H a with
    |none=>rfl
    |some o=>
     by_cases f:some a=Δ
     .exact absurd (b a z) (q a f.symm)
     .have:=x.keep e g f;rw[b a z] at this;cases this
 .refine y.keep (x.keep h hn f) (λ z=>?_) f;rcases RC.mp z with z | z
  .exact hn z
  .rw[c a z] at h;cases h
def jz:Option HO->Prop
 |some (.lst _)=>True
 |some (.dK _)=>True
 |_=>False
theorem cN.toD(x:Ext J H J' H'):cN (some d) J H J' H':=⟨x.pre,λ h b _=>x.keep h b 's'⟩
theorem cN.MH(x:cN Δ J H J' H')(r:Rel K cl J m H)(i:∀d,Δ=some d->jz (H d))(h:dw K H a vs):dw K H' a vs:=by
 rcases h with h | h
 .refine .inl ?_;have c:a∉J:=λ z=>by
   let⟨u,e,g,f⟩:=r.ex z;rcases h with h | ⟨o,h⟩
   .rw[h] at e;cases e;exact g _ rfl
   .rw[h] at e;cases e;exact f _ _ rfl
  have b:some a≠Δ:=λ z=>by
   have e:=i a z.symm;rcases h with h | ⟨o,h⟩
   .rw[h] at e;exact e
   .rw[h] at e;exact e
  rcases h with h | ⟨o,h⟩
  .exact .inl (x.keep h c b)
  .exact .inr ⟨o,x.keep h c b⟩
 .exact .inr h
theorem cN.Qt(x:cN Δ J H J' H')(r:Rel K cl J m H)(c:∀d,Δ=some d->jz (H d))(h:qU K H a vs):qU K H' a vs:=by
 rcases h with⟨o,h⟩ | h
 .refine .inl ⟨o,x.keep h (λ z=>?_) λ z=>?_⟩
  .let⟨u,e,f,b⟩:=r.ex z;rw[h] at e;cases e;exact b _ _ rfl
  .have e:=c a z.symm;rw[h] at e;exact e
 .exact .inr h
theorem cN.fz(x:cN Δ J H J' H')(r:Rel K cl J m H)(c:∀d,Δ=some d->jz (H d)){o:Obj}{u:HO}(h:H a=@(.frz o u)):H' a=some (.frz o u):=by
 refine x.keep h (λ z=>?_) λ z=>?_
 .let⟨u,e,f,b⟩:=r.ex z;rw[h] at e;cases e;exact b _ _ rfl
 .have e:=c a z.symm;rw[h] at e;exact e
theorem cN.get(x:cN Δ J H J' H')(h:J[n]?=some a):J'[n]?=some a:=by
 let⟨b,rfl,_⟩:=x.pre;rw[Rc (Q4.mp h).1];exact h
theorem RW.gen(c:∀{a:Addr} {vs:List V},dw K H a vs->dw K H2 a vs)(j:∀{a:Addr} {vs:List V},qU K H a vs->qU K H2 a vs)(g:∀{a:Addr} {o:Obj} {u:HO},H a=some (.frz o u)->H2 a=@(.frz o u))(f:∀{n:Nat} {a:Addr},J[n]?=some a->β2[n]?=some a)(q:RW K J H w v):RW K β2 H2 w v:=
 RW.rec (motive_1:=λ w v _=>RW K β2 H2 w v) (motive_2:=λ w v _=>aU K β2 H2 w v) .non .bl .int .str (λ h _ i=>.tup (c h) i) (λ h _ i=>.fz (j h) i) (λ h e _ i=>.obj (g h) e i) (λ h=>.ref (f h)) .nil (λ _ _ a b=>.cons a b) q
theorem aU.xD(f:∀{w:W} {v:V},RW K J H w v->RW K β2 H2 w v){w:List W}{v:List V}(q:aU K J H w v):aU K β2 H2 w v:=by
 induction w generalizing v with
 |nil=>cases q;exact .nil
 |cons x w c=>cases q with | cons a b=>exact .cons (f a) (c b)
theorem fL.xD(f:∀{w:W} {v:V},RW K J H w v->RW K β2 H2 w v){w:List (Str×W)}{v:List (Str×V)}(q:fL K J H w v):fL K β2 H2 w v:=by
 induction q with
 |nil=>exact .nil
 |cons a b c=>exact .cons (f a) c
theorem RW.cu(r:Rel K cl J m H)(b:∀d,Δ=some d->jz (H d))(x:cN Δ J H J' H')(q:RW K J H w v):RW K J' H' w v:=
 q.gen (x.MH r b) (x.Qt r b) (x.fz r b) x.get
theorem aU.cu(r:Rel K cl J m H)(b:∀d,Δ=some d->jz (H d))(x:cN Δ J H J' H'){w:List W}{v:List V}(q:aU K J H w v):aU K J' H' w v:=q.xD (RW.cu r b x)
theorem BI{P:Addr->Prop}:∀d,(none:Option Addr)=some d->P d:=λ d z=>by cases z
theorem RW.mono(r:Rel K cl J m H)(x:Ext J H J' H')(h:RW K J H w v):RW K J' H' w v:=h.cu r BI x
theorem aU.mono(r:Rel K cl J m H)(x:Ext J H J' H'){w:List W}{v:List V}(h:aU K J H w v):aU K J' H' w v:=h.cu r BI x
theorem fL.cu(r:Rel K cl J m H)(b:∀d,Δ=some d->jz (H d))(x:cN Δ J H J' H'){w:List (Str×W)}{v:List (Str×V)}(q:fL K J H w v):fL K J' H' w v:=q.xD (RW.cu r b x)
theorem RL.cu(r:Rel K cl J m H)(b:∀d,Δ=some d->jz (H d))(x:cN Δ J H J' H'){Z:Loc}(l:RL K J H Z Y):RL K J' H' Z Y:=
 ⟨l.len,λ h=>let ⟨v,e,q⟩:=l.at_ h;⟨v,e,q.cu r b x⟩⟩
theorem RL.mono(r:Rel K cl J m H)(x:Ext J H J' H'){Z:Loc}(l:RL K J H Z Y):RL K J' H' Z Y:=l.cu r BI x
theorem RO.cu(r:Rel K cl J m H)(i:∀d,Δ=some d->jz (H d))(x:cN Δ J H J' H')(g:H' a=H a)(h:RO K cl J H a o):RO K cl J' H' a o:=by
 cases o with
 |lst ws=>let⟨vs,e,t⟩:=h;exact⟨vs,g.trans e,t.cu r i x⟩
 |ins c fs=>let⟨j,b,e,t⟩:=h;exact⟨j,b,g.trans e,t.cu r i x⟩
 |set B=>let⟨S,e,t⟩:=h;exact⟨S,g.trans e,t⟩
 |dic fs=>let⟨b,e,t⟩:=h;exact⟨b,g.trans e,t.cu r i x⟩
 |exc c f ws=>
  let⟨s,q,vs,e,l,t,d⟩:=h;refine⟨s,q,vs,g.trans e,l,t.cu r i x,?_⟩;rcases d with d | ⟨j,y,A,u,k⟩
  .exact .inl d
  .refine .inr ⟨j,y,A,u,x.keep k (r.La k) λ z=>?_⟩;have e:=i j z.symm;rw[k] at e;exact e
theorem RO.mono(r:Rel K cl J m H)(x:Ext J H J' H')(b:H' a=H a)(h:RO K cl J H a o):RO K cl J' H' a o:=h.cu r BI x b
theorem aU.length:∀{ws:List W} {vs:List V},aU K J H ws vs->ws.length=vs.length
 |_,_,.nil=>rfl
 |_,_,.cons _ t=>by rw[RD,RD,aU.length t]
theorem aU.get:∀{ws:List W} {vs:List V} {i:Nat} {w:W},aU K J H ws vs->ws[i]?=some w->∃v,vs[i]?=some v/\RW K J H w v
 |_,_,_,_,.nil,e=>by simp at e
 |_,_,0,_,.cons h t,e=>by simp at e;subst e;exact⟨_,rfl,h⟩
 |_,_,i+1,_,.cons h t,e=>by simpa using aU.get (i:=i) t (~~~e)
theorem aU.append:∀{v w:List W} {d e:List V},aU K J H v d->aU K J H w e->aU K J H (v++w) (d++e):=by
 intro v
 induction v with
 |nil=>intro w d e h s;cases h;exact s
 |cons x v b=>intro w d e h s;cases h with | cons q t=>exact .cons q (b t s)
theorem aU.take:∀{ws:List W} {vs:List V} (n:Nat),aU K J H ws vs->aU K J H (ws.take n) (vs.take n)
 |_,_,0,_=>.nil
 |_,_,_+1,.nil=>.nil
 |_,_,n+1,.cons h t=>.cons h (aU.take n t)
theorem aU.drop:∀{ws:List W} {vs:List V} (n:Nat),aU K J H ws vs->aU K J H (ws.drop n) (vs.drop n)
 |_,_,0,r=>r
 |_,_,_+1,.nil=>.nil
 |_,_,n+1,.cons h t=>aU.drop n t
theorem aU.set(r:RW K J H w v):∀{ws:List W} {vs:List V} (i:Nat),aU K J H ws vs->aU K J H (ws.set i w) (vs.set i v)
 |_,_,_,.nil=>.nil
 |_,_,0,.cons _ t=>.cons r t
 |_,_,i+1,.cons q t=>.cons q (aU.set r i t)
theorem aU.reverse:∀{ws:List W} {vs:List V},aU K J H ws vs->aU K J H ws.reverse vs.reverse
 |_,_,.nil=>.nil
 |_,_,.cons q t=>by rw[U4,U4];exact(aU.reverse t).append %[|q]
theorem aU.bools{f:List Bool}:∀{ws:List W} {vs:List V},aU K J H ws vs->D.bools ws=Option.some f->vs=f.map V.bl:=by
 induction f with
 |nil=>
  intro ws vs h e;cases h with
  |nil=>rfl
  |cons q t=>cases q<;>simp[D.bools] at e
 |cons b f g=>
  intro ws vs h e;cases h with
  |nil=>simp[D.bools] at e
  |cons q t=>
   cases q with
   |bl c=>
    erw[D.bools,Q0] at e;let⟨r,j,i⟩:=e;cases i;rw[g t j];rfl
   |_=>simp[D.bools] at e
theorem RW.sub(h:∀{n:Nat} {a:Addr},J[n]?=Option.some a->J'[n]?=Option.some a)(q:RW K J H w v):RW K J' H w v:=q.gen id id id h
theorem aU.sub(h:∀{n:Nat} {a:Addr},J[n]?=Option.some a->J'[n]?=Option.some a){w:List W}{v:List V}(q:aU K J H w v):aU K J' H w v:=q.xD (RW.sub h)
theorem fL.sub(h:∀{n:Nat} {a:Addr},J[n]?=Option.some a->J'[n]?=Option.some a){w:List (Str×W)}{v:List (Str×V)}(q:fL K J H w v):fL K J' H w v:=q.xD (RW.sub h)
theorem RO.sub(h:∀{n:Nat} {a:Addr},J[n]?=Option.some a->J'[n]?=Option.some a)(q:RO K cl J H a o):RO K cl J' H a o:=by
 cases o with
 |lst ws=>let⟨vs,e,t⟩:=q;exact⟨vs,e,t.sub h⟩
 |ins c fs=>let⟨k,b,e,t⟩:=q;exact⟨k,b,e,t.sub h⟩
 |set l=>exact q
 |dic fs=>let⟨b,e,t⟩:=q;exact⟨b,e,t.sub h⟩
 |exc c f ws=>let⟨j,i,vs,e,g,t,d⟩:=q;exact⟨j,i,vs,e,g,t.sub h,d⟩
theorem Rel.pG(r:Rel K cl J m H)(b:H p=none)(vs:List V):Ext J H J (upd H p (.tup vs))/\Rel K cl J m (upd H p (.tup vs)):=by
 have x:Ext J H J (upd H p (.tup vs)):=⟨⟨[],by simp,by simp⟩,λ h _ _=>by rw[ao (aB h b)];exact h⟩;refine⟨x,r.len,r.nd,λ f c=>?_⟩;have q:=r.obj f c;let⟨u,e,_⟩:=q.ex;exact q.mono r x (ao (aB e b))
theorem Rel.Lb(r:Rel K cl J m H)(b:H p=none):p∉J:=λ z=>by
 let⟨u,e,_⟩:=r.ex z;rw[b] at e;cases e
theorem Rel.CZ(r:Rel K cl J m H){ho:HO}(g:H p=none)(q:∀x:Ext J H (J++[p]) (upd H p ho),RO K cl (J++[p]) (upd H p ho) p o):Ext J H (J++[p]) (upd H p ho)/\Rel K cl (J++[p]) (m++[o]) (upd H p ho):=by
 have x:Ext J H (J++[p]) (upd H p ho):=⟨⟨[p],rfl,λ a i=>by simp at i;rw[i];exact g⟩,λ h _ _=>by rw[ao (aB h g)];exact h⟩;refine⟨x,by simp[r.len],?_,λ {n s a} c f=>?_⟩
 .rw[T4];refine⟨r.nd,by simp,λ a i b k=>?_⟩;simp at k;subst k;rintro rfl;exact r.Lb g i
 .by_cases j:n<m.length
  .rw[Rc j] at c;rw[Rc (by rw[r.len];exact j)] at f;have q:=r.obj c f;let⟨u,e,_⟩:=q.ex;exact q.mono r x (ao (aB e g))
  .have l:=(Q4.mp c).1;simp at l;have e:n=m.length:=by lia
   subst e;rw[Rp (Q7 _)] at c;rw[<-r.len,Rp (Q7 _)] at f;simp at c f;subst c f;exact q x
theorem Rel.newL(r:Rel K cl J m H)(b:H p=none)(q:aU K J H ws vs):Ext J H (J++[p]) (upd H p (.lst vs))/\Rel K cl (J++[p]) (m++[.lst ws]) (upd H p (.lst vs)):=
 r.CZ b λ x=>⟨vs,aC,q.mono r x⟩
theorem Rel.Oa(r:Rel K cl J m H){u':HO}(f:jz (H d))(c:d∉J):cN (Option.some d) J H J (upd H d u')/\Rel K cl J m (upd H d u'):=by
 have x:cN (Option.some d) J H J (upd H d u'):=⟨⟨[],by simp,by simp⟩,λ {a o} h _ na=>by rw[ao (λ z=>na (by rw[z]))];exact h⟩;refine⟨x,r.len,r.nd,λ g b=>?_⟩;have q:=r.obj g b;refine q.cu r (λ i z=>?_) x (ao λ z=>?_)
 .cases z;exact f
 .exact c (by rw[<-z];exact RP b)
theorem Rel.out(r:Rel K cl J m H){i:O}(l:d∉J)(t:RO K cl J H d i):Rel K cl (J++[d]) (m++[i]) H:=by
 have g:∀{n:Nat} {a:Addr},J[n]?=Option.some a->(J++[d])[n]?=Option.some a:=λ {n a} h=>by
  rw[Rc (Q4.mp h).1];exact h
 refine⟨by simp[r.len],?_,λ {n o a} c f=>?_⟩
 .rw[T4];refine⟨r.nd,by simp,λ a q b k=>?_⟩;simp at k;subst k;rintro rfl;exact l q
 .by_cases j:n<m.length
  .rw[Rc j] at c;rw[Rc (by rw[r.len];exact j)] at f;exact(r.obj c f).sub g
  .have s:=(Q4.mp c).1;simp at s;have e:n=m.length:=by lia
   subst e;rw[Rp (Q7 _)] at c;rw[<-r.len,Rp (Q7 _)] at f;simp at c f;subst c f;exact t.sub g
theorem Rel.last(r:Rel K cl J m H)(p:Addr):(J++[p])[m.length]?=Option.some p:=by
 rw[<-r.len,Rp (Q7 _)];simp
theorem Rel.zB(r:Rel K cl J m H){l:List W}{c:List V}(t:m[n]?=Option.some o)(j:J[n]?=Option.some a)(q:aU K J H l c):Ext J H J (upd H a (.lst c))/\Rel K cl J (m.set n (.lst l)) (upd H a (.lst c)):=by
 have y:a∈J:=RP j;have x:Ext J H J (upd H a (.lst c)):=⟨⟨[],by simp,by simp⟩,λ {b u} h hn _=>by rw[ao (show b≠a from λ z=>hn (by rw[z];exact y))];exact h⟩;refine⟨x,by simp[r.len],r.nd,λ {k C b} g f=>?_⟩
 by_cases i:n=k
 .subst i;rw[j] at f;cases f;rw[RH (Q4.mp t).1] at g;cases g;exact⟨c,aC,q.mono r x⟩
 .rw[RN i] at g;have s:=r.obj g f;refine s.mono r x (ao ?_);rintro rfl;let⟨E,B⟩:=Q4.mp f;let⟨D,A⟩:=Q4.mp j;exact i ((Vd r.nd).mp (A.trans B.symm))
theorem Rel.getL(r:Rel K cl J m H)(q:RW K J H w v)(e:D.getL m w=Option.some ws):∃a vs,v=.ref a/\fS K H a vs/\aU K J H ws vs:=by
 cases q with
 |ref h=>
  unfold D.getL at e;dsimp only at e;split at e
  .ext c b;cases e;let⟨vs,z,t⟩:=r.obj b h;exact⟨_,vs,rfl,.inl (.inl z),t⟩
  .cases e
 |fz h t=>cases e;exact⟨_,_,rfl,h.l,t⟩
 |_=>simp[D.getL] at e
theorem Rel.bS(r:Rel K cl J m H)(q:RW K J H w v)(e:D.bS m w=Option.some ws):∃a vs,v=.ref a/\(fS K H a vs\/dw K H a vs)/\aU K J H ws vs:=by
 cases w with
 |tup xs=>
  cases q with
  |tup h t=>
   cases e;exact⟨_,_,rfl,.inr h,t⟩
 |_=>
  let⟨a,vs,f,c,b⟩:=r.getL q e;exact⟨a,vs,f,.inl c,b⟩
theorem Rel.lst(r:Rel K cl J m H)(q:RW K J H (.ref n) v)(e:m[n]?=Option.some (.lst ws)):∃a vs,v=.ref a/\J[n]?=Option.some a/\H a=Option.some (.lst vs)/\aU K J H ws vs:=by
 cases q with
 |ref h=>
  let⟨vs,z,t⟩:=r.obj e h;exact⟨_,vs,rfl,h,z,t⟩
theorem gG{f:W->Option PyData}:∀{ws:List W} {vs:List V} {b:List PyData},(∀w v d,w∈ws->RW K J H w v->f w=Option.some d->Dt K H v d)->aU K J H ws vs->eO f ws=Option.some b->EF K H vs b
 | [],_,_,_,.nil,e=>by cases e;exact .nil
 |w::ws,_,_,h,.cons q t,e=>by
  unfold eO at e;split at e
  .cases e
  .ext d e1;split at e
   .cases e
   .ext b e2;cases e;exact .cons (h w _ d RG q e1) (gG (λ c g d' hw=>h c g d' (Ro _ hw)) t e2)
theorem gf(r:Rel K cl J m H):∀(n:Nat) {w:W} {v:V} {d:PyData},RW K J H w v->toD n m w=Option.some d->Dt K H v d
 |0,_,_,_,_,e=>by cases e
 |n+1,w,v,d,q,e=>by
  unfold toD at e;cases q with
  |non=>cases e;exact .non
  |bl b=>cases e;exact .bl b
  |int i=>cases e;exact .int i
  |str x=>
   dsimp only at e;split at e
   .cases e;exact .str x
   .cases e
  |tup h t=>
   erw[Q0] at e;let⟨c,e1,e2⟩:=e;subst e2;exact .tup h (gG (λ w v d _ q e=>gf r n q e) t e1)
  |fz h t=>
   erw[Q0] at e;let⟨c,e1,e2⟩:=e;subst e2;exact .lst h.l (gG (λ w v d _ q e=>gf r n q e) t e1)
  |obj h s t=>cases e
  |ref h=>
   dsimp only at e;split at e
   .ext xs e1;erw[Q0] at e;let⟨c,e2,k⟩:=e;subst k;let⟨a,vs,j,g,f⟩:=r.getL (.ref h) e1;cases j;exact .lst g (gG (λ w v d _ q e=>gf r n q e) f e2)
   .cases e
theorem gH{f:W->Option PyData}:∀{ws:List W} {b:List PyData},(∀w d,f w=Option.some d->d.canLay0=true/\d.depth<=n)->eO f ws=Option.some b->PyData.canLayAll0 b=true/\PyData.depthAll b<=n
 | [],_,_,e=>by cases e;exact⟨rfl,TL _⟩
 |w::ws,_,h,e=>by
  unfold eO at e;split at e
  .cases e
  .ext d e1;split at e
   .cases e
   .ext b e2;cases e;let⟨g,j⟩:=h w d e1;let⟨c,i⟩:=gH h e2;refine⟨by simp[PyData.canLayAll0,g,c],?_⟩;erw[PyData.depthAll];lia
theorem cJ:∀(n:Nat) {w:W} {d:PyData},toD n m w=Option.some d->d.canLay0=true/\d.depth<=n
 |0,_,_,e=>by cases e
 |n+1,w,d,e=>by
  unfold toD at e;cases w with
  |non=>cases e;exact⟨rfl,by simp[PyData.depth]⟩
  |bl b=>cases e;exact⟨rfl,by simp[PyData.depth]⟩
  |int i=>cases e;exact⟨rfl,by simp[PyData.depth]⟩
  |str x=>
   dsimp only at e;split at e
   .ext j;cases e;exact⟨j,by simp[PyData.depth]⟩
   .cases e
  |tup xs=>
   erw[Q0] at e;let⟨g,e1,e2⟩:=e;subst e2;let⟨f,h⟩:=gH (λ w d e=>cJ n e) e1;exact⟨f,by erw[PyData.depth];lia⟩
  |fz xs=>
   erw[Q0] at e;let⟨g,e1,e2⟩:=e;subst e2;let⟨f,h⟩:=gH (λ w d e=>cJ n e) e1;exact⟨f,by erw[PyData.depth];lia⟩
  |obj c ks vs=>cases e
  |ref k=>
   dsimp only at e;split at e
   .erw[Q0] at e;let⟨g,e2,l⟩:=e;subst l;let⟨f,h⟩:=gH (λ w d e=>cJ n e) e2;exact⟨f,by erw[PyData.depth];lia⟩
   .cases e
theorem R.ah{b γ:Type}{x:R b}{f:b->Mem->R γ}{c:γ}(h:x.bind f=.ok c m'):∃a m,x=.ok a m/\f a m=.ok c m':=by
 cases x with
 |no=>cases h
 |ok a m=>exact⟨a,m,rfl,h⟩
end
structure UN(X:L2.Cx)(cl:Cl):Prop where
 un:X.A.units+64<cLine
 P:cl.P=X.prog
 w:cl.w=X.w
 gd:X.A.guards=some []
theorem cy:lim<=sizeLine:=by rw[S3];decide
section
variable(X:L2.Cx)(cl:Cl)
inductive SE(ev:Loc->Mem->R W)(Y:L2.St)(H:Hp)(Q:VK):Prop
 |mk (J:List Addr) (Z:Loc) (m:Mem) (w:W) (m':Mem) (h1:Rel X.K cl J m H) (h2:RL X.K J H Z Y) (h3:ev Z m=.ok w m') (h4:∀J' H' v,Ext J H J' H'->Rel X.K cl J' m' H'->RW X.K J' H' w v->Q v H'):SE ev Y H Q
inductive ST(ev:Loc->Mem->R Bool)(Y:L2.St)(H:Hp)(Q:Bool->Hp->Prop):Prop
 |mk (J:List Addr) (Z:Loc) (m:Mem) (b:Bool) (m':Mem) (h1:Rel X.K cl J m H) (h2:RL X.K J H Z Y) (h3:ev Z m=.ok b m') (h4:∀J' H',Ext J H J' H'->Rel X.K cl J' m' H'->Q b H'):ST ev Y H Q
inductive SA(ev:Loc->Mem->R (List W))(Y:L2.St)(H:Hp)(Q:List V->Hp->Prop):Prop
 |mk (J:List Addr) (Z:Loc) (m:Mem) (ws:List W) (m':Mem) (h1:Rel X.K cl J m H) (h2:RL X.K J H Z Y) (h3:ev Z m=.ok ws m') (h4:∀J' H' vs,Ext J H J' H'->Rel X.K cl J' m' H'->aU X.K J' H' ws vs->Q vs H'):SA ev Y H Q
inductive E4(ev:Loc->Mem->R (Option Int))(Y:L2.St)(H:Hp)(Q:Option Int->Hp->Prop):Prop
 |mk (J:List Addr) (Z:Loc) (m:Mem) (o:Option Int) (m':Mem) (h1:Rel X.K cl J m H) (h2:RL X.K J H Z Y) (h3:ev Z m=.ok o m') (h4:∀J' H',Ext J H J' H'->Rel X.K cl J' m' H'->Q o H'):E4 ev Y H Q
inductive C0(f:W->W->Mem->R W)(x y:V)(H:Hp)(Q:VK):Prop
 |mk (J:List Addr) (m:Mem) (wx wy w:W) (m':Mem) (h1:Rel X.K cl J m H) (h2:RW X.K J H wx x) (h3:RW X.K J H wy y) (h4:f wx wy m=.ok w m') (h5:∀J' H' v,Ext J H J' H'->Rel X.K cl J' m' H'->RW X.K J' H' w v->Q v H'):C0 f x y H Q
inductive Py(f:List W->Mem->R W)(xs:List V)(H:Hp)(Q:VK):Prop
 |mk (J:List Addr) (m:Mem) (ws:List W) (w:W) (m':Mem) (h1:Rel X.K cl J m H) (h2:aU X.K J H ws xs) (h3:f ws m=.ok w m') (h4:∀J' H' v,Ext J H J' H'->Rel X.K cl J' m' H'->RW X.K J' H' w v->Q v H'):Py f xs H Q
end
theorem PE.imp{X:L2.Cx}{t t':TE}(h:PE X e t)(i:∀Y H Q,t' Y H Q->t Y H Q):PE X e t':=λ a s Y H Q I q=>h a s Y H Q I (i Y H Q q)
theorem PT.imp{X:L2.Cx}{t t':TT}(h:PT X e t)(i:∀Y H Q,t' Y H Q->t Y H Q):PT X e t':=λ a s Y H Q I q=>h a s Y H Q I (i Y H Q q)
theorem PW.imp{X:L2.Cx}{t t':TT}(h:PW X e t)(i:∀Y H Q,t' Y H Q->t Y H Q):PW X e t':=λ a b s Y H Q I q=>h a b s Y H Q I (i Y H Q q)
theorem PA.imp{X:L2.Cx}{e:List Expr}{t t':TA}(h:PA X e t)(i:∀Y H Q,t' Y H Q->t Y H Q):PA X e t':=λ a b s Y H Q I q=>h a b s Y H Q I (i Y H Q q)
theorem PO.imp{X:L2.Cx}{e:Option Expr}{t t':TO}(h:PO X e t)(i:∀Y H Q,t' Y H Q->t Y H Q):PO X e t':=λ a s Y H Q I q=>h a s Y H Q I (i Y H Q q)
theorem jA{z:Str}:∀(a:List (Str×V)),jl (keyed a) (.inr z)=a.lookup z:=by
 intro a
 induction a with
 |nil=>rfl
 |cons p r b=>
  let⟨k,v⟩:=p;unfold jl keyed at b ⊢;rw[RU,Tz,Rl]
  by_cases h:k=z
  .subst h;simp
  .have f:(z==k)=false:=by simpa using λ e=>h e.symm
   have c:decide ((Sum.inr k:Key)=.inr z)=false:=Ry λ e=>h (Sum.inr.inj e);rw[f];erw[c];exact b
theorem fL.look{K:ae}{z:Str}{b:List (Str×W)}{a:List (Str×V)}(h:fL K J H b a):(b.lookup z).isSome=(a.lookup z).isSome/\∀w,b.lookup z=some w->∃v,a.lookup z=some v/\RW K J H w v:=by
 induction h with
 |nil=>exact⟨rfl,λ w e=>by cases e⟩
 |@cons f w v ws vs q t c=>
  rw[Rl,Rl];cases h:z==f with
  |true=>exact⟨rfl,λ g e=>by cases e;exact⟨v,rfl,q⟩⟩
  |false=>exact c
theorem Hu{X:L2.Cx}:GO X (λ x y H Q=>∃z a i v,y=.str z/\x=.ref a/\H a=some (.dK (keyed i))/\i.lookup z=some v/\Q v H):=by
 intro b c D s Y H x y v u Q I m l h t;let⟨z,a,i,o,rfl,rfl,e,A,q⟩:=h;cases m;let⟨_,C,vs,g,j⟩:=uH I.hok (.inl e);let⟨B,r,f⟩:=eN.some_of (v:=o) (o:=valueAt vs (.inr z)) (by rw[<-A,<-jA];exact g.val (.inr z));exact tail_any j.typeIs slot_dict_getitem.lookup (wpAny_getItem_of (qE (k:=.inr z) l) j.mapOf r ⟨o,H,I.tok _,f,q⟩) t
section
variable{X:L2.Cx}{cl:Cl}
theorem zC:fU X (binaryOp .Add) (λ x y H Q=>∃a b ys,x=.ref a/\y=.ref b/\dw X.K H a []/\dw X.K H b ys/\Q (.ref b) H):=by
 intro U s Y H x y v u Q I D C h;let⟨a,b,ys,rfl,rfl,R,P,q⟩:=h;cases D;cases C;let⟨N,F,L,_⟩:=I.tuple R;let⟨c,E,G,_⟩:=I.tuple P;cases F;let⟨⟨T,S,z,B⟩,m,t,n,r⟩:=id L;let⟨⟨A,k,l,j⟩,f,i,M,g⟩:=id G;simp only at t r i g;subst t r i g;exact UX ⟨_,m,rfl⟩ ⟨_,f,rfl⟩ UL Vk TY TM (Tr _ _)
   (tuple_addW0 a b _ c.toArray n M S k B j 's') ⟨m,f,⟨.ref b,H,I,rfl,q⟩⟩
theorem C1:fU X (binaryOp .Add) (λ x y H Q=>∃a b xs ys,x=.ref a/\y=.ref b/\fS X.K H a xs/\fS X.K H b ys/\xs.length+ys.length<=sizeLine/\∀p,H p=none->Q (.ref p) (upd H p (.lst (xs++ys)))):=by
 intro aa s Y H x y v u Q I M L h;let⟨a,b,xs,ys,rfl,rfl,U,T,hz,q⟩:=h;cases M;cases L;let⟨f,t,P,_⟩:=I.list U;let⟨c,g,N,_⟩:=I.list T;let⟨⟨cls,dd,D,G⟩,n,z,C,S,B⟩:=id P;let⟨⟨E,m,r,l⟩,R,i,k,A,j⟩:=id N;simp only at C B k j;subst C B k j;have l1:=t.length;have l2:=g.length;have Z:f.toArray++c.toArray=(f++c).toArray:=by simp
 refine UX ⟨_,z,rfl⟩ ⟨_,i,rfl⟩ noFill_list_add seq_list_add PySem.F.slot_list_add PySem.F.entry_list_add (PySem.F.args_list_add_2 _ _)
   (list_addW a b f.toArray c.toArray n R dd m G l (by rw[Q9,Q9];lia)) ⟨z,i,?_⟩
 rw[Z];exact⟨.ref _,_,I.KQ (t':=s.toks) (t.append g) (by rw[Ru];lia),rfl,q _ I.fresh⟩
theorem Hv(M:Operator):fU X (binaryOp M) (C0 X cl (binop M)):=by
 intro i s Y H x y v u Q I g f h;let⟨J,m,wx,Z,w,m',r,q,l,e,k⟩:=h;unfold binop at e;split at e
 .
  split at e
  .cases e;cases q;cases l;exact GB i s Y H _ _ v u Q I g f ⟨_,_,rfl,rfl,k _ _ _ Ext.refl r (.int _)⟩
  .ext P N;split at e
   .ext c;cases e;cases q with
    |tup D j=>
     cases l with
     |tup C A=>
      ext a vs b F;cases j with
      |nil=>exact zC i s Y H _ _ v u Q I g f ⟨_,_,_,rfl,rfl,D,C,k _ _ _ Ext.refl r (.tup C (~~~A))⟩
      |cons j t=>
       ext w1 L R B;have S:(L::B).length+F.length<=lim:=by
        rw[<-(aU.cons j t).length,<-A.length];exact c
       refine Cq i s Y H _ _ v u Q I g f ⟨_,_,_,_,rfl,rfl,D,C,by simp,Rv S cy,λ z=>?_,λ z p K=>?_⟩
       .subst z;cases A;exact k _ _ _ Ext.refl r (.tup D (by simpa using aU.cons j t))
       .let⟨E,G⟩:=r.pG K (L::B++F);refine k _ _ _ E G (.tup (.of aC) ?_);exact((aU.cons j t).append A).mono r E
   .cases e
  .unfold CN at e;split at e
   .ext P N U T;split at e
    .ext c;cases e;let⟨a,vs,rfl,D,j⟩:=r.getL q U;let⟨b,F,rfl,C,A⟩:=r.getL l T;refine C1 i s Y H _ _ v u Q I g f ⟨_,_,_,_,rfl,rfl,D,C,?_,λ p K=>?_⟩
     .rw[<-j.length,<-A.length];exact Rv c cy
     .let⟨E,G⟩:=r.newL K (j.append A);exact k _ _ _ E G (.ref (r.last p))
    .cases e
   .cases e
 .
  split at e
  .cases e;cases q;cases l;exact GC i s Y H _ _ v u Q I g f ⟨_,_,rfl,rfl,k _ _ _ Ext.refl r (.int _)⟩
  .cases e
 .
  split at e
  .split at e
   .ext c;cases e;cases q;cases l;refine GD i s Y H _ _ v u Q I g f ⟨_,_,rfl,rfl,?_,k _ _ _ Ext.refl r (.int _)⟩;simpa[iu,BZ] using c
   .cases e
  .cases e
 .split at e
  .split at e
   .ext c;cases e;cases q;cases l;exact B9 i s Y H _ _ v u Q I g f ⟨_,_,rfl,rfl,c,k _ _ _ Ext.refl r (.int _)⟩
   .cases e
  .cases e
 .split at e
  .split at e
   .ext c;cases e;cases q;cases l;exact GF i s Y H _ _ v u Q I g f ⟨_,_,rfl,rfl,c,k _ _ _ Ext.refl r (.int _)⟩
   .cases e
  .cases e
 .split at e
  .split at e
   .ext c;cases e;cases q;cases l;exact GG i s Y H _ _ v u Q I g f ⟨_,_,rfl,rfl,c,k _ _ _ Ext.refl r (.int _)⟩
   .cases e
  .cases e
 .cases e
theorem Lc(q:UN X cl):fU X (compareOp .Eq) (C0 X cl λ x y m=>(qc m x y).bind λ c m=>.ok (.bl c) m):=by
 intro z s Y H x y v u Q I i g h;let⟨J,m,B,A,w,D,r,l,j,e,k⟩:=h;let⟨c,C,a,t⟩:=R.ah e;cases t;unfold qc at a;split at a
 .ext F E b f;cases a;exact G2 q.un z s Y H _ _ v u Q I i g ⟨_,_,gf r _ l b,gf r _ j f,(cJ _ b).1,(cJ _ f).1,(cJ _ b).2,k _ _ _ Ext.refl r (.bl _)⟩
 .cases a
theorem Ld(A:UN X cl):fU X (compareOp .NotEq) (C0 X cl λ x y m=>((qc m x y).bind λ b m=>.ok (!b) m).bind λ c m=>.ok (.bl c) m):=by
 intro B s Y H x y v u Q I l j h;let⟨J,m,D,C,w,E,r,t,q,e,k⟩:=h;let⟨c,z,a,g⟩:=R.ah e;cases g;let⟨c,z,a,g⟩:=R.ah a;cases g;unfold qc at a;split at a
 .ext G F f i;cases a;exact G3 A.un B s Y H _ _ v u Q I l j ⟨_,_,gf r _ t f,gf r _ q i,(cJ _ f).1,(cJ _ i).1,(cJ _ f).2,k _ _ _ Ext.refl r (.bl _)⟩
 .cases a
theorem jB(S:UN X cl)(b:Bool){L:List (Addr×Obj)}{s:Shared}{x y:V}{v u:Value}{Q:VK}{m D:Mem}{C B:W}{ys:List W}{c:Bool}(I:Inv X L Y H s)(N:RelV x v)(M:RelV y u)
  (r:Rel X.K cl J m H) (R:RW X.K J H C x) (P:RW X.K J H B y) (e1:bS m B=some ys) (e2:jq m C ys=.ok c D) (k:D=m->Q (.bl (if b then !c else c)) H) :
  wpAny (model X.prog X.w) X.A (compareOp (if b then .NotIn else .In) v u) (EP X L Y Q) X.xe s:=by
 let⟨a,vs,rfl,g,t⟩:=r.bS P e1;cases M;unfold jq at e2;split at e2
 .ext d z F E;cases e2;have k:=k rfl;let⟨j,Z⟩:=cJ _ F;let⟨i,U⟩:=gH (λ w d e=>cJ 60 e) E;have G:EF X.K H vs z:=gG (λ w v d _ q e=>gf r _ q e) t E;let⟨as,h⟩:=I.reads (gf r _ R F) N;have l:X.A.units+1+min (PyData.depthAll z) d.depth<cLine:=by
   have:min (PyData.depthAll z) d.depth<=d.depth:=To _ _;have:=S.un;lia
  rcases g with g | g
  .let⟨T,f⟩:=I.reads (Dt.lst g G) (u:=Value.ref a) rfl;cases b with
   |false=>exact SeqAt.in_list_reads f h i j l ⟨.bl _,H,I,rfl,k⟩
   |true=>exact SeqAt.notIn_list_reads f h i j l ⟨.bl _,H,I,rfl,k⟩
  .let⟨T,f⟩:=I.reads (Dt.tup g G) (u:=Value.ref a) rfl;cases b with
   |false=>exact SeqAt.in_tuple_reads f h i j l ⟨.bl _,H,I,rfl,k⟩
   |true=>exact SeqAt.notIn_tuple_reads f h i j l ⟨.bl _,H,I,rfl,k⟩
 .cases e2
theorem aU.ints{K:ae}:∀ns:List Int,aU K J H (ns.map W.int) (ns.map V.int)
 | []=>.nil
 |i::r=>.cons (.int i) (aU.ints r)
theorem aU.cG{K:ae}:∀{ws:List W} {vs:List V} {ns:List Int},aU K J H ws vs->D.cG ws=some ns->vs=ns.map V.int
 |_,_,_,.nil,h=>by cases h;rfl
 |_,_,_,.cons (w:=w) q t,h=>by
  cases w with
  |int i=>
   erw[D.cG,Q0] at h;let⟨r,a,rfl⟩:=h;cases q;rw[t.cG a];rfl
  |_=>cases h
theorem qV{K:ae}{k:L2.Key}(q:RW K J H w v)(e:yY w=some k):v=kV k:=by
 cases q with
 |int i=>cases e;rfl
 |str x=>cases e;rfl
 |_=>cases e
theorem Le(b:UN X cl):fU X (compareOp .In) (C0 X cl λ x y m=>(yZ m x y).bind λ c m=>.ok (.bl c) m):=by
 rintro G s Y H x y v u Q I g f ⟨J,m,N,M,w,Z,r,i,h,e,k⟩;let⟨c,U,a,F⟩:=R.ah e;cases F;unfold yZ at a;split at a
 .ext n;split at a
  .ext L j;exact jB b false I g f r i h (by simp[bS,getL,j]) a λ z=>by subst z;exact k _ _ _ Ext.refl r (.bl _)
  .ext ks j;split at a
   .ext A E;cases a;cases h with
    |ref l=>
     let⟨S,q,B⟩:=r.obj j l;rw[b.P,b.w] at q;refine wV G s Y H _ _ v u Q I g f ⟨_,S,_,A,rfl,qV i E,q,?_⟩;rw[B];exact k _ _ _ Ext.refl r (.bl _)
   .cases a
  .ext fs j;split at a
   .ext z;cases a;cases i;cases h with
    |ref l=>
     let⟨D,C,t⟩:=r.obj j l;cases f;refine NH (o:=D.lookup z) (by have:=b.un;lia) I (by rw[<-jA];exact .k (k:=.inr z) C) g λ T K=>⟨.bl _,H,K,rfl,?_⟩;rw[<-t.look.1];exact k _ _ _ Ext.refl r (.bl _)
   .cases a
  .cases a
 .exact jB b false I g f r i h rfl a λ z=>by subst z;exact k _ _ _ Ext.refl r (.bl _)
 .exact jB b false I g f r i h rfl a λ z=>by subst z;exact k _ _ _ Ext.refl r (.bl _)
 .cases a
theorem uW{K:ae}(q:RW K J H w v):decide (v=.non)=y9 w:=by
 cases q<;>first | rfl | exact Ry (λ z=>nomatch z)
theorem jC(l:UN X cl)(F:CmpOp):fU X (compareOp F) (C0 X cl λ x y m=>(aE F x y m).bind λ c m=>.ok (.bl c) m):=by
 cases F with
 |Eq=>exact Lc l
 |NotEq=>exact Ld l
 |Lt=>
  rintro j s Y H x y v u Q I f b ⟨J,m,A,q,w,C,r,h,g,e,k⟩;let⟨c,B,a,i⟩:=R.ah e;cases i;unfold aE at a;dsimp only at a;split at a
  .cases a;cases h;cases g;exact KC j s Y H _ _ v u Q I f b ⟨_,_,rfl,rfl,k _ _ _ Ext.refl r (.bl _)⟩
  .cases a
 |LtE=>
  rintro j s Y H x y v u Q I f b ⟨J,m,A,q,w,C,r,h,g,e,k⟩;let⟨c,B,a,i⟩:=R.ah e;cases i;unfold aE at a;dsimp only at a;split at a
  .cases a;cases h;cases g;exact KD j s Y H _ _ v u Q I f b ⟨_,_,rfl,rfl,k _ _ _ Ext.refl r (.bl _)⟩
  .cases a;cases h;cases g;exact wW j s Y H _ _ v u Q I f b ⟨_,_,rfl,rfl,k _ _ _ Ext.refl r (.bl _)⟩
  .cases a
 |Gt=>
  rintro j s Y H x y v u Q I f b ⟨J,m,A,q,w,C,r,h,g,e,k⟩;let⟨c,B,a,i⟩:=R.ah e;cases i;unfold aE at a;dsimp only at a;split at a
  .cases a;cases h;cases g;exact KG j s Y H _ _ v u Q I f b ⟨_,_,rfl,rfl,k _ _ _ Ext.refl r (.bl _)⟩
  .cases a
 |GtE=>
  rintro j s Y H x y v u Q I f b ⟨J,m,A,q,w,C,r,h,g,e,k⟩;let⟨c,B,a,i⟩:=R.ah e;cases i;unfold aE at a;dsimp only at a;split at a
  .cases a;cases h;cases g;exact KH j s Y H _ _ v u Q I f b ⟨_,_,rfl,rfl,k _ _ _ Ext.refl r (.bl _)⟩
  .cases a
 |Is=>
  rintro j s Y H x y v u Q I f b ⟨J,m,A,q,w,C,r,h,g,e,k⟩;let⟨c,B,a,i⟩:=R.ah e;cases i;unfold aE at a;dsimp only at a;split at a
  .cases a;cases g;refine GI j s Y H _ _ v u Q I f b ⟨rfl,?_⟩;rw[uW h];exact k _ _ _ Ext.refl r (.bl _)
  .cases a
 |IsNot=>
  rintro j s Y H x y v u Q I f b ⟨J,m,A,q,w,C,r,h,g,e,k⟩;let⟨c,B,a,i⟩:=R.ah e;cases i;unfold aE at a;dsimp only at a;split at a
  .cases a;cases g;refine Ca j s Y H _ _ v u Q I f b ⟨rfl,?_⟩;rw[uW h];exact k _ _ _ Ext.refl r (.bl _)
  .cases a
 |In=>exact Le l
 |NotIn=>
  rintro j s Y H x y v u Q I f b ⟨J,m,A,q,w,C,r,h,g,e,k⟩;let⟨c,B,a,i⟩:=R.ah e;cases i;unfold aE at a;dsimp only at a;split at a
  .ext n;split at a
   .ext T G;let⟨L,K,E,D⟩:=R.ah a;cases D;exact jB l true I f b r h g (by simp[bS,getL,G]) E λ z=>by subst z;exact k _ _ _ Ext.refl r (.bl _)
   .ext Z G;split at a
    .ext z;cases a;cases h;cases g with
     |ref N=>
      let⟨P,M,t⟩:=r.obj G N;cases b;refine Cy (o:=P.lookup z) (by have:=l.un;lia) I (by rw[<-jA];exact .k (k:=.inr z) M) f λ U S=>⟨.bl _,H,S,rfl,?_⟩;rw[<-t.look.1];exact k _ _ _ Ext.refl r (.bl _)
    .cases a
   .cases a
  .let⟨L,K,E,D⟩:=R.ah a;cases D;exact jB l true I f b r h g rfl E λ z=>by subst z;exact k _ _ _ Ext.refl r (.bl _)
  .let⟨L,K,E,D⟩:=R.ah a;cases D;exact jB l true I f b r h g rfl E λ z=>by subst z;exact k _ _ _ Ext.refl r (.bl _)
  .cases a
theorem C2{K:ae}{i:Int}(t:aU K J H ws vs)(e:uF ws i=some w):∃v,uF vs i=some v/\RW K J H w v:=by
 unfold uF at e ⊢;rw[<-t.length];cases h:BE ws.length i with
 |none=>rw[h] at e;cases e
 |some j=>rw[h] at e;exact t.get e
theorem Hw:GO X (C0 X cl aY):=by
 intro b f D s Y H x y v u Q I q l h B;let⟨J,m,S,R,w,T,r,F,E,e,k⟩:=h;unfold aY at e;split at e
 .ext i;split at e
  .split at e
   .ext K;split at e
    .ext c j;cases e;cases F;cases E;exact GQ b f D s Y H _ _ v u Q I q l ⟨_,_,_,rfl,rfl,Rv K cy,j,k _ _ _ Ext.refl r (.str _)⟩ B
    .cases e
   .cases e
  .split at e
   .ext ws N;split at e
    .ext G j;cases e;cases E;let⟨a,vs,rfl,g,t⟩:=r.bS F N;let⟨z,C,A⟩:=C2 t j;rcases g with g | g
     .exact Cr b f D s Y H _ _ v u Q I q l ⟨_,_,_,_,rfl,rfl,g,C,k _ _ _ Ext.refl r A⟩ B
     .exact GP b f D s Y H _ _ v u Q I q l ⟨_,_,_,_,rfl,rfl,g,C,k _ _ _ Ext.refl r A⟩ B
    .cases e
   .cases e
 .split at e
  .split at e
   .ext Z P;split at e
    .ext G j;cases e;cases E;cases F with
     |ref M=>
      let⟨U,L,t⟩:=r.obj P M;let⟨z,C,A⟩:=t.look.2 _ j;exact Hu b f D s Y H _ _ v u Q I q l ⟨_,_,_,_,rfl,rfl,L,C,k _ _ _ Ext.refl r A⟩ B
    .cases e
   .cases e
  .cases e
 .cases e
end
end D
namespace HT
open PySem PyProof.Rows List
open PySem.SeqAt List
open PySem.AutoSeq1 (wpAny_loadPart')
open PySem.MeetsSeq PySem.MeetsSeq2 PySem.MeetsSeq3 List
section
variable{prog:Program}{w:World}{A:Around}{E:Value->Shared->Prop}{s:Shared}
theorem ic{t c:Addr}{items:Array Value}{g f:Value}{lo hi:Option Int}{Q:Value->Shared->Prop}(b:IsTup s.heap t items)(i:s.heap.IsSliceOf c g f .none)(k:IsPart g lo)(j:IsPart f hi)
  (o:cF items.size 0 lo=0) (n:cF items.size items.size hi=items.size) (h:Q (.ref t) s):wpAny (model prog w) A (getItem (.ref t) (.ref c)) Q E s:=by
 let⟨l,d,e,m⟩:=id i;have p:s.TypeIs (.ref c) "slice":=⟨l,d,e⟩;unfold getItem
 try with_reducible refine Sd ?_
 first | refine Q2 (Q8 ?_) | skip
 refine Q2 (wpAny_sequenceKey b.typeIs 'd' ?_);refine Q2 (Si (name:=Str.ofString "__getitem__") b.typeIs Sy
  (S8 Sy b.typeIs entry_tuple_getitem ?_ (args_tuple_getitem _ _)))
 show wpAny _ _ (Builtin.Tuple.tupleItemsOf (.ref t) >>= _) _ _ s;refine Q2 (tupleItemsOf_ b ?_);refine Q2 (Vv p ?_);rw[Rf 'd'];refine Q2 (fG i k j ?_);have a:(((cF items.size 0 lo:Nat):Int)==0&&(1:Int)==1&&(cF items.size items.size hi - cF items.size 0 lo)==items.size)=true:=by
  rw[o,n];simp
 show wpAny _ _ (if (((cF items.size 0 lo:Nat):Int)==0&&(1:Int)==1&&(cF items.size items.size hi - cF items.size 0 lo)==items.size)=true then _ else _) _ _ s;rw[Rf a];refine Q2 ?_;unfold Builtin.Tuple.tupleIsExact;refine Q2 (Vv b.typeIs (Q8 ?_));rw[Rf 'd'];exact Q2 (Us (Q8 ⟨_,rfl,Q8 h⟩))
end
end HT
namespace L2
open PySem PySem.Spec PyProof.Rows List
theorem C3{X:Cx}:KN X (λ x lo hi H Q=>∃a xs,x=.ref a/\dw X.K H a xs/\(HT.cF xs.length 0 lo=0/\HT.cF xs.length xs.length hi=xs.length)/\Q (.ref a) H):=by
 intro p s Y H x v m l lo hi n Q I f k i g h;let⟨a,xs,rfl,j,d,q⟩:=h;cases f;let⟨c,r,e,o⟩:=I.tuple j;have b:c.toArray.size=xs.length:=by rw[Q9];exact r.length.symm
 refine⟨"tuple",_,PyProof.Rows.slot_tuple_getitem.lookup,e.typeIs,?_⟩;exact HT.ic e k i g (by rw[b];exact d.1) (by rw[b];exact d.2) ⟨.ref a,H,I,rfl,q⟩
end L2
namespace D
open PySem PySem.Spec PyProof.Rows L2 List
variable{ds:Es}{es:List Expr}{j:Nat}
section
variable{X:L2.Cx}{cl:Cl}{C:D.Cx}{pos:Pos}
theorem nQ{i:Nat}{x:Str}(d:X.N[i]?=some x)(b:Eo X.env.scope x)(c:(x==("__debug__":Str))=false)(a:(x==("__classdict__":Str))=false):PE X (.Name x pos) (SE X cl (aq C (.var i))):=by
 refine PE.imp (sE d b c a) ?_;rintro Y H Q ⟨J,Z,m,w,n,r,l,e,k⟩;erw[aH] at e;split at e
 .ext h g;cases e;let⟨v,f,q⟩:=l.at_ g;exact⟨v,f,k _ _ _ Ext.refl r q⟩
 .cases e
theorem E5{i:Int}:PE X (.Constant (.int i) j pos) (SE X cl (aq C (.cst (.int i)))):=by
 refine PE.imp Ge ?_;rintro Y H Q ⟨J,Z,m,w,a,r,l,e,k⟩;erw[bh] at e;cases e;exact k _ _ _ Ext.refl r (.int i)
theorem Lf{i:Bool}:PE X (.Constant (.bool i) j pos) (SE X cl (aq C (.cst (.bl i)))):=by
 refine PE.imp Kg ?_;rintro Y H Q ⟨J,Z,m,w,a,r,l,e,k⟩;erw[bh] at e;cases e;exact k _ _ _ Ext.refl r (.bl i)
theorem E6:PE X (.Constant .none j pos) (SE X cl (aq C (.cst .non))):=by
 refine PE.imp Gf ?_;rintro Y H Q ⟨J,Z,m,w,a,r,l,e,k⟩;erw[bh] at e;cases e;exact k _ _ _ Ext.refl r .non
theorem E7{x:Str}:PE X (.Constant (.str x) j pos) (SE X cl (aq C (.cst (.str x)))):=by
 refine PE.imp yo ?_;rintro Y H Q ⟨J,Z,m,w,a,r,l,e,k⟩;erw[bh] at e;cases e;exact k _ _ _ Ext.refl r (.str x)
theorem E8{x:Str}{w:W}(a:Gl X x)(h:∃u v,X.mg x=some u/\RelV v u/\∀J H,RW X.K J H w v)(b:(x==("__debug__":Str))=false):PE X (.Name x pos) (SE X cl (aq C (.cst w))):=by
 let⟨u,v,f,d,c⟩:=h;refine PE.imp (iJ a f d b) ?_;rintro Y H Q ⟨J,Z,m,w,g,r,l,e,k⟩;erw[bh] at e;cases e;exact k _ _ _ Ext.refl r (c _ _)
variable{a b c:Expr}{da db dc:E}
theorem E9{i:Operator}(I:PE X a (SE X cl (aq C da)))(G:PE X b (SE X cl (aq C db))):PE X (.BinOp a i b pos) (SE X cl (aq C (.bin i da db))):=by
 refine PE.imp (Kw (Hv (cl:=cl) i) I G) ?_;rintro Y H Q ⟨J,Z,m,w,F,r,l,e,k⟩;erw[cZ] at e;let⟨x,s,L,e⟩:=R.ah e;let⟨y,q,K,e⟩:=R.ah e;refine⟨J,Z,m,x,s,r,l,L,fun g S O o h B=>?_⟩;refine⟨g,Z,s,y,q,h,l.mono r o,K,fun f P N n p A=>?_⟩;exact⟨f,q,x,y,w,F,p,B.mono h n,A,e,fun d M v t u z=>k d M v ((o.trans h n).trans p t) u z⟩
theorem Fb{d:CmpOp}(G:UN X cl)(L:PE X a (SE X cl (aq C da)))(K:PE X b (SE X cl (aq C db)))(I:behindInMarks d b=false):PE X (.Compare a [d] [b] pos) (SE X cl (aq C (.cmp d da db))):=by
 refine PE.imp (uy (jC (cl:=cl) G d) L K I) ?_;rintro Y H Q ⟨J,Z,m,w,F,r,l,e,k⟩;erw[gp] at e;let⟨x,s,N,e⟩:=R.ah e;let⟨y,q,M,e⟩:=R.ah e;refine⟨J,Z,m,x,s,r,l,N,fun h U S o i B=>?_⟩;refine⟨h,Z,s,y,q,i,l.mono r o,M,fun g T P n p A=>?_⟩;exact⟨g,q,x,y,w,F,p,B.mono i n,A,e,fun f O v t u z=>k f O v ((o.trans i n).trans p t) u z⟩
theorem Fc{d:CmpOp}(G:UN X cl)(L:PE X a (SE X cl (aq C da)))(K:PE X b (SE X cl (aq C db)))(I:behindInMarks d b=false):PT X (.Compare a [d] [b] pos) (ST X cl (bq C (.cmp d da db))):=by
 refine PT.imp (uz (jC (cl:=cl) G d) L K I) ?_;rintro Y H Q ⟨J,Z,m,w,F,r,l,e,k⟩;erw[bO] at e;let⟨x,s,N,e⟩:=R.ah e;let⟨y,q,M,e⟩:=R.ah e;refine⟨J,Z,m,x,s,r,l,N,fun h U S o i B=>?_⟩;refine⟨h,Z,s,y,q,i,l.mono r o,M,fun g T P n p A=>?_⟩;refine⟨g,q,x,y,.bl w,F,p,B.mono i n,A,by rw[e];rfl,fun f O v t u z=>?_⟩;cases z;exact⟨w,rfl,k f O ((o.trans i n).trans p t) u⟩
theorem Lg(n:PE X a (SE X cl (aq C da))):PE X (.UnaryOp .USub a pos) (SE X cl (aq C (.neg da))):=by
 refine PE.imp (Ky GH n) ?_;rintro Y H Q ⟨J,Z,m,w,q,r,l,e,k⟩;erw[lD] at e;let⟨x,i,o,e⟩:=R.ah e;refine⟨J,Z,m,x,i,r,l,o,fun d s p f g h=>?_⟩;split at e
 .cases e;cases h;exact⟨_,rfl,k _ _ _ f g (.int _)⟩
 .cases e
theorem zD(n:PE X a (SE X cl (aq C da))):PE X (.UnaryOp .Not a pos) (SE X cl (aq C (.not da))):=by
 refine PE.imp (Gm n) ?_;rintro Y H Q ⟨J,Z,m,w,q,r,l,e,k⟩;erw[gC] at e;let⟨x,i,o,e⟩:=R.ah e;refine⟨J,Z,m,x,i,r,l,o,fun d s p f g h=>?_⟩;split at e
 .cases e;cases h;exact⟨_,rfl,k _ _ _ f g (.bl _)⟩
 .cases e
theorem zE(h:PT X a (ST X cl (bq C da))):PT X (.UnaryOp .Not a pos) (ST X cl (bq C (.not da))):=by
 refine PT.imp (Gj h) ?_;rintro Y H Q ⟨J,Z,m,w,o,r,l,e,k⟩;erw[dN] at e;let⟨x,n,i,e⟩:=R.ah e;cases e;exact⟨J,Z,m,x,_,r,l,i,fun d p f g=>k _ _ f g⟩
variable{rest:List Expr}
theorem Lh(v:PE X a (SE X cl (aq C da)))(u:PE X (.BoolOp .And (b::rest) pos) (SE X cl (aq C db))):PE X (.BoolOp .And (a::b::rest) pos) (SE X cl (aq C (.and da db))):=by
 refine PE.imp (Gk v u) ?_;rintro Y H Q ⟨J,Z,m,w,t,r,l,e,k⟩;erw[dM] at e;let⟨x,i,y,e⟩:=R.ah e;refine⟨J,Z,m,x,i,r,l,y,fun d F A f g s=>?_⟩;split at e
 .ext c;cases s;refine⟨c,rfl,?_⟩;split at e
  .ext h;rw[Rf h];exact⟨d,Z,i,w,t,g,l.mono r f,e,fun n B z o p q=>k _ _ _ (f.trans g o) p q⟩
  .ext h;rw[Ri h];cases e;exact k _ _ _ f g (.bl _)
 .cases e
theorem w_and(t:PT X a (ST X cl (bq C da)))(s:PW X (.BoolOp .And (b::rest) pos) (ST X cl (bq C db))):PW X (.BoolOp .And (a::b::rest) pos) (ST X cl (bq C (.and da db))):=by
 refine PW.imp (Gh t s) ?_;rintro Y H Q ⟨J,Z,m,w,q,r,l,e,k⟩;erw[jZ] at e;let⟨x,i,u,e⟩:=R.ah e;refine⟨J,Z,m,x,i,r,l,u,fun d y f g=>?_⟩;split at e
 .ext h;rw[Rf h];exact⟨d,Z,i,w,q,g,l.mono r f,e,fun n v o p=>k _ _ (f.trans g o) p⟩
 .ext h;rw[Ri h];cases e;exact k _ _ f g
theorem w_or(t:PT X a (ST X cl (bq C da)))(s:PW X (.BoolOp .Or (b::rest) pos) (ST X cl (bq C db))):PW X (.BoolOp .Or (a::b::rest) pos) (ST X cl (bq C (.or da db))):=by
 refine PW.imp (Kh t s) ?_;rintro Y H Q ⟨J,Z,m,w,q,r,l,e,k⟩;erw[iF] at e;let⟨x,i,u,e⟩:=R.ah e;refine⟨J,Z,m,x,i,r,l,u,fun d y f g=>?_⟩;split at e
 .ext h;rw[Rf h];cases e;exact k _ _ f g
 .ext h;rw[Ri h];exact⟨d,Z,i,w,q,g,l.mono r f,e,fun n v o p=>k _ _ (f.trans g o) p⟩
theorem nR{K:ae}{J:List Addr}{m d:Mem}{H:Hp}{w:W}{v:V}{b:Bool}(r:Rel K cl J m H)(q:RW K J H w v)(e:truthy m w=.ok b d):d=m/\Cb K v H b:=by
 cases q with
 |non=>cases e;exact⟨rfl,rfl⟩
 |bl c=>cases e;exact⟨rfl,rfl⟩
 |int i=>cases e;exact⟨rfl,rfl⟩
 |str x=>
  erw[truthy] at e;split at e
  .ext h;cases e;exact⟨rfl,Rv h cy,rfl⟩
  .cases e
 |tup h t=>
  cases e;refine⟨rfl,.inr (.inl ⟨_,h,?_⟩)⟩;cases t<;>rfl
 |fz h t=>
  cases e;refine⟨rfl,.inl ⟨_,h.l,?_⟩⟩;cases t<;>rfl
 |obj h o t=>cases e
 |ref h=>
  erw[truthy] at e;split at e
  .ext k g;cases e;let⟨a,n,z,f,t⟩:=r.getL (.ref h) g;cases z;refine⟨rfl,.inl ⟨_,f,?_⟩⟩;cases t<;>rfl
  .cases e
theorem Hx{i tb:TE}(r:PE X a i)(q:PE X (.BoolOp .Or (b::rest) pos) tb):PE X (.BoolOp .Or (a::b::rest) pos) (fun Y H Q=>i Y H λ x d=>∃k,Cb X.K x d k/\if k=true then Q x d else tb Y d Q):=by
 intro g s Y H Q I h;refine BoolOp_or (bF (r g s Y H _ I h) λ v o ⟨x,d,w,l,e⟩=>?_);let⟨k,p,e⟩:=e;refine bF (yz g o Y d x v (λ c f=>f=d/\c=k) w l ⟨k,p,rfl,rfl⟩) λ c n ⟨f,m,u,t⟩=>?_;subst u t;cases c with
 |false=>exact q g n Y f Q m e
 |true=>exact⟨x,f,m,l,e⟩
theorem Ob(y:PE X a (SE X cl (aq C da)))(v:PE X (.BoolOp .Or (b::rest) pos) (SE X cl (aq C db))):PE X (.BoolOp .Or (a::b::rest) pos) (SE X cl (aq C (.or da db))):=by
 refine PE.imp (Hx y v) ?_;rintro Y H Q ⟨J,Z,m,w,t,r,l,e,k⟩;erw[mH] at e;let⟨x,n,B,e⟩:=R.ah e;let⟨c,I,A,h⟩:=R.ah e;refine⟨J,Z,m,x,n,r,l,B,fun f L G g d i=>?_⟩;let⟨z,u⟩:=nR d i A;rw[z] at h;refine⟨c,u,?_⟩;cases c with
 |true=>
  cases h;exact k _ _ _ g d i
 |false=>
  exact⟨f,Z,n,w,t,d,l.mono r g,h,fun o K F p q s=>k _ _ _ (g.trans d p) q s⟩
theorem Fd(q:PE X a (SE X cl (aq C da)))(o:∀d,isTrue a X.env d=(do let v <-d;standAt a.pos;holding [v] (PySem.truthy v)))(p:∀Z m,bq C da Z m=(aq C da Z m).bind λ w m=>D.truthy m w):PT X a (ST X cl (bq C da)):=by
 refine PT.imp (yC q o) ?_;rintro Y H Q ⟨J,Z,m,w,u,r,l,e,k⟩;rw[p] at e;let⟨x,n,s,e⟩:=R.ah e;refine⟨J,Z,m,x,n,r,l,s,fun g y t h f i=>?_⟩;let⟨rfl,z⟩:=nR f i e;exact⟨w,z,k _ _ h f⟩
theorem Li{t:Expr}{u:E}(y:PT X t (ST X cl (bq C u)))(A:PE X a (SE X cl (aq C da)))(z:PE X b (SE X cl (aq C db))):PE X (.IfExp t a b pos) (SE X cl (aq C (.ife u da db))):=by
 refine PE.imp (yq y A z) ?_;rintro Y H Q ⟨J,Z,m,w,s,r,l,e,k⟩;erw[gq] at e;let⟨x,p,B,e⟩:=R.ah e;refine⟨J,Z,m,x,p,r,l,B,fun d G f g=>?_⟩;split at e
 .ext q;rw[Rf q];exact⟨d,Z,p,w,s,g,l.mono r f,e,fun h F v i n o=>k _ _ _ (f.trans g i) n o⟩
 .ext q;rw[Ri q];exact⟨d,Z,p,w,s,g,l.mono r f,e,fun h F v i n o=>k _ _ _ (f.trans g i) n o⟩
theorem C4{n i:CmpOp}(hu:UN X cl)(ha:PE X a (SE X cl (aq C da)))(hb:PE X b (SE X cl (aq C db)))(o:PE X c (SE X cl (aq C dc)))
  (h:PE X (.Compare a [n,i] [b,c] pos) (sJ (C0 X cl λ x y m=>(aE n x y m).bind λ c m=>.ok (.bl c) m) (C0 X cl λ x y m=>(aE i x y m).bind λ c m=>.ok (.bl c) m) (SE X cl (aq C da)) (SE X cl (aq C db)) (SE X cl (aq C dc)))) :
  PE X (.Compare a [n,i] [b,c] pos) (SE X cl (aq C (.chain n i da db dc))):=by
 refine PE.imp h ?_;rintro Y H Q ⟨J,Z,m,w,m',r,l,e,k⟩;erw[dg] at e;let⟨x,N,e1,e⟩:=R.ah e;let⟨y,M,e2,e⟩:=R.ah e;let⟨z,L,e3,e⟩:=R.ah e;refine⟨J,Z,m,x,N,r,l,e1,fun t H1 v1 B g q1=>?_⟩;refine⟨t,Z,N,y,M,g,l.mono r B,e2,fun s H2 v2 A f I=>?_⟩;have l2:=(l.mono r B).mono g A;refine⟨s,M,x,y,.bl z,L,f,q1.mono g A,I,by rw[e3];rfl,fun q H3 v3 v d W=>?_⟩;cases W;refine⟨z,rfl,?_⟩;have O:=(B.trans g A).trans f v;split at e
 .ext o;rw[Rf o];let⟨u,K,e4,e⟩:=R.ah e;refine⟨q,Z,L,u,K,d,l2.mono f v,e4,fun p H4 v4 F G V=>?_⟩;exact⟨p,K,y,u,w,m',G,(I.mono f v).mono d F,V,e,fun P H5 v5 S T U=>k _ _ _ ((O.trans d F).trans G S) T U⟩
 .ext o;rw[Ri o];cases e;exact k _ _ _ O d (.bl _)
theorem Fe:PA X [] (SA X cl (aS C .nil)):=by
 refine PA.imp cY ?_;rintro Y H Q ⟨J,Z,m,w,d,r,l,e,k⟩;erw[dG] at e;cases e;exact k _ _ _ Ext.refl r .nil
theorem tP{d:E}(v:PE X a (SE X cl (aq C d)))(u:PA X es (SA X cl (aS C ds)))(t:starEach (a::es) X.env=(false,eval a X.env)::starEach es X.env):PA X (a::es) (SA X cl (aS C (.cons d ds))):=by
 refine PA.imp (bI v u t) ?_;rintro Y H Q ⟨J,Z,m,w,I,r,l,e,k⟩;erw[dG] at e;let⟨x,n,A,e⟩:=R.ah e;let⟨y,G,z,e⟩:=R.ah e;cases e;refine⟨J,Z,m,x,n,r,l,A,fun f L F i g s=>?_⟩;exact⟨f,Z,n,y,_,g,l.mono r i,z,fun o K B h p q=>k _ _ _ (i.trans g h) p (.cons (s.mono g h) q)⟩
theorem Ff{d}(ha:PA X es (SA X cl (aS C ds))):PE X (.Tuple es d pos) (SE X cl (aq C (.tup ds))):=by
 refine PE.imp (yG ha) ?_;rintro Y H Q ⟨J,Z,m,w,v,r,l,e,k⟩;erw[bZ] at e;let⟨x,u,t,e⟩:=R.ah e;split at e
 .ext s;cases e;refine⟨J,Z,m,x,_,r,l,t,fun i y n d f h=>⟨by rw[<-h.length];exact Rv s cy,λ p q=>?_⟩⟩;let⟨g,o⟩:=f.pG q n;exact k _ _ _ (d.trans f g) o (.tup (.of aC) (h.mono f g))
 .cases e
theorem zF(s:PA X es (SA X cl (aS C ds))):PE X (.List es pos) (SE X cl (aq C (.lst ds))):=by
 refine PE.imp (GK s) ?_;rintro Y H Q ⟨J,Z,m,w,y,r,l,e,k⟩;erw[dX] at e;let⟨x,v,t,e⟩:=R.ah e;split at e
 .ext q;cases e;refine⟨J,Z,m,x,_,r,l,t,fun g z u i d f=>⟨by rw[<-f.length];exact Rv q cy,λ p o=>?_⟩⟩;let⟨h,n⟩:=d.newL o f;exact k _ _ _ (i.trans d h) n (.ref (d.last p))
 .cases e
theorem Lk(I:PE X a (SE X cl (aq C da)))(G:PE X b (SE X cl (aq C db)))(F:kD b):PE X (.Subscript a b pos) (SE X cl (aq C (.idx da db))):=by
 refine PE.imp (Ez (Hw (cl:=cl)) I G F) ?_;rintro Y H Q ⟨J,Z,m,w,B,r,l,e,k⟩;erw[bN] at e;let⟨x,q,L,e⟩:=R.ah e;let⟨y,p,K,e⟩:=R.ah e;refine⟨J,Z,m,x,q,r,l,L,fun g S O n h A=>?_⟩;refine⟨g,Z,q,y,p,h,l.mono r n,K,fun f P N i o z=>?_⟩;exact⟨f,p,x,y,w,B,o,A.mono h i,z,e,fun d M v s t u=>k d M v ((n.trans h i).trans o s) t u⟩
theorem Hy:PO X none (E4 X cl (qJ C .none)):=by
 refine PO.imp Co ?_;rintro Y H Q ⟨J,Z,m,w,d,r,l,e,k⟩;erw[EV] at e;cases e;exact k _ _ Ext.refl r
theorem Hz(n:PE X a (SE X cl (aq C da))):PO X (some a) (E4 X cl (qJ C (.some da))):=by
 refine PO.imp (Cp n) ?_;rintro Y H Q ⟨J,Z,m,w,q,r,l,e,k⟩;erw[EV] at e;let⟨x,i,o,e⟩:=R.ah e;refine⟨J,Z,m,x,i,r,l,o,fun d s p f g h=>?_⟩;split at e
 .cases e;cases h;exact⟨_,rfl,k _ _ f g⟩
 .cases e
theorem uX{K:ae}{J:List Addr}{H:Hp}{ws:List W}{vs:List V}{lo hi:Option Int}(t:aU K J H ws vs):aU K J H (gB ws lo hi) (oO vs lo hi):=by
 unfold gB oO;rw[<-t.length];exact(t.drop _).take _
theorem zG:KN X (λ x lo hi H Q=>∃J m n w G,Rel X.K cl J m H/\RW X.K J H n x/\dW n lo hi m=.ok w G/\∀P i v,Ext J H P i->Rel X.K cl P G i->RW X.K P i w v->Q v i):=by
 intro O s Y H x v u o lo hi y Q I z M F B h;let⟨J,m,n,w,G,r,q,e,k⟩:=h;unfold dW at e;split at e
 .cases e;cases q with
  |tup h t=>
   ext l a d
   by_cases g:HT.cF d.length 0 lo=0/\HT.cF d.length d.length hi=d.length
   .refine C3 O s Y H _ v u o lo hi y Q I z M F B ⟨_,_,rfl,h,g,k _ _ _ Ext.refl r ?_⟩;have:gB l lo hi=l:=by
     unfold gB;rw[t.length,g.1,g.2,<-t.length];simp
    rw[this];exact .tup h t
   .refine GN O s Y H _ v u o lo hi y Q I z M F B ⟨_,_,rfl,h,g,λ p N=>?_⟩;let⟨f,A⟩:=r.pG N (oO _ lo hi);exact k _ _ _ f A (.tup (.of aC) ((uX t).mono r f))
 .split at e
  .ext l R;cases e;let⟨a,d,rfl,L,t⟩:=r.getL q R;refine Ct O s Y H _ v u o lo hi y Q I z M F B ⟨_,_,rfl,L,λ p N=>?_⟩;let⟨f,A⟩:=r.newL N (uX t);exact k _ _ _ f A (.ref (r.last p))
  .cases e
theorem Ll{lo hi:Option Expr}{A B:Oe}{M:Pos}(S:PE X a (SE X cl (aq C da)))(O:PO X lo (E4 X cl (qJ C A)))(P:PO X hi (E4 X cl (qJ C B))):PE X (.Subscript a (.Slice lo hi none M) pos) (SE X cl (aq C (.slc da A B))):=by
 refine PE.imp (qu (zG (cl:=cl)) S O P) ?_;rintro Y H Q ⟨J,Z,m,w,N,r,l,e,k⟩;erw[fK] at e;let⟨x,u,V,e⟩:=R.ah e;let⟨y,t,U,e⟩:=R.ah e;let⟨z,s,T,e⟩:=R.ah e;refine⟨J,Z,m,x,u,r,l,V,fun h H1 W n d L=>?_⟩;refine⟨h,Z,u,y,t,d,l.mono r n,U,fun g H2 i o=>?_⟩;refine⟨g,Z,t,z,s,o,(l.mono r n).mono d i,T,fun f H3 p q=>?_⟩;exact⟨f,s,x,w,N,q,(L.mono d i).mono o p,e,fun F H4 v G I K=>k _ _ _ (((n.trans d i).trans o p).trans q G) I K⟩
end
end D
namespace D
open PySem PySem.Spec PyProof.Rows L2 PySem.W List
def Qu(K:ae)(H:Hp)(v:V)(ns:List Int):Prop:=∃a,v=.ref a/\dw K H a (ns.map V.int)
end D
namespace L2
open PySem PySem.Spec PyProof.Rows List
variable{h:Heap}
section
variable{X:Cx}
structure HA(K:ae)(C:Addr):Prop where
 cls:wH K C
 ha:PySem.W.findIn K (.ref C) "__class__"=@(some (.builtin "object.__class__"))
 hn:PySem.W.specialIn K (.builtin "object.__class__") "__get__"=@(some (.builtin "getset_descriptor.__get__"))
 htk:PySem.W.takesIn K (.builtin "object.__class__")=some true
 hm:PySem.W.mroIn K C (.type "object")=some true
end
section
variable{X:Cx}
theorem zH{a:Addr}{its:Array Value}(p:PlainL h a its):∃n b,h.get? a=some {cls:=.type "list",dict:=none,data:=.seq its n,slots:=b}:=by
 let⟨o,n,e,f,d,c⟩:=p;refine⟨n,o.slots,?_⟩;rw[e];cases o;subst f d c;rfl
def zI(K:ae):V->List V->Hp->VK->Prop:=λ x b H Q=>∃l a y j,x=.ref l/\b=[y]/\fS K H l a/\fH y=true/\a.all fH=true/\j<1000000/\(∃z,a[j]?=some z/\qA z y=true)/\(∀m z,m<j->a[m]?=some z->qA z y=false)/\Q (.int (j:Nat)) H
theorem zJ:EA X "list.index" (zI X.K):=by
 intro aa s Y H x Z v us Q I G J h;let⟨l,d,y,j,rfl,rfl,P,R,B,h6,⟨D,o,k⟩,N,q⟩:=h;cases G;let⟨u,rfl,L⟩:=J.one;let⟨a,r,M,hz⟩:=I.list P;let⟨n,E,e⟩:=zH M;have c:∀(i:Nat) (x:V),d[i]?=some x->∃w,a[i]?=some w/\GU y w=qA x y:=λ i x A=>by
  let⟨w,b,f⟩:=r.get A;exact⟨w,b,sX f (RI.mp B x (RP A))⟩
 let⟨W,p,U⟩:=c j D o;let⟨O,T⟩:=Q4.mp p;have g:=r.length;refine T8 F.slot_list_index ⟨_,e,rfl⟩ F.entry_list_index (F.args_list_index_2 _ _) (SeqAt.list_indexAt l a.toArray n none E u (GU y) j (~~~O) 'o' (by simp[T,U,k]) (λ m t z=>?_)) ⟨e,λ w b=>iO L R r B w (~~~b),?_⟩
 .have C:m<d.length:=by rw[g];simpa using t
  let⟨w,b,S⟩:=c m d[m] (by simp[C]);have:a.toArray[m]=w:=by
   let⟨_,q⟩:=Q4.mp b;simpa using q
  rw[this,S];exact N m d[m] z (by simp[C])
 .exact⟨.int _,H,I.tok _,⟨_,rfl⟩,q⟩
def C5(K:ae):V->List V->Hp->VK->Prop:=λ x b H Q=>∃l a y,x=.ref l/\b=[y]/\fS K H l a/\fH y=true/\a.all fH=true/\Q (.int (a.countP λ z=>qA z y)) H
theorem nU:EA X "list.count" (C5 X.K):=by
 intro A s Y H x p v t Q I d f h;let⟨l,o,y,rfl,rfl,k,m,b,q⟩:=h;cases d;let⟨u,rfl,g⟩:=f.one;let⟨a,r,i,z⟩:=I.list k;let⟨n,c,e⟩:=zH i;refine T8 F.slot_list_count ⟨_,e,rfl⟩ F.entry_list_count (F.args_list_count_2 _ _) (SeqAt.list_countAt l a.toArray n none c u (GU y)) ⟨e,λ w j=>iO g m r b w (~~~j),?_⟩;refine⟨.int _,H,I.tok _,⟨_,rfl⟩,?_⟩;rw[show a.toArray.toList=a by simp,jo r b];exact q
end
theorem xE{prog:Program}{w:World}{K:ae}{a:Addr}{es:Array DictEntry}{n:Nat}(X:K.In h)(g:K.lookup a=some ⟨.type "dict",none,.dict es n,#[]⟩)(p:PySem.W.KeysLit w.params es.toList) :
  h.MapOf (aW prog w) a (λ k=>match k with
   |.inl _=>none
   |.inr z=>findBy Value.isStrOf es z):=by
 let⟨o,s,v,l,r,q,j,u⟩:=U8 (prog:=prog) X g p;have m:=X _ _ g;rw[m] at l;cases l;cases q;refine⟨_,es,n,m,r,rfl,λ e f=>?_,λ k=>?_⟩
 .let⟨z,b,c⟩:=j e f;let⟨t,d⟩:=Uj (x:=z) b;exact⟨.inr z,by rw[d];exact jS prog w z t,c⟩
 .cases k with
  |inl i=>
   have:es.find? (λ e=>(aW prog w).is (.inl i) e.key)=none:=by
    rw[Array.find?_eq_none];intro e f;let⟨z,b,_⟩:=j e f;let⟨t,d⟩:=Uj (x:=z) b;rw[d];exact R4
   show (es.find? (λ e=>(aW prog w).is (.inl i) e.key)).map (·.val)=none;rw[this];rfl
  |inr z=>
   show (es.find? λ e=>(aW prog w).is (.inr z) e.key).map (·.val)=(es.find? λ e=>Value.isStrOf z e.key).map (·.val);congr 2
section
variable{X:Cx}
theorem iz:fU X (compareOp .NotIn) (λ x y H Q=>∃i a b,x=.int i/\y=.ref a/\L2.TopD X.K X.w a b/\Q (.bl true) H):=by
 intro k s Y H x y v u Q I d c h;let⟨i,a,b,rfl,rfl,T,q⟩:=h;let⟨t,rfl⟩:=d;cases c;let⟨j,n,f,e,g⟩:=T.ex;exact Ve (jR X.prog X.w i t) T.lo (xE (prog:=X.prog) I.cQ f e) ⟨.bl _,H,I.tok _,rfl,q⟩
theorem nV{a:Value->Value->Sem Value}{e d:R2}(i:fU X a e)(g:fU X a d):fU X a (λ x y H Q=>e x y H Q\/d x y H Q):=λ f s Y H x y v u Q I c b h=>by
 rcases h with h | h
 .exact i f s Y H x y v u Q I c b h
 .exact g f s Y H x y v u Q I c b h
end
section
variable{prog:Program}{w:World}{A:Around}{E:Value->Shared->Prop}{s:Shared}{l:Addr}{xs:Array (Int×Tok)}
theorem zK(d:s.heap.IsTuple l (intItems xs)):∀b∈[s⁻¹,l],b<(s.heap.push {cls:=.type "tuple_iterator",data:=.fields #[.ref l,.int 0 0]}).objs.size:=λ b a=>by
 have c:l<s⁻¹:=by let⟨_,e,_⟩:=d;exact Q6 e
 rw[R7];rcases Rk.mp a with rfl | a
 .exact SR _
 .rcases Rk.mp a with rfl | a
  .exact Su c
  .cases a
theorem uY{h':Heap}(c:∀b o,b∉[s⁻¹]->(s.heap.push {cls:=.type "tuple_iterator",data:=.fields #[.ref l,.int 0 0]}).get? b=some o->h'.get? b=some o) :
  ∀b o,s.heap.get? b=some o->h'.get? b=some o:=λ b o e=>by
 refine c b o (λ a=>?_) (Q3 _ e);rcases Rk.mp a with d | a
 .exact absurd (d▸Q6 e) (SQ _)
 .cases a
theorem tQ{Q:Value->Shared->Prop}(g:A.handled=none)(a:s.heap.IsTuple l (intItems xs))(c:0<xs.size)
  (h:∀v h' tk,(intItems xs)[argBest (λ i j=>decide (numAt xs i<numAt xs j)) (xs.size - 1)]?=some v->(∀b o,s.heap.get? b=some o->h'.get? b=some o)->Q v {s with heap:=h',toks:=tk}) :
  wpAny (model prog w) A (call (.builtin "min") [.ref l]) Q E s:=by
 have d:l<s⁻¹:=by let⟨_,e,_⟩:=a;exact Q6 e
 refine call_min_walk (SV a ?_);refine⟨_,_,_,_,_,_,_,rfl,Walks.tuple (A:=A.in1) g _ l (Rb d) (intItems xs),⟨⟨_,Ra _ rfl,rfl,rfl⟩,a.push _⟩,zK a,by simpa[intItems] using c,CmpOf.ints_lt (numAt xs) (λ _ _=>Vf),λ v h' tk k f=>?_⟩;exact h v h' tk (by simpa[intItems] using k) (uY f)
theorem tR{Q:Value->Shared->Prop}(g:A.handled=none)(a:s.heap.IsTuple l (intItems xs))(c:0<xs.size)
  (h:∀v h' tk,(intItems xs)[argBest (λ i j=>decide (numAt xs i>numAt xs j)) (xs.size - 1)]?=some v->(∀b o,s.heap.get? b=some o->h'.get? b=some o)->Q v {s with heap:=h',toks:=tk}) :
  wpAny (model prog w) A (call (.builtin "max") [.ref l]) Q E s:=by
 have d:l<s⁻¹:=by let⟨_,e,_⟩:=a;exact Q6 e
 refine call_max_walk (SV a ?_);refine⟨_,_,_,_,_,_,_,rfl,Walks.tuple (A:=A.in1) g _ l (Rb d) (intItems xs),⟨⟨_,Ra _ rfl,rfl,rfl⟩,a.push _⟩,zK a,by simpa[intItems] using c,CmpOf.ints_gt (numAt xs) (λ _ _=>Vf),λ v h' tk k f=>?_⟩;exact h v h' tk (by simpa[intItems] using k) (uY f)
end
section
variable{X:Cx}
theorem iX{ns:List Int}{xs:Array (Int×Tok)}(a:ns=xs.toList.map (·.1))(i:Nat):numAt xs i=ns.getD i 0:=by
 subst a;simp[numAt,Rq,Td]
theorem xF(A:X.calm=true):cj X (.builtin "min") (λ xs H Q=>∃(a:Addr) (ns:List Int),xs=[.ref a]/\dw X.K H a (ns.map V.int)/\ns≠[]/\∀M,M∈ns->(∀b∈ns,M<=b)->Q (.int M) H):=by
 intro L s Y H xs D Q I r h;let⟨a,ns,rfl,x,k,q⟩:=h;let⟨u,rfl,o⟩:=vals1 r;cases o;let⟨f,l,w,F⟩:=I.tuple x;let⟨d,e⟩:=(intsAre_of l).allInts.items;have c:ns=d.toList.map (·.1):=by rw[<-(intsAre_of l).numsOf,<-nums_intItems,<-e]
 have i:0<d.size:=by
  have n:=List.length_pos_iff.mpr k;rw[c,Rn,Sv] at n;exact n
 have g:s.heap.IsTuple a (intItems d):=by
  have:s.heap.IsTuple a f.toArray:=w;rw[e] at this;exact this
 refine tQ (I.ok.hd A) g i λ v J E p y=>?_;let⟨t,rfl⟩:=Vf p;let⟨G,C⟩:=argBest_lt (numAt d) (d.size - 1);have m:ns.length=d.size:=by rw[c,Rn,Sv]
 refine⟨.int _,H,I.kept y,⟨_,rfl⟩,q _ ?_ λ b B=>?_⟩
 .rw[iX c,Rq,Rj (by omega)];exact RK _
 .let⟨j,z,rfl⟩:=Ug.mp B;have:=C j (by omega);rw[iX c j,Rq,Rj z] at this;exact this
theorem xG(A:X.calm=true):cj X (.builtin "max") (λ xs H Q=>∃(a:Addr) (ns:List Int),xs=[.ref a]/\dw X.K H a (ns.map V.int)/\ns≠[]/\∀M,M∈ns->(∀b∈ns,b<=M)->Q (.int M) H):=by
 intro L s Y H xs D Q I r h;let⟨a,ns,rfl,x,k,q⟩:=h;let⟨u,rfl,o⟩:=vals1 r;cases o;let⟨f,l,w,F⟩:=I.tuple x;let⟨d,e⟩:=(intsAre_of l).allInts.items;have c:ns=d.toList.map (·.1):=by rw[<-(intsAre_of l).numsOf,<-nums_intItems,<-e]
 have i:0<d.size:=by
  have n:=List.length_pos_iff.mpr k;rw[c,Rn,Sv] at n;exact n
 have g:s.heap.IsTuple a (intItems d):=by
  have:s.heap.IsTuple a f.toArray:=w;rw[e] at this;exact this
 refine tR (I.ok.hd A) g i λ v J E p y=>?_;let⟨t,rfl⟩:=Vf p;let⟨G,C⟩:=argBest_gt (numAt d) (d.size - 1);have m:ns.length=d.size:=by rw[c,Rn,Sv]
 refine⟨.int _,H,I.kept y,⟨_,rfl⟩,q _ ?_ λ b B=>?_⟩
 .rw[iX c,Rq,Rj (by omega)];exact RK _
 .let⟨j,z,rfl⟩:=Ug.mp B;have:=C j (by omega);rw[iX c j,Rq,Rj z] at this;exact this
end
section
variable{X:Cx}
theorem HB{a:Addr}{its:Array Value}(p:IsTup h a its):∃n f b,h.get? a=some {cls:=.type "tuple",dict:=f,data:=.seq its n,slots:=b}:=by
 let⟨o,e,d,n,c⟩:=p;refine⟨n,o.dict,o.slots,?_⟩;rw[e];cases o;subst d c;rfl
def C6(K:ae):V->List V->Hp->VK->Prop:=λ x b H Q=>∃l a y,x=.ref l/\b=[y]/\dw K H l a/\fH y=true/\a.all fH=true/\Q (.int (a.countP λ z=>qA z y)) H
theorem nW:EA X "tuple.count" (C6 X.K):=by
 intro B s Y H x t v z Q I d f h;let⟨l,p,y,rfl,rfl,k,m,b,q⟩:=h;cases d;let⟨u,rfl,g⟩:=f.one;let⟨a,r,i,A⟩:=I.tuple k;let⟨n,o,c,e⟩:=HB i;refine T8 F.slot_tuple_count ⟨_,e,rfl⟩ F.entry_tuple_count (F.args_tuple_count_2 _ _) (SeqAt.tuple_countAt l a.toArray n o c u (GU y)) ⟨e,λ w j=>iO g m r b w (~~~j),?_⟩;refine⟨.int _,H,I.tok _,⟨_,rfl⟩,?_⟩;rw[show a.toArray.toList=a by simp,jo r b];exact q
end
section
variable{X:Cx}{e st:Expr}{te ts:TE}{p2 pos:Pos}
theorem zL(its:List Value):slicePick its.toArray none none (some 1)=its.toArray:=by
 have h:slicePick its.toArray none none (some 1)=slicePick its.toArray none none none:=rfl;rw[h,ie];simp[HT.cF]
def Oc(K:ae)(te ts:TE):TE:=fun Y H Q=>te Y H λ x d=>ts Y d λ y c=>∃a b k,x=.ref a/\y=.int k/\fS K c a b/\(k=1\/k=-1)/\∀p,c p=none->Q (.ref p) (upd c p (.lst (if k=1 then b else b.reverse)))
theorem HC(G:PE X e te)(g:PE X st ts):PE X (.Subscript e (.Slice none none (some st) p2) pos) (Oc X.K te ts):=by
 intro f s Y H Q I h;refine Subscript_ (bF (G f s Y H _ I h) λ v u ⟨x,N,L,B,D⟩=>?_);refine wpAny_Slice ?_;rw[Vl];refine Q8 (Q8 ?_);rw[evalPart_some];refine bF (g f u Y N _ L D) λ O c ⟨y,M,J,z,C⟩=>?_;let⟨a,i,k,rfl,rfl,F,p,q⟩:=C;let⟨t,rfl⟩:=z;cases B;have d:Inv X f Y M {c with heap:=c.heap.push {cls:=.type "slice",data:=.fields #[.none,.none,.int k t]}}:=J.kept (t':=c.toks) λ b j q=>Q3 _ q;show wpAny (model X.prog X.w) X.A (subscriptTail e (.Slice none none (some st) p2) (.ref a) (.ref c⁻¹)) (EP X f Y Q) X.xe {c with heap:=c.heap.push {cls:=.type "slice",data:=.fields #[.none,.none,.int k t]}};let⟨E,r,m,l⟩:=d.list F;have n:=r.length;refine tail_any (ops:=[.ref a,.ref c⁻¹]) m.isList.typeIs slot_list_getitem.lookup ?_ (by with_unfolding_all rfl);refine UJ (st:=some k) m.isList (Heap.IsSliceOf.new ..) .none .none (.int k t) (by rcases p with rfl | rfl<;>simp) ?_ (by rw[Q9]<;>lia);rcases p with rfl | rfl
 .rw[zL];exact⟨.ref _,_,d.laid (t':=c.toks) (o:=.lst i) (λ b j q=>Q3 _ q) (Q7 _) ⟨l,_,0,r,Ra _ rfl⟩,rfl,q _ (d.hok.fresh (Q7 _))⟩
 .rw[zo];exact⟨.ref _,_,d.laid (t':=c.toks) (o:=.lst i.reverse) (λ b j q=>Q3 _ q) (Q7 _) ⟨by rw[length_reverse];exact l,_,0,r.rev,Ra _ rfl⟩,rfl,q _ (d.hok.fresh (Q7 _))⟩
end
end L2
namespace D
open PySem PySem.Spec PyProof.Rows L2 List
variable{C:D.Cx}{Dd:Ends}{H H' H0:Hp}{K:ae}{P:Program}{Q:VK}{b e elt iter o target tg:Expr}{c y:Str}{d da db:E}{di ds:Es}{dx fa:Addr}{env:Env}{es ifs:List Expr}{f:Expr->Option E}{fl:F}{gens:List Comprehension}{gs:List (Str×V)}{i n np:Nat}{id:String}{it:Value}{m m' m2:Mem}{p p2 pos pp px py spos:Pos}{aa:List (Addr×Obj)}{rest:G}{s:Shared}{scope:Scope}{st:Stmt}{v:V}{vs:List V}{w:W}{ws:List W}{J J' β0:List Addr}{Z:D.Loc}{Y:L2.St}
section
variable{X:L2.Cx}{cl:Cl}{C:D.Cx}{pos:Pos}
theorem zM(a:List Bool):((List.range a.length).any λ i=>a.getD i true)=a.any _root_.id:=by
 have e:∀(f g:Nat->Bool) (l:List Nat),(∀i∈l,f i=g i)->l.any f=l.any g:=λ f g l h=>by
  induction l with
  |nil=>rfl
  |cons x r j=>rw[TZ,TZ,h x RG,j λ i k=>h i (Ro _ k)]
 induction a with
 |nil=>rfl
 |cons b r j=>
  rw[RD,range_succ_eq_map,TZ,any_map,TZ];have:((List.range r.length).any ((λ i=>(b::r).getD i true)∘Nat.succ))=((List.range r.length).any λ i=>r.getD i true):=e _ _ _ λ i _=>by simp
  rw[this,j];rfl
theorem zN(hh:X.A.handled=none):cj X (.builtin "any") (λ xs H Q=>∃(p:Addr) (a:List Bool),xs=[.ref p]/\fS X.K H p (a.map V.bl)/\Q (.bl (a.any _root_.id)) H):=by
 intro aa s Y H xs us Q I r h;let⟨p,a,rfl,U,q⟩:=h;let⟨u,rfl,R⟩:=vals1 r;cases R;let⟨g,B,T,hz⟩:=I.list U;have x:=T.isList;have t:p<s⁻¹:=by let⟨_,e,_⟩:=x;exact Q6 e
 have k:=B.length;rw[Rn] at k;refine call_any_walk (TV x ?_);refine⟨_,_,_,_,_,_,(λ i=>a.getD i true),rfl,Walks.list (A:=X.A.in1) hh s⁻¹ p (Rb t) g.toArray,⟨⟨_,Ra _ rfl,rfl,rfl⟩,x.push _⟩,?_,?_⟩
 .intro i v s' Q' E' l j;have l:g[i]?=some v:=by simpa using l
  have hi:i<g.length:=(Q4.mp l).1;have M:i<a.length:=by lia
  have e:(a.map V.bl)[i]?=some (V.bl (a[i])):=by simp[M]
  let⟨u,L,S⟩:=B.get e;rw[l] at L;cases L;cases S;have:a.getD i true=a[i]:=by simp[List.getD,M]
  dsimp only at j;rw[this] at j;exact Se j
 .intro h' O hk;have e:((List.range g.toArray.size).any λ i=>a.getD i true)=a.any _root_.id:=by
   rw[Q9,<-k];exact zM a
  rw[e];refine⟨.bl _,H,I.kept (t':=O) λ b o N=>hk b o (λ z=>?_) (Q3 _ N),rfl,q⟩;rw[RZ] at z;exact Rb (Q6 N) z
def zO:B->Value
 |.len=>.builtin "len" |.abs=>.builtin "abs" |.max=>.builtin "max" |.min=>.builtin "min" |.divmod=>.builtin "divmod" |.all=>.builtin "all" |.any=>.builtin "any"
 |.list=>.type "list" |.tuple=>.type "tuple" |.int=>.type "int" |.sorted=>.builtin "sorted" |.sum=>.builtin "sum" |.repr=>.builtin "repr" |.str=>.type "str" |.dum=>.builtin "repr"
theorem fm(h:aU K J H [w] vs):∃v,vs=[v]/\RW K J H w v:=by
 cases h with
 |cons q t=>cases t;exact⟨_,rfl,q⟩
theorem C7{g:W}(h:aU K J H [w,g] vs):∃v a,vs=[v,a]/\RW K J H w v/\RW K J H g a:=by
 cases h with
 |cons q t=>let⟨a,rfl,j⟩:=fm t;exact⟨_,_,rfl,q,j⟩
theorem aU.tups:∀{ws:List W} {vs:List V} {g:List (List Int)},aU K J H ws vs->eO za ws=some g->Paired (Qu K H) vs g
 |_,_,_,.nil,h=>by cases h;exact .nil
 |_,_,_,.cons (w:=w) q t,h=>by
  erw[eO] at h;split at h
  .cases h
  .ext d a;split at h
   .cases h
   .ext ds j;cases h;refine .cons ?_ (t.tups j);cases w with
    |tup xs=>
     cases q with
     |tup hs t'=>
      have:=t'.cG a;subst this;exact⟨_,rfl,hs⟩
    |_=>cases a
theorem zP{M n:Int}{r:List Int}(t:M∈n::r)(q:∀b∈n::r,b<=M):M=r.foldl max n:=by
 have g:∀(r:List Int) (n:Int),(∀b∈n::r,b<=r.foldl max n)/\r.foldl max n∈n::r:=by
  intro r
  induction r with
  |nil=>intro n;exact⟨λ b a=>by rw[RZ] at a;subst a;exact Int.le_refl _,TJ.mpr rfl⟩
  |cons x r k=>
   intro n;let⟨j,l⟩:=k (max n x);rw[Vo];have A:=j (max n x) RG;refine⟨λ b a=>?_,?_⟩
   .rcases Rk.mp a with rfl | a
    .lia
    .rcases Rk.mp a with rfl | a
     .lia
     .exact j b (Ro _ a)
   .rcases Rk.mp l with e | e
    .rw[e]
     by_cases h:n<=x
     .rw[Int.max_eq_right h];exact Ro _ RG
     .rw[Int.max_eq_left 'o'];exact RG
    .exact Ro _ (Ro _ e)
 let⟨z,u⟩:=g r n;have:=z M t;have:=q _ u;lia
theorem zQ{M n:Int}{r:List Int}(t:M∈n::r)(q:∀b∈n::r,M<=b):M=r.foldl min n:=by
 have g:∀(r:List Int) (n:Int),(∀b∈n::r,r.foldl min n<=b)/\r.foldl min n∈n::r:=by
  intro r
  induction r with
  |nil=>intro n;exact⟨λ b a=>by rw[RZ] at a;subst a;exact Int.le_refl _,TJ.mpr rfl⟩
  |cons x r k=>
   intro n;let⟨j,l⟩:=k (min n x);rw[Vo];have A:=j (min n x) RG;refine⟨λ b a=>?_,?_⟩
   .rcases Rk.mp a with rfl | a
    .lia
    .rcases Rk.mp a with rfl | a
     .lia
     .exact j b (Ro _ a)
   .rcases Rk.mp l with e | e
    .rw[e]
     by_cases h:n<=x
     .rw[Int.min_eq_left h];exact RG
     .rw[Int.min_eq_right 'o'];exact Ro _ RG
    .exact Ro _ (Ro _ e)
 let⟨z,u⟩:=g r n;have:=z M t;have:=q _ u;lia
set_option maxHeartbeats 2000000 in
theorem zR(hu:UN X cl)(T:X.calm=true)(hh:X.A.handled=none)(b:B):cj X (zO b) (Py X cl (bA b)):=by
 intro aa s Y H xs l Q I u h;let⟨J,m,ws,w,m',r,q,e,k⟩:=h;unfold bA at e;split at e
 .split at e
  .
   split at e
   .split at e
    .ext hl;cases e;let⟨v,rfl,g⟩:=fm q;cases g;exact oV aa s Y H _ l Q I u ⟨_,rfl,Rv hl cy,k _ _ _ Ext.refl r (.int _)⟩
    .cases e
   .split at e
    .ext S x;cases e;let⟨v,rfl,g⟩:=fm q;let⟨a,vs,rfl,j,t⟩:=r.bS g x;exact oU aa s Y H _ l Q I u ⟨_,_,rfl,j,k _ _ _ Ext.refl r (by rw[<-t.length];exact .int _)⟩
    .cases e
  .cases e
 .split at e
  .
   cases e;let⟨v,rfl,g⟩:=fm q;cases g;exact yD aa s Y H _ l Q I u ⟨_,rfl,k _ _ _ Ext.refl r (.int _)⟩
  .cases e
 .split at e
  .cases e;let⟨v,v',rfl,g,L⟩:=C7 q;cases g;cases L;exact wD T aa s Y H _ l Q I u ⟨_,_,rfl,k _ _ _ Ext.refl r (.int _)⟩
  .split at e
   .ext x;cases e;let⟨v,rfl,g⟩:=fm q;cases g with
    |tup j t=>
     have z:=t.cG x;subst z;refine xG T aa s Y H _ l Q I u ⟨_,_,rfl,j,by simp,λ M h1 U=>?_⟩;rw[zP h1 U];exact k _ _ _ Ext.refl r (.int _)
   .cases e
  .cases e
 .split at e
  .cases e;let⟨v,v',rfl,g,L⟩:=C7 q;cases g;cases L;exact wF T aa s Y H _ l Q I u ⟨_,_,rfl,k _ _ _ Ext.refl r (.int _)⟩
  .split at e
   .ext x;cases e;let⟨v,rfl,g⟩:=fm q;cases g with
    |tup j t=>
     have z:=t.cG x;subst z;refine xF T aa s Y H _ l Q I u ⟨_,_,rfl,j,by simp,λ M h1 U=>?_⟩;rw[zQ h1 U];exact k _ _ _ Ext.refl r (.int _)
   .cases e
  .cases e
 .split at e
  .split at e
   .ext hd;cases e;let⟨v,v',rfl,g,L⟩:=C7 q;cases g;cases L;refine qj aa s Y H _ l Q I u ⟨_,_,rfl,hd,λ p R=>?_⟩;let⟨N,O⟩:=r.pG R [.int _,.int _];exact k _ _ _ N O (.tup (.of aC) %[.int _,|.int _])
   .cases e
  .cases e
 .split at e
  .
   split at e
   .ext S x;split at e
    .ext bs e2;cases e;let⟨v,rfl,g⟩:=fm q;let⟨a,vs,rfl,j,t⟩:=r.getL g x;have z:=t.bools e2;subst z;exact yT hh aa s Y H _ l Q I u ⟨_,_,rfl,j,k _ _ _ Ext.refl r (.bl _)⟩
    .cases e
   .cases e
  .cases e
 .split at e
  .split at e
   .ext S x;split at e
    .ext bs e2;cases e;let⟨v,rfl,g⟩:=fm q;let⟨a,vs,rfl,j,t⟩:=r.getL g x;have z:=t.bools e2;subst z;exact zN hh aa s Y H _ l Q I u ⟨_,_,rfl,j,k _ _ _ Ext.refl r (.bl _)⟩
    .cases e
   .cases e
  .cases e
 .split at e
  .
   split at e
   .ext S x;cases e;let⟨v,rfl,g⟩:=fm q;let⟨a,vs,rfl,j,t⟩:=r.bS g x;refine oW aa s Y H _ l Q I u ⟨_,_,rfl,j,λ p R=>?_⟩;let⟨N,O⟩:=r.newL R t;exact k _ _ _ N O (.ref (r.last p))
   .cases e
  .cases e
 .split at e
  .split at e
   .ext S x;cases e;let⟨v,rfl,g⟩:=fm q;let⟨a,vs,rfl,j,t⟩:=r.bS g x;refine mD aa s Y H _ l Q I u ⟨_,vs,rfl,?_⟩;rcases j with j | j
    .refine .inl ⟨j,λ p R=>?_⟩;let⟨N,O⟩:=r.pG R vs;exact k _ _ _ N O (.tup (.of aC) (t.mono r N))
    .exact .inr ⟨j,k _ _ _ Ext.refl r (.tup j t)⟩
   .cases e
  .cases e
 .split at e
  .cases e;let⟨v,rfl,g⟩:=fm q;cases g;exact mU aa s Y H _ l Q I u (.inl ⟨_,rfl,k _ _ _ Ext.refl r (.int _)⟩)
  .cases e;let⟨v,rfl,g⟩:=fm q;cases g;exact mU aa s Y H _ l Q I u (.inr ⟨_,rfl,k _ _ _ Ext.refl r (.int _)⟩)
  .cases e
 .cases e
theorem zS{x:Str}{b:B}{a:Expr}(S:UN X cl)(hc:X.calm=true)(hh:X.A.handled=none)(hb:zO b=.builtin id)(hg:Gl X x)(U:X.mg x=none)(O:bootBuiltins x=@(.builtin id))(ha:PA X (a::es) (SA X cl (aS C ds)))
  (T:x≠"__name__") (j:(x==("__debug__":Str))=false) (he:starEach (a::es) X.env=(false,eval a X.env)::starEach es X.env) (h:(backTo pos (starEach es X.env)).any (·.1)=false):PE X (.Call (.Name x p) (a::es) [] pos) (SE X cl (aq C (.blt b ds))):=by
 refine PE.imp (gA (hb▸zR (cl:=cl) S hc hh b) hg U O ha T j he h) ?_;rintro Y H Q ⟨J,Z,m,w,m',r,l,e,k⟩;erw[cU] at e;let⟨x,t,e1,e⟩:=R.ah e;exact⟨J,Z,m,x,t,r,l,e1,fun g H1 v1 I q N=>⟨g,t,x,w,m',q,N,e,fun u H2 v2 z L M=>k _ _ _ (I.trans q z) L M⟩⟩
theorem zT{x:Str}{b:B}{a:Expr}(S:UN X cl)(hc:X.calm=true)(hh:X.A.handled=none)(hb:zO b=.type id)(hg:Gl X x)(U:X.mg x=none)(O:bootBuiltins x=@(.type id))(ha:PA X (a::es) (SA X cl (aS C ds)))
  (T:x≠"__name__") (j:(x==("__debug__":Str))=false) (he:starEach (a::es) X.env=(false,eval a X.env)::starEach es X.env) (h:(backTo pos (starEach es X.env)).any (·.1)=false):PE X (.Call (.Name x p) (a::es) [] pos) (SE X cl (aq C (.blt b ds))):=by
 refine PE.imp (m7 (hb▸zR (cl:=cl) S hc hh b) hg U O ha T j he h) ?_;rintro Y H Q ⟨J,Z,m,w,m',r,l,e,k⟩;erw[cU] at e;let⟨x,t,e1,e⟩:=R.ah e;exact⟨J,Z,m,x,t,r,l,e1,fun g H1 v1 I q N=>⟨g,t,x,w,m',q,N,e,fun u H2 v2 z L M=>k _ _ _ (I.trans q z) L M⟩⟩
theorem Rel.zU(r:Rel K cl J m H){p:Addr}(a:H p=none)(o:HO):Ext J H J (upd H p o)/\Rel K cl J m (upd H p o):=by
 have x:Ext J H J (upd H p o):=⟨⟨[],by simp,by simp⟩,λ h _ _=>by rw[ao (aB h a)];exact h⟩;refine⟨x,r.len,r.nd,λ j g=>?_⟩;have q:=r.obj j g;let⟨u,e,_⟩:=q.ex;exact q.mono r x (ao (aB e a))
def cD:List String:=["int","bool","str","list","tuple","dict","NoneType"]
theorem tS(K:ae):∀t∈cD,∀c∈cD,PySem.W.kitOne K (.type t) (.type c)=some (t==c||(t=="bool"&&c=="int")):=by
 intro t a c g;erw[cD,RM,Rx,R0] at a g;rcases a with rfl | rfl | rfl | rfl | rfl | rfl | rfl<;>rcases g with rfl | rfl | rfl | rfl | rfl | rfl | rfl<;>with_unfolding_all rfl
theorem zV{a:Addr}{c:Value}{b:Bool}{A:Around}{Q:Value->Shared->Prop}{E:Value->Shared->Prop}(I:Inv X aa Y H s)(h:dw X.K H a vs)(e:PySem.W.kitOne X.K (.type "tuple") c=some b)(q:∀tk,Q (.bool b) {s with toks:=tk}) :
  wpAny (model X.prog X.w) A (call (.builtin "isinstance") [.ref a,c]) Q E s:=by
 let⟨g,l,⟨o,k,j,n,t⟩,r⟩:=I.tuple h;exact R3 PySem.W.kitx_tuple I.cQ ⟨_,k,j⟩ e (λ z=>nomatch z) q
theorem qW{a:Addr}{c:Value}{b:Bool}{A:Around}{Q:Value->Shared->Prop}{E:Value->Shared->Prop}(I:Inv X aa Y H s)(h:fS X.K H a vs)(e:PySem.W.kitOne X.K (.type "list") c=some b)(q:∀tk,Q (.bool b) {s with toks:=tk}) :
  wpAny (model X.prog X.w) A (call (.builtin "isinstance") [.ref a,c]) Q E s:=by
 let⟨g,l,⟨o,n,k,j,u,t⟩,r⟩:=I.list h;exact R3 UC I.cQ ⟨_,k,j⟩ e (λ z=>nomatch z) q
theorem HD{t:String}(a:t∈cD):cj X (.builtin "isinstance") (λ xs H Q=>∃x,xs=[x,.ty t]/\∃J m w b,Rel X.K cl J m H/\RW X.K J H w x/\lz m t w=some b/\Q (.bl b) H):=by
 intro aa s Y H xs S Q I M h;let⟨x,rfl,J,m,w,b,r,q,e,k⟩:=h;let⟨u,T,rfl,j,N⟩:=vals2 M;cases N;have g:∀B,EP X aa Y Q (.bool b) {s with toks:=B}:=λ B=>⟨.bl b,H,I.tok B,rfl,k⟩;cases q with
 |non=>erw[lz] at e;exact gP I j .non (by rw[tS _ _ 'd' _ a,<-e];erw[cD,RM,Rx,R0] at a;rcases a with rfl | rfl | rfl | rfl | rfl | rfl | rfl<;>rfl) g
 |bl c=>erw[lz] at e;exact gP I j (.bl c) (by rw[tS _ _ 'd' _ a,<-e];erw[cD,RM,Rx,R0] at a;rcases a with rfl | rfl | rfl | rfl | rfl | rfl | rfl<;>rfl) g
 |int i=>erw[lz] at e;exact gP I j (.int i) (by rw[tS _ _ 'd' _ a,<-e];erw[cD,RM,Rx,R0] at a;rcases a with rfl | rfl | rfl | rfl | rfl | rfl | rfl<;>rfl) g
 |str y=>erw[lz] at e;exact gP I j (.str y) (by rw[tS _ _ 'd' _ a,<-e];erw[cD,RM,Rx,R0] at a;rcases a with rfl | rfl | rfl | rfl | rfl | rfl | rfl<;>rfl) g
 |tup h tt=>
  erw[lz] at e;cases j;exact zV I h (by rw[tS _ _ 'd' _ a,<-e];erw[cD,RM,Rx,R0] at a;rcases a with rfl | rfl | rfl | rfl | rfl | rfl | rfl<;>rfl) g
 |fz h tt=>
  erw[lz] at e;cases j;exact qW I h.l (by rw[tS _ _ 'd' _ a,<-e];erw[cD,RM,Rx,R0] at a;rcases a with rfl | rfl | rfl | rfl | rfl | rfl | rfl<;>rfl) g
 |obj h e0 tt=>erw[lz] at e;cases e
 |ref h=>
  erw[lz] at e;cases j;ext U L;have O:∀{vs:List V},fS X.K H L vs->some (t=="list")=some b->wpAny (model X.prog X.w) X.A (call (.builtin "isinstance") [.ref L,.type t]) (EP X aa Y Q) X.xe s:=λ {vs} hs e=>qW (A:=X.A) (E:=X.xe) I hs (c:=.type t) (b:=b) (by rw[tS _ _ 'd' _ a,<-e];erw[cD,RM,Rx,R0] at a;rcases a with rfl | rfl | rfl | rfl | rfl | rfl | rfl<;>rfl) g;split at e
  .ext xs R;let⟨vs,z,_⟩:=r.obj R h;exact O (.inl (.inl z)) e
  .cases e
theorem Lm{a:Expr}{t:Str}{g:String}(N:g∈cD)(T:Gl X "isinstance")(S:X.mg "isinstance"=none)(HE:Gl X t)(j:X.mg t=none)(z:bootBuiltins t=@(.type g))(U:PE X a (SE X cl (aq C d)))
  (O:t≠"__name__") (q:(t==("__debug__":Str))=false) (B:starEach [a,.Name t p2] X.env=(false,eval a X.env)::starEach [.Name t p2] X.env):PE X (.Call (.Name "isinstance" p) [a,.Name t p2] [] pos) (SE X cl (aq C (.isI d g))):=by
 refine PE.imp (gA (HD (cl:=cl) N) T S 'k' (bI U (bI (uv (v:=.ty g) (u:=.type g) HE j z rfl O q) cY) B) 'k' 'k' B rfl) ?_;rintro Y H Q ⟨J,Z,m,w,m',r,l,e,k⟩;erw[iy] at e;let⟨x,m1,e1,e⟩:=R.ah e;split at e
 .ext b e2;cases e;exact⟨J,Z,m,x,_,r,l,e1,fun h H1 L I A M=>⟨L,rfl,h,_,x,b,A,M,e2,k _ _ _ I A (.bl b)⟩⟩
 .cases e
inductive SM(X:L2.Cx)(cl:Cl)(name:String)(x:V)(xs:List V)(H:Hp)(Q:VK):Prop
 |mk (J:List Addr) (m:Mem) (wx:W) (ws:List W) (w:W) (m':Mem) (h1:Rel X.K cl J m H) (h2:RW X.K J H wx x) (h3:aU X.K J H ws xs) (h4:bQ wx name ws m=.ok w m') (h5:∀J' H' v,Ext J H J' H'->Rel X.K cl J' m' H'->RW X.K J' H' w v->Q v H'):SM X cl name x xs H Q
theorem C8{name:String}(h:w9 name=.lst):¬name="join"/\¬name="index"/\¬name="add"/\¬name="endswith"/\¬name="split":=by
 unfold w9 at h;split at h
 .cases h
 .ext a;split at h
  .cases h
  .ext g;exact⟨λ z=>a (.inl z),λ z=>a (.inr (.inl z)),g,λ z=>a (.inr (.inr (.inl z))),λ z=>a (.inr (.inr (.inr z)))⟩
theorem iY{o:W}{name:String}(a:w9 name=.lst)(hi:¬(name="lindex"\/name="count"))(e:bQ o name ws m=.ok w m'):∃n ys,o=.ref n/\m[n]?=some (.lst ys)/\ee n ys name ws m=.ok w m':=by
 let⟨l,k,j,h,g⟩:=C8 a;unfold bQ at e;split at e
 .split at e
  .ext n _ ys q;exact⟨_,_,rfl,q,e⟩
  .erw[eT,j,Rz] at e;cases e
  .cases e
 .erw[nj,l,k,h,g,Rz] at e;cases e
 .rw[Uz] at hi;erw[hi.1,hi.2,Rz] at e;cases e
 .split at e
  .ext z;subst z;exact absurd a 'd'
  .cases e
 .cases e
theorem aU.strs:∀{ws:List W} {vs:List V} {a:List Str},aU K J H ws vs->jX ws=some a->vs=a.map V.str
 | [],_,_,.nil,h=>by cases h;rfl
 |w::ws,_,a,.cons q t,h=>by
  cases w with
  |str z=>
   erw[jX,Q0] at h;let⟨g,j,rfl⟩:=h;cases q;rw[t.strs j];rfl
  |_=>cases h
theorem HF{g:Type}[BEq g][LawfulBEq g](f:g->V)(hf:∀x,L2.fH (f x)=true)(he:∀x y,qA (f x) (f y)=(x==y)){a:Addr}{ns:List g}{i:g}(r:fS K H a (ns.map f))(h:ns.idxOf i<ns.length/\ns.length<=1000000)(q:Q (.int (ns.idxOf i:Nat)) H):L2.zI K (.ref a) [f i] H Q:=by
 refine⟨_,_,_,ns.idxOf i,rfl,rfl,r,hf _,?_,?_,⟨f i,?_,by rw[he];simp⟩,λ j z u l=>?_,q⟩
 .rw[U1];exact RI.mpr λ _ _=>hf _
 .have:=h.1;have:=h.2;lia
 .rw[Td,Rj h.1,getElem_idxOf h.1];rfl
 .rw[Td,Q0] at l;let⟨y,k,rfl⟩:=l;let⟨t,rfl⟩:=Q4.mp k;have:=not_of_lt_findIdx u;rw[he];simpa using this
theorem xH:yJ X "list.index" (SM X cl "lindex"):=by
 intro aa s Y H x T v q Q I u A h;let⟨J,m,l,ws,w,m',r,B,L,e,k⟩:=h;have S:∃g,D.getL m l=some g/\kE g ws m=.ok w m':=by
  unfold bQ at e;split at e
  .split at e
   .ext n _ g j;erw[ee,String.reduceEq,Rz,RQ] at e;exact⟨g,by erw[D.getL,j],e⟩
   .erw[eT,String.reduceEq,Rz] at e;cases e
   .cases e
  .erw[nj,String.reduceEq,Rz] at e;cases e
  .erw[RQ] at e;exact⟨_,rfl,e⟩
  .erw[String.reduceEq,Rz] at e;cases e
  .cases e
 clear e;let⟨g,N,e⟩:=S;let⟨a,vs,rfl,O,t⟩:=r.getL B N;unfold kE at e;split at e
 .split at e
  .ext i _ ns j;split at e
   .ext R;cases e;have z:=t.cG j;subst z;let⟨U,rfl,M⟩:=fm L;cases M;exact zJ aa s Y H _ _ v q Q I u A (HF V.int (λ _=>rfl) (λ _ _=>rfl) O R (k _ _ _ Ext.refl r (.int _)))
   .cases e
  .cases e
 .cases e
theorem xJ:yJ X "list.append" (SM X cl "append"):=by
 intro aa s Y H x S v l Q I q u h;let⟨J,m,T,ws,w,m',r,A,B,e,k⟩:=h;replace e:=iY 'd' 'd' e;let⟨n,R,rfl,g,e⟩:=e;erw[ee,Rf] at e;unfold lA at e;split at e
 .split at e
  .ext M;cases e;let⟨a,vs,rfl,N,O,t⟩:=r.lst A g;let⟨U,rfl,L⟩:=fm B;let⟨j,z⟩:=r.zB g N (t.append %[|L]);exact m8 aa s Y H _ _ v l Q I q u ⟨_,_,_,rfl,rfl,O,Rh (by rw[<-t.length];exact M) cy,k _ _ _ j z .non⟩
  .cases e
 .cases e
theorem zW:yJ X "list.clear" (SM X cl "clear"):=by
 intro aa s Y H x O v l Q I q u h;let⟨J,m,R,ws,w,m',r,A,B,e,k⟩:=h;replace e:=iY 'd' 'd' e;let⟨n,N,rfl,g,e⟩:=e;erw[ee,Rf,String.reduceEq,Rz] at e;unfold oY at e;split at e
 .cases e;let⟨a,vs,rfl,L,M,t⟩:=r.lst A g;cases B;let⟨j,z⟩:=r.zB g L .nil;exact yM aa s Y H _ _ v l Q I q u ⟨_,_,rfl,rfl,M,k _ _ _ j z .non⟩
 .cases e
theorem xK:yJ X "list.extend" (SM X cl "extend"):=by
 intro aa s Y H x xs v z Q I A B h;let⟨J,m,wx,ws,w,m',r,M,N,e,k⟩:=h;replace e:=iY 'd' 'd' e;let⟨n,ys,rfl,l,e⟩:=e;erw[ee,Rf,String.reduceEq,Rz] at e;unfold lB at e;let⟨a,vs,rfl,T,U,t⟩:=r.lst M l;split at e
 .split at e
  .ext zs e1;split at e
   .ext R;cases e;let⟨v1,rfl,O⟩:=fm N;let⟨a',u,rfl,S,g,j⟩:=r.lst O e1;let⟨q,L⟩:=r.zB l T (t.append j);exact wJ aa s Y H _ _ v z Q I A B ⟨_,_,_,_,rfl,rfl,U,g,by rw[<-t.length,<-j.length];exact Rv R cy,k _ _ _ q L .non⟩
   .cases e
  .cases e
 .cases e
theorem zX:yJ X "list.count" (SM X cl "count"):=by
 intro aa s Y H x xs v A Q I B L h;let⟨J,m,O,ws,w,m',r,S,M,e,k⟩:=h;have U:∃g,D.getL m O=some g/\eS g ws m=.ok w m':=by
  unfold bQ at e;split at e
  .split at e
   .ext n _ g l;erw[ee,String.reduceEq,Rz,RQ] at e;exact⟨g,by erw[D.getL,l],e⟩
   .erw[eT,String.reduceEq,Rz] at e;cases e
   .cases e
  .erw[nj,String.reduceEq,Rz] at e;cases e
  .erw[String.reduceEq,Rz,RQ] at e
   first | exact⟨_,rfl,e⟩ | cases e
  .erw[String.reduceEq,Rz] at e;cases e
  .cases e
 clear e;let⟨g,T,e⟩:=U;let⟨a,vs,rfl,N,t⟩:=r.getL S T;unfold eS at e;split at e
 .split at e
  .ext z;split at e
   .ext j l;cases e;have u:=t.strs l;subst u;let⟨R,rfl,q⟩:=fm M;cases q;refine nU aa s Y H _ _ v A Q I B L ⟨_,_,_,rfl,rfl,N,rfl,?_,?_⟩
    .rw[U1];exact RI.mpr λ _ _=>rfl
    .have:((j.map V.str).countP λ y=>qA y (.str z))=j.count z:=by
      rw[Vq,List.count];rfl
     rw[this];exact k _ _ _ Ext.refl r (.int _)
   .cases e
  .ext z;split at e
   .ext j l;cases e;have u:=t.cG l;subst u;let⟨R,rfl,q⟩:=fm M;cases q;refine nU aa s Y H _ _ v A Q I B L ⟨_,_,_,rfl,rfl,N,rfl,?_,?_⟩
    .rw[U1];exact RI.mpr λ _ _=>rfl
    .have:((j.map V.int).countP λ y=>qA y (.int z))=j.count z:=by
      rw[Vq,List.count];rfl
     rw[this];exact k _ _ _ Ext.refl r (.int _)
   .cases e
  .cases e
 .cases e
theorem xM:yJ X "list.insert" (SM X cl "insert"):=by
 intro aa s Y H x T v q Q I u z h;let⟨J,m,U,ws,w,m',r,B,L,e,k⟩:=h;replace e:=iY 'd' 'd' e;let⟨n,S,rfl,j,e⟩:=e;erw[ee,Rf,String.reduceEq,Rz] at e;unfold lC at e;let⟨a,vs,rfl,O,R,t⟩:=r.lst B j;split at e
 .split at e
  .ext g;cases e;let⟨v1,v2,rfl,N,M⟩:=C7 L;cases N;let⟨l,A⟩:=r.zB j O (((t.take _).append %[|M]).append (t.drop _));exact wN aa s Y H _ _ v q Q I u z ⟨_,_,_,_,rfl,rfl,R,g.1,by rw[<-t.length];exact g.2.1,Rh (by rw[<-t.length];exact g.2.2) cy,k _ _ _ l A .non⟩
  .cases e
 .cases e
theorem xN:yJ X "tuple.count" (SM X cl "tcount"):=by
 intro aa s Y H x U v A Q I B L h;let⟨J,m,O,ws,w,m',r,S,M,e,k⟩:=h;have T:∃j,O=.tup j/\eS j ws m=.ok w m':=by
  unfold bQ at e;split at e
  .split at e
   .erw[ee,String.reduceEq,Rz] at e;cases e
   .erw[eT,String.reduceEq,Rz] at e;cases e
   .cases e
  .erw[nj,String.reduceEq,Rz] at e;cases e
  .erw[String.reduceEq,Rz] at e;cases e
  .erw[RQ] at e;exact⟨_,rfl,e⟩
  .cases e
 clear e;let⟨j,rfl,e⟩:=T;cases S;ext a vs N t;unfold eS at e;split at e
 .split at e
  .ext z;split at e
   .ext g u;cases e;have q:=t.strs u;subst q;let⟨R,rfl,l⟩:=fm M;cases l;refine nW aa s Y H _ _ v A Q I B L ⟨_,_,_,rfl,rfl,N,rfl,?_,?_⟩
    .rw[U1];exact RI.mpr λ _ _=>rfl
    .have:((g.map V.str).countP λ y=>qA y (.str z))=g.count z:=by
      rw[Vq,List.count];rfl
     rw[this];exact k _ _ _ Ext.refl r (.int _)
   .cases e
  .ext z;split at e
   .ext g u;cases e;have q:=t.cG u;subst q;let⟨R,rfl,l⟩:=fm M;cases l;refine nW aa s Y H _ _ v A Q I B L ⟨_,_,_,rfl,rfl,N,rfl,?_,?_⟩
    .rw[U1];exact RI.mpr λ _ _=>rfl
    .have:((g.map V.int).countP λ y=>qA y (.int z))=g.count z:=by
      rw[Vq,List.count];rfl
     rw[this];exact k _ _ _ Ext.refl r (.int _)
   .cases e
  .cases e
 .cases e
theorem zY{o:W}(e:bQ o "add" ws m=.ok w m'):∃n ks,o=.ref n/\m[n]?=some (.set ks)/\eT n ks "add" ws m=.ok w m':=by
 unfold bQ at e;split at e
 .split at e
  .erw[ee,String.reduceEq,Rz] at e;cases e
  .ext n _ ks a;exact⟨_,_,rfl,a,e⟩
  .cases e
 .erw[nj,String.reduceEq,Rz] at e;cases e
 .erw[String.reduceEq,Rz] at e;cases e
 .erw[String.reduceEq,Rz] at e;cases e
 .cases e
theorem Rel.Od{a:Addr}(r:Rel K cl J m H){o:O}{ks:List L2.Key}{S:L2.Key->Bool}(B:m[n]?=some o)(t:J[n]?=some a)(q:∀k,S k=ly k ks) :
  Ext J H J (upd H a (lq cl.P cl.w a S ks.length))/\Rel K cl J (m.set n (.set ks)) (upd H a (lq cl.P cl.w a S ks.length)):=by
 have I:a∈J:=RP t;have x:Ext J H J (upd H a (lq cl.P cl.w a S ks.length)):=⟨⟨[],by simp,by simp⟩,λ {b u} h hn _=>by rw[ao (show b≠a from λ z=>hn (by rw[z];exact I))];exact h⟩;refine⟨x,by simp[r.len],r.nd,λ {k N b} j g=>?_⟩
 by_cases l:n=k
 .subst l;rw[t] at g;cases g;rw[RH (Q4.mp B).1] at j;cases j;exact⟨S,aC,q⟩
 .rw[RN l] at j;have A:=r.obj j g;refine A.mono r x (ao ?_);rintro rfl;let⟨T,M⟩:=Q4.mp g;let⟨R,L⟩:=Q4.mp t;exact l ((Vd r.nd).mp (L.trans M.symm))
theorem HG(t:UN X cl):yJ X "set.add" (SM X cl "add"):=by
 intro aa s Y H x xs v O Q I R T h;let⟨J,m,wx,ws,w,m',r,U,qs,e,k⟩:=h;replace e:=zY e;let⟨n,a,rfl,N,e⟩:=e;erw[eT,Rf] at e;unfold zd at e;split at e
 .split at e
  .ext g e1;split at e
   .ext hl;cases e;let⟨v1,rfl,q1⟩:=fm qs;have z:=qV q1 e1;subst z;cases U with
    |ref M=>
     let⟨S,hS,L⟩:=r.obj N M;have q:=hS;rw[t.P,t.w] at q;refine s8 aa s Y H _ _ v O Q I R T ⟨_,S,_,g,rfl,rfl,q,hl,?_⟩;have u:∀j,(S j||decide (j=g))=ly j (if ly g a then a else a++[g]):=λ j=>by
      rw[L];split
      .ext hm;cases hd:decide (j=g) with
       |false=>simp
       |true=>
        have:=SH hd;subst this;simp[hm]
      .erw[ly,any_append,TZ,any_nil,Bool.or_false];congr 1;exact Sk.mpr eq_comm
     let⟨A,B⟩:=r.Od N M u;have l:(if ly g a then a else a++[g]).length=if S g then a.length else a.length+1:=by
      rw[L];split<;>simp
     rw[l,t.P,t.w] at A B;exact k _ _ _ A B .non
   .cases e
  .cases e
 .cases e
def Of(X:L2.Cx)(T:String)(x:V)(H:Hp):Prop:=∀(aa:List (Addr×Obj)) (s:Shared) (Y:L2.St) (v:Value),Inv X aa Y H s->RelV x v->s.TypeIs v T/\∀a,v=.ref a->Exists λ g=>s.heap.get? a=some g/\g.dict=none
def Ln:Kd->String
 |.lst=>"list" |.str=>"str" |.set=>"set" |.no=>""
 |.tup=>"tuple"
theorem Fg{j:Kd}(r:Rel X.K cl J m H)(q:RW X.K J H w v)(A:j≠.no)(e:kdOf m w=j):Of X (Ln j) v H:=by
 intro aa s Y u I g;cases q with
 |ref h=>
  erw[kdOf] at e;split at e
  .ext ws t;let⟨vs,z,_⟩:=r.obj t h;subst e;exact sY (T:="list") I g (.inl ⟨rfl,_,.inl (.inl z)⟩)
  .ext N t;subst e;let⟨S,z,_⟩:=r.obj t h;cases g;let⟨⟨o,_,_,_,e,B,_⟩,_⟩:=I.hok _ _ z;refine⟨⟨o,e,B.1⟩,λ a k=>?_⟩;cases k;exact⟨o,e,B.2.1⟩
  .exact absurd e.symm A
 |str x=>
  erw[kdOf] at e;subst e;exact sY (T:="str") I g rfl
 |fz h tt=>
  erw[kdOf] at e;subst e;exact sY (T:="list") I g (.inl ⟨rfl,_,h.l⟩)
 |tup h tt=>
  erw[kdOf] at e;subst e;cases g;let⟨M,L⟩:=I.Nb h;exact⟨M,λ a k=>by cases k;exact L⟩
 |_=>exact absurd (by simpa[kdOf] using e.symm) A
section
variable{o:Expr}{d:E}{name:Str}{nm id:String}{apos:Pos}
theorem C9{T:String}(hT:T=Ln (w9 nm))(pa:PlainAttrs T)(q:Slot T name id)(B:typeOf (.builtin id)=pure (.type "method_descriptor"))(hm:yJ X id (SM X cl nm))(ho:PE X o (SE X cl (aq C d)))
  (g:attributeBase o name X.env (eval o X.env)=eval o X.env) (a:(apos.endLine==pos.line)=true):PE X (.Call (.Attribute o name apos) [] [] pos) (SE X cl (aq C (.meth d nm .nil))):=by
 intro aa s Y H Q I h;refine wpAny_Call_method0_late g a ?_;let⟨J,Z,m,w,m',r,l,e,k⟩:=h;erw[cL] at e;let⟨x,M,e1,e⟩:=R.ah e;refine bF (ho aa s Y H (λ v t=>Of X T v t/\SM X cl nm v [] t Q) I ⟨J,Z,m,x,M,r,l,e1,fun A t v1 U j u=>?_⟩) λ v L ⟨x,t,N,j,ty,u⟩=>?_
 .split at e
  .ext hk;erw[dG,R.bind] at e;exact⟨by rw[hT];exact Fg j u (by unfold w9;split<;>(try split)<;>(try split)<;>(intro z;cases z)) hk,A,M,x,[],w,m',j,u,.nil,e,fun O H2 v2 S r2 q2=>k _ _ _ (U.trans j S) r2 q2⟩
  .cases e
 .let⟨h1,h2⟩:=ty aa L Y v N j;exact⟨T,id,pa,q,B,h1,h2,U5 rfl (PySem.evalArgs_none (hm aa L Y t x [] v [] Q N j .nil u))⟩
theorem HH{T:String}{a:Expr}(hT:T=Ln (w9 nm))(pa:PlainAttrs T)(u:Slot T name id)(hty:typeOf (.builtin id)=pure (.type "method_descriptor"))(hm:yJ X id (SM X cl nm))(ho:PE X o (SE X cl (aq C d)))(ha:PA X (a::es) (SA X cl (aS C ds)))
  (t:attributeBase o name X.env (eval o X.env)=eval o X.env)
  (A:((backTo pos (starEach (a::es) X.env)).all (λ x=>!x.1)&&(backToKw pos (keywordEach [] X.env)).all (λ x=>x.1.isSome)
   && decide ((a::es).length+([]:List Keyword).length+(if ([]:List Keyword).isEmpty then 0 else 1)<30))=true)
  (q:(apos.endLine==pos.line)=true) (hs:starEach (a::es) X.env=(false,eval a X.env)::starEach es X.env) (g:(backTo pos (starEach es X.env)).any (·.1)=false):PE X (.Call (.Attribute o name apos) (a::es) [] pos) (SE X cl (aq C (.meth d nm ds))):=by
 intro aa s Y H Q I h;refine wpAny_Call_method_late t A q rfl ?_;let⟨J,Z,m,w,m',r,l,e,k⟩:=h;erw[cL] at e;let⟨x,m1,e1,e⟩:=R.ah e;refine bF (ho aa s Y H (λ v B=>Of X T v B/\SA X cl (aS C ds) Y B λ xs N=>SM X cl nm v xs N Q) I ⟨J,Z,m,x,m1,r,l,e1,fun S B v1 x1 j M=>?_⟩) λ v s1 ⟨x,B,I1,j,ty,M⟩=>?_
 .split at e
  .ext hk;let⟨ws,m2,e2,e⟩:=R.ah e;exact⟨by rw[hT];exact Fg j M (by unfold w9;split<;>(try split)<;>(try split)<;>(intro z;cases z)) hk,S,Z,m1,ws,m2,j,l.mono r x1,e2,fun O N v2 x2 L U=>
    ⟨O,m2,x,ws,w,m',L,M.mono j x2,U,e,fun β3 H3 v3 x3 r3 q3=>k _ _ _ ((x1.trans j x2).trans L x3) r3 q3⟩⟩
  .cases e
 .let⟨h1,h2⟩:=ty aa s1 Y v I1 j;refine⟨T,id,pa,u,hty,h1,h2,?_⟩;have hA:=ha pos aa s1 Y B _ I1 M;rw[hs] at hA ⊢;refine U5 (by show (false||(backTo pos (starEach es X.env)).any (·.1))=false;rw[g]<;>rfl) (Calls.evalArgs_plain ?_);exact bF hA λ us s2 ⟨vs,N,I2,L,U⟩=>hm aa s2 Y N x vs v us Q I2 j L U
end
theorem HJ(a:UN X cl)(j:Gl X "set")(h:X.mg "set"=none):PE X (.Call (.Name "set" p) [] [] pos) (SE X cl (aq C .set0)):=by
 refine PE.imp (sS wU j h 'k' 'k' 'k') ?_;rintro Y H Q ⟨J,Z,m,w,m',r,l,e,k⟩;erw[fc,new] at e;cases e;refine⟨rfl,λ p g=>?_⟩;have:=r.CZ (o:=.set []) (ho:=lq cl.P cl.w p (λ _=>false) 0) g λ x=>⟨_,aC,λ _=>rfl⟩;rw[a.P,a.w] at this;exact k _ _ _ this.1 this.2 (.ref (r.last p))
abbrev yi(P:Program)(w:World):uC:=lK P w
theorem uZ:Passes (yi X.prog X.w) X E0:=K7
theorem Qv{w:World}{l:List Env}{a:Shared}{e:Value}(h:yi P w l H s (λ _ _ _=>False) e a):False:=by
 let⟨_,_,_,_,_,_,_,_,_,_,z⟩:=h;exact z
def u5(K:ae)(cl:Cl)(np:Nat)(f:List W->Mem->R W):Sp:=λ vs H Q _=>vs.length=np/\∃J m ws w m',Rel K cl J m H/\aU K J H ws vs/\f ws m=.ok w m'/\∀J' H' v,Ext J H J' H'->Rel K cl J' m' H'->RW K J' H' w v->Q v H'
theorem s_call{k f:Nat}{z:FuncData}{ps:List Str}{x:Str}{a:Expr}(F:cg X.prog X.w X.K X.mg X.base (yi X.prog X.w) k fa z ps (u5 X.K cl ps.length (C.call f)))(S:bP k X.A)(hg:Gl X x)(T:X.mg x=@(.ref fa))(hk:PySem.W.keepIn X.K (.ref fa)=true)(hb:Binds X.K z ps [])
  (ha:PA X (a::es) (SA X cl (aS C ds))) (U:∀Z m ws m',aS C ds Z m=.ok ws m'->ws.length=ps.length) (j:(x==("__debug__":Str))=false) (he:starEach (a::es) X.env=(false,eval a X.env)::starEach es X.env) (h:(backTo pos (starEach es X.env)).any (·.1)=false) :
  PE X (.Call (.Name x p) (a::es) [] pos) (SE X cl (aq C (.call f ds))):=by
 refine PE.imp (Cg F S hg T hk hb .nil uZ ha j he h) ?_;rintro Y H Q ⟨J,Z,m,w,m',r,l,e,k⟩;erw[gD] at e;let⟨x,u,B,e⟩:=R.ah e;refine⟨J,Z,m,x,u,r,l,B,fun g H1 v1 M q t=>⟨?_,g,u,x,w,m',q,by rw[R6];exact t,e,fun I H2 v2 L N O=>k _ _ _ (M.trans q L) N O⟩⟩;rw[R6,<-t.length];exact U _ _ _ _ B
end
section
variable(X:L2.Cx)(cl:Cl)
def IS(h:It)(g:Src)(β0:List Addr)(H0:Hp):Prop:=∀(J:List Addr) (m:Mem) (H:Hp) (i:Nat),(∃j,J=β0++j)->(∀{a:Addr} {vs:List V},dw X.K H0 a vs->dw X.K H a vs)->(∀{a:Addr} {o:Obj} {u:HO},H0 a=some (.frz o u)->H a=@(.frz o u))->Rel X.K cl J m H->
 (∀w,g.get m i=.it w->h.go i H/\∀x H',h.yld i H x H'->Ext J H J H'/\Rel X.K cl J m H'/\RW X.K J H' w x)/\(g.get m i=.fin->h.stop i H)
inductive SI(ev:Loc->Mem->R Src)(Y:L2.St)(H:Hp)(Rr:It->Hp->Prop):Prop
 |mk (J:List Addr) (Z:Loc) (m:Mem) (src:Src) (m':Mem) (h1:Rel X.K cl J m H) (h2:RL X.K J H Z Y) (h3:ev Z m=.ok src m') (h4:∀J' H' QZ,Ext J H J' H'->Rel X.K cl J' m' H'->IS X cl QZ src J' H'->Rr QZ H'):SI ev Y H Rr
inductive SG(ev:W->Loc->Mem->R Loc)(v:V)(Y:L2.St)(H:Hp)(Q:L2.St->Hp->Prop):Prop
 |mk (J:List Addr) (Z:Loc) (m:Mem) (w:W) (ρ':Loc) (m':Mem) (h1:Rel X.K cl J m H) (h2:RL X.K J H Z Y) (h3:RW X.K J H w v) (h4:ev w Z m=.ok ρ' m') (h5:∀J' H' σ',Ext J H J' H'->Rel X.K cl J' m' H'->RL X.K J' H' ρ' σ'->Q σ' H'):SG ev v Y H Q
inductive HK(ev:List W->Loc->Mem->R Loc)(vs:List V)(Y:L2.St)(H:Hp)(Q:L2.St->Hp->Prop):Prop
 |mk (J:List Addr) (Z:Loc) (m:Mem) (ws:List W) (ρ':Loc) (m':Mem) (h1:Rel X.K cl J m H) (h2:RL X.K J H Z Y) (h3:aU X.K J H ws vs) (h4:ev ws Z m=.ok ρ' m') (h5:∀J' H' σ',Ext J H J' H'->Rel X.K cl J' m' H'->RL X.K J' H' ρ' σ'->Q σ' H'):HK ev vs Y H Q
def zZ(D:Ends)(J:List Addr)(H:Hp):F->Prop
 |.nx Z=>∀Y,RL X.K J H Z Y->D.nx Y H
 |.rt w=>∀v,RW X.K J H w v->D.rt v H
 |.bk Z=>∀Y,RL X.K J H Z Y->D.bk Y H
 |.ct Z=>∀Y,RL X.K J H Z Y->D.ct Y H
 |.rz c none Z=>∀Y,RL X.K J H Z Y->ki X Y (.ref (ai X.K c)) none H
 |.rz c (some (f,w)) Z=>∀Y y dx,RL X.K J H Z Y->RW X.K J H w y->H dx=none->ki X Y (.ref (ai X.K c)) (some dx) (upd H dx (.xd [(f,y)]))
inductive SS(ev:Loc->Mem->R F)(D:Ends)(Y:L2.St)(H:Hp):Prop
 |mk (J:List Addr) (Z:Loc) (m:Mem) (f:F) (m':Mem) (h1:Rel X.K cl J m H) (h2:RL X.K J H Z Y) (h3:ev Z m=.ok f m') (h4:∀J' H',Ext J H J' H'->Rel X.K cl J' m' H'->zZ X D J' H' f):SS ev D Y H
end
theorem PI.imp{X:L2.Cx}{t t':TI}(h:PI X tg e t)(i:∀Y H R,t' Y H R->t Y H R):PI X tg e t':=λ aa s Y H R I q=>h aa s Y H R I (i Y H R q)
theorem PI.or{X:L2.Cx}{t t':TI}(h:PI X tg e t)(h':PI X tg e t'):PI X tg e (fun Y H R=>t Y H R\/t' Y H R):=λ aa s Y H R I q=>q.elim (h aa s Y H R I) (h' aa s Y H R I)
theorem PG.imp{X:L2.Cx}{t t':TG}(h:PG X e t)(i:∀v Y H Q,t' v Y H Q->t v Y H Q):PG X e t':=λ aa s Y H v u Q I r q=>h aa s Y H v u Q I r (i v Y H Q q)
theorem su.imp{X:L2.Cx}{e:List Expr}{t t':BD}(h:su X e t)(i:∀v Y H Q,t' v Y H Q->t v Y H Q):su X e t':=λ aa s Y H v u Q I r q=>h aa s Y H v u Q I r (i v Y H Q q)
theorem PS.imp{X:L2.Cx}{e:Stmt}{t t':TS}(h:PS X e t)(i:∀D Y H,t' D Y H->t D Y H):PS X e t':=λ aa s Y H D I q=>h aa s Y H D I (i D Y H q)
theorem iD.imp{X:L2.Cx}{e:List Stmt}{t t':TS}(h:iD X e t)(i:∀D Y H,t' D Y H->t D Y H):iD X e t':=λ aa s Y H D I q=>h aa s Y H D I (i D Y H q)
section
variable{X:L2.Cx}{cl:Cl}{C:D.Cx}{pos:Pos}
theorem qU.keep(g:∀{a:Addr} {o:Obj} {u:HO},H a=some (.frz o u)->H' a=@(.frz o u)){a:Addr}(h:qU K H a vs):qU K H' a vs:=
 h.elim (λ ⟨o,e⟩=>.inl ⟨o,g e⟩) .inr
theorem RW.keep(k:∃γ,J'=J++γ)(j:∀{a:Addr} {vs:List V},dw K H a vs->dw K H' a vs)(g:∀{a:Addr} {o:Obj} {u:HO},H a=some (.frz o u)->H' a=@(.frz o u))(q:RW K J H w v):RW K J' H' w v:=
 q.gen j (λ h=>h.keep g) g (λ h=>by let⟨γ,rfl⟩:=k;rw[Rc (Q4.mp h).1];exact h)
theorem aU.keep(j:∃γ,J'=J++γ)(g:∀{a:Addr} {vs:List V},dw K H a vs->dw K H' a vs)(h:∀{a:Addr} {o:Obj} {u:HO},H a=some (.frz o u)->H' a=@(.frz o u)){w:List W}{v:List V}(q:aU K J H w v):aU K J' H' w v:=q.xD (RW.keep j g h)
theorem z6{a:Addr}(u:β0[n]?=some a):IS X cl (Mx X.K a) (.lst n) β0 H0:=by
 intro J m H i j _ _ r;let⟨B,rfl⟩:=j;have g:(β0++B)[n]?=some a:=by rw[Rc (Q4.mp u).1];exact u
 refine⟨λ w e=>?_,λ e=>?_⟩
 .erw[Src.get] at e;split at e
  .ext I l;split at e
   .ext M k;cases e;let⟨L,vs,z,h,t⟩:=r.getL (.ref g) l;cases z;let⟨v,A,q⟩:=t.get k;refine⟨⟨vs,v,h,A⟩,λ x H' y=>?_⟩;let⟨rfl,y⟩:=y;have:=y vs h;rw[A] at this;cases this;exact⟨Ext.refl,r,q⟩
   .cases e
  .cases e
 .erw[Src.get] at e;split at e
  .ext I l;split at e
   .cases e
   .ext k;let⟨L,vs,z,h,t⟩:=r.getL (.ref g) l;cases z;refine⟨vs,h,?_⟩;rw[<-t.length];exact Tq.mp k
  .cases e
theorem z7{a:Addr}(A:dw X.K H0 a vs)(u:aU X.K β0 H0 ws vs):IS X cl (Nk X.K a) (.tup ws) β0 H0:=by
 intro J m H i g k z r;have h:=k A;have t:=u.keep g k z;refine⟨λ w e=>?_,λ e=>?_⟩
 .erw[Src.get] at e;split at e
  .ext B j;cases e;let⟨v,l,q⟩:=t.get j;refine⟨⟨vs,v,h,l⟩,λ x H' y=>?_⟩;let⟨rfl,y⟩:=y;have:=y vs h;rw[l] at this;cases this;exact⟨Ext.refl,r,q⟩
  .cases e
 .erw[Src.get] at e;split at e
  .cases e
  .ext j;exact⟨vs,h,by rw[<-t.length];exact Tq.mp j⟩
theorem Fj{a:Addr}(B:qU X.K H0 a vs)(z:aU X.K β0 H0 ws vs):IS X cl (Mx X.K a) (.tup ws) β0 H0:=by
 intro J m H i g A k r;have h:=(B.keep k).l;have t:=z.keep g A k;refine⟨λ w e=>?_,λ e=>?_⟩
 .erw[Src.get] at e;split at e
  .ext I j;cases e;let⟨v,u,q⟩:=t.get j;refine⟨⟨vs,v,h,u⟩,λ x H' y=>?_⟩;let⟨rfl,y⟩:=y;have:=y vs h;rw[u] at this;cases this;exact⟨Ext.refl,r,q⟩
  .cases e
 .erw[Src.get] at e;split at e
  .cases e
  .ext j;exact⟨vs,h,by rw[<-t.length];exact Tq.mp j⟩
theorem HM{a:Addr}(T:qU X.K H0 a vs)(B:aU X.K β0 H0 ws vs):IS X cl (MD X.K a) (.enm (.tup ws)) β0 H0:=by
 intro J m H i h N S r;let⟨t,l⟩:=Fj (X:=X) (cl:=cl) T B J m H i h N S r;refine⟨λ w e=>?_,λ e=>?_⟩
 .erw[Src.get] at e t;split at e
  .ext A j;cases e;let⟨⟨u,x,O,L⟩,g⟩:=t A j;refine⟨⟨u,x,O,L⟩,λ y H' z=>?_⟩;let⟨p,v,R,rfl,rfl,M⟩:=z;let⟨_,_,q⟩:=g v H ⟨rfl,M⟩;let⟨k,I⟩:=r.pG R [.int i,v];exact⟨k,I,.tup (.of aC) %[.int _,|q.mono r k]⟩
  .cases e
  .cases e
 .erw[Src.get] at e l;split at e
  .cases e
  .ext j;exact l j
  .cases e
theorem HN{lo:Int}:IS X cl (Mz lo n) (.rng lo n) β0 H0:=by
 intro J m H i a _ _ r;refine⟨λ w e=>?_,λ e=>?_⟩
 .erw[Src.get] at e;split at e
  .ext h;cases e;refine⟨h,λ x H' y=>?_⟩;let⟨rfl,rfl⟩:=y;exact⟨Ext.refl,r,.int _⟩
  .cases e
 .erw[Src.get] at e;split at e
  .cases e
  .ext h;exact UO h
theorem HP{s:Src}(r:Rel X.K cl J m H)(q:RW X.K J H w v)(e:srcOf m w=some s) :
  ∃a,v=.ref a/\((∃n vs,s=.lst n/\w=.ref n/\J[n]?=some a/\fS X.K H a vs)\/(∃ws vs,s=.tup ws/\w=.fz ws/\qU X.K H a vs/\aU X.K J H ws vs)\/∃ws vs,s=.tup ws/\w=.tup ws/\dw X.K H a vs/\aU X.K J H ws vs):=by
 cases q with
 |tup h t=>cases e;exact⟨_,rfl,.inr (.inr ⟨_,_,rfl,rfl,h,t⟩)⟩
 |fz h t=>cases e;exact⟨_,rfl,.inr (.inl ⟨_,_,rfl,rfl,h,t⟩)⟩
 |ref h=>
  erw[srcOf] at e;split at e
  .ext k j;cases e;let⟨a,vs,z,g,t⟩:=r.getL (.ref h) j;cases z;exact⟨_,rfl,.inl ⟨_,_,rfl,rfl,h,g⟩⟩
  .cases e
 |_=>cases e
theorem u6{s:Src}(r:Rel X.K cl J m H)(q:RW X.K J H (.tup ws) v)(e:srcOf m (.tup ws)=some s):∃a vs,v=.ref a/\s=.tup ws/\dw X.K H a vs/\aU X.K J H ws vs:=by
 cases q with
 |tup h t=>cases e;exact⟨_,_,rfl,rfl,h,t⟩
theorem z8{s:Src}(r:Rel X.K cl J m H)(q:RW X.K J H (.fz ws) v)(e:srcOf m (.fz ws)=some s):∃a vs,v=.ref a/\s=.tup ws/\qU X.K H a vs/\aU X.K J H ws vs:=by
 cases q with
 |fz h t=>cases e;exact⟨_,_,rfl,rfl,h,t⟩
theorem u7{s:Src}(r:Rel X.K cl J m H)(q:RW X.K J H (.ref n) v)(e:srcOf m (.ref n)=some s):∃a vs,v=.ref a/\s=.lst n/\J[n]?=some a/\fS X.K H a vs:=by
 obtain⟨a,rfl,⟨j,vs,rfl,z,h,g⟩ | ⟨_,_,_,z,_⟩ | ⟨_,_,_,z,_⟩⟩:=HP r q e
 .cases z;exact⟨a,vs,rfl,rfl,h,g⟩
 .cases z
 .cases z
theorem HQ{z:Str}:IS X cl (NR z) (.tup (signs z)) β0 H0:=by
 intro J m H i k _ _ r;have a:∀j:Nat,(signs z)[j]?=(z.cps[j]?).map λ c=>W.str ⟨#[c]⟩:=λ j=>by simp[signs]
 refine⟨λ w e=>?_,λ e=>?_⟩
 .erw[Src.get,a] at e;cases hc:z.cps[i]? with
  |none=>rw[hc] at e;cases e
  |some c=>
   rw[hc] at e;cases e;have l:i<z.cps.size:=by
    rcases Nat.lt_or_ge i z.cps.size with h | h
    .exact h
    .rw[Array.getElem?_eq_none h] at hc;cases hc
   refine⟨l,λ x H' y=>?_⟩;let⟨rfl,q,g,rfl⟩:=y;rw[hc] at g;cases g;exact⟨Ext.refl,r,.str _⟩
 .erw[Src.get,a] at e;cases hc:z.cps[i]? with
  |none=>exact Array.getElem?_eq_none_iff.mp hc
  |some c=>rw[hc] at e;cases e
theorem Lo{a:Expr}(L:PE X a (SE X cl (aq C d)))(S:∀Z m,dR C d Z m=(aq C d Z m).bind nu):PI X tg a (SI X cl (dR C d)):=by
 refine PI.imp (PI.or (PI.or (BX L) (Gy L)) (G4 L)) ?_;rintro Y H Rr ⟨J,Z,m,N,m',r,l,e,k⟩;rw[S] at e;let⟨x,U,B,e⟩:=R.ah e;unfold nu at e;split at e
 .ext s h;cases e;cases x with
  |tup xs=>
   refine .inl (.inr ⟨J,Z,m,_,_,r,l,B,fun j M I q g u=>?_⟩);let⟨a,vs,rfl,rfl,A,t⟩:=u6 g u h;exact⟨a,rfl,⟨vs,A⟩,k _ _ _ q g (z7 A t)⟩
  |fz xs=>
   refine .inl (.inl ⟨J,Z,m,_,_,r,l,B,fun j M I q g u=>?_⟩);let⟨a,vs,rfl,rfl,A,t⟩:=z8 g u h;exact⟨a,rfl,⟨vs,A.l⟩,k _ _ _ q g (Fj A t)⟩
  |ref n=>
   refine .inl (.inl ⟨J,Z,m,_,_,r,l,B,fun j M I q g u=>?_⟩);let⟨a,vs,rfl,rfl,T,A⟩:=u7 g u h;exact⟨a,rfl,⟨vs,A⟩,k _ _ _ q g (z6 T)⟩
  |str z=>
   refine .inr ⟨J,Z,m,_,_,r,l,B,fun j M I q g u=>?_⟩;cases u;erw[zf] at h;split at h
   .ext O;cases h;exact⟨z,rfl,O,k _ _ _ q g HQ⟩
   .cases h
  |_=>cases h
 .cases e
theorem Lp{a:Expr}(I:Gl X "range")(B:X.mg "range"=none)(L:PE X a (SE X cl (aq C d)))(g:starEach [a] X.env=[(false,eval a X.env)]):PI X tg (.Call (.Name "range" p) [a] [] pos) (SI X cl (dR C (.rng d))):=by
 refine PI.imp (wB I B (bI L cY g) g) ?_;rintro Y H O ⟨J,Z,m,t,m',r,l,e,k⟩;erw[uN] at e;let⟨x,A,M,e⟩:=R.ah e;refine⟨J,Z,m,x,A,r,l,M,fun j S N q u z=>?_⟩;split at e
 .split at e
  .ext h;cases e;cases z;exact⟨_,rfl,h.1,h.2,k _ _ _ q u HN⟩
  .cases e
 .cases e
theorem HR{a:Addr}(S:β0[n]?=some a):IS X cl (MD X.K a) (.enm (.lst n)) β0 H0:=by
 intro J m H i h M R r;let⟨t,l⟩:=z6 (X:=X) (cl:=cl) (H0:=H0) S J m H i h M R r;refine⟨λ w e=>?_,λ e=>?_⟩
 .erw[Src.get] at e t;split at e
  .ext A j;cases e;let⟨⟨u,x,N,I⟩,g⟩:=t A j;refine⟨⟨u,x,N,I⟩,λ y H' z=>?_⟩;let⟨p,v,O,rfl,rfl,L⟩:=z;let⟨_,_,q⟩:=g v H ⟨rfl,L⟩;let⟨k,B⟩:=r.pG O [.int i,v];exact⟨k,B,.tup (.of aC) %[.int _,|q.mono r k]⟩
  .cases e
  .cases e
 .erw[Src.get] at e l;split at e
  .cases e
  .ext j;exact l j
  .cases e
theorem HS{a:Addr}(T:dw X.K H0 a vs)(B:aU X.K β0 H0 ws vs):IS X cl (NW X.K a) (.enm (.tup ws)) β0 H0:=by
 intro J m H i h N S r;let⟨t,l⟩:=z7 (X:=X) (cl:=cl) T B J m H i h N S r;refine⟨λ w e=>?_,λ e=>?_⟩
 .erw[Src.get] at e t;split at e
  .ext A j;cases e;let⟨⟨u,x,O,L⟩,g⟩:=t A j;refine⟨⟨u,x,O,L⟩,λ y H' z=>?_⟩;let⟨p,v,R,rfl,rfl,M⟩:=z;let⟨_,_,q⟩:=g v H ⟨rfl,M⟩;let⟨k,I⟩:=r.pG R [.int i,v];exact⟨k,I,.tup (.of aC) %[.int _,|q.mono r k]⟩
  .cases e
  .cases e
 .erw[Src.get] at e l;split at e
  .cases e
  .ext j;exact l j
  .cases e
theorem Lq{a:Expr}{u:Pos}{A:List Expr}{j}(M:Gl X "enumerate")(hm:X.mg "enumerate"=none)(ha:PE X a (SE X cl (aq C d)))(g:starEach [a] X.env=[(false,eval a X.env)]):PI X (.Tuple A j u) (.Call (.Name "enumerate" p) [a] [] pos) (SI X cl (dR C (.enm d))):=by
 refine PI.imp (PI.or (CI M hm (bI ha cY g) g) (yX M hm (bI ha cY g) g)) ?_;rintro Y H U ⟨J,Z,m,O,m',r,l,e,k⟩;erw[nN] at e;let⟨x,T,I,e⟩:=R.ah e;split at e
 .ext s B;cases e;cases x with
  |tup xs=>
   refine .inr ⟨J,Z,m,_,_,r,l,I,fun q N L j h z=>?_⟩;let⟨a,vs,rfl,rfl,g,t⟩:=u6 h z B;exact⟨a,rfl,⟨vs,g⟩,k _ _ _ j h (HS g t)⟩
  |fz xs=>
   refine .inl ⟨J,Z,m,_,_,r,l,I,fun q N L j h z=>?_⟩;let⟨a,vs,rfl,rfl,g,t⟩:=z8 h z B;exact⟨a,rfl,⟨vs,g.l⟩,k _ _ _ j h (HM g t)⟩
  |ref n=>
   refine .inl ⟨J,Z,m,_,_,r,l,I,fun q N L j h z=>?_⟩;let⟨a,vs,rfl,rfl,S,g⟩:=u7 h z B;exact⟨a,rfl,⟨vs,g⟩,k _ _ _ j h (HR S)⟩
  |_=>cases B
 .cases e
theorem RL.set{Z:Loc}(l:RL K J H Z Y)(q:RW K J H w v):RL K J H (Z.set i (some w)) (Y.set i (some v)):=by
 refine⟨by simp[l.len],λ {j g} h=>?_⟩
 by_cases e:i=j
 .subst e;have a:i<Z.length:=by have:=(Q4.mp h).1;simpa using this
  rw[RH a] at h;cases h;exact⟨v,RH (by rw[<-l.len];exact a),q⟩
 .rw[RN e] at h ⊢;exact l.at_ h
theorem Fl{x:Str}(j:X.N.Nodup)(hi:X.N[i]?=some x)(g:L2.Loc X.env.scope x)(h:X.fn x=true\/X.env.scope.names.lookup x=some .local):PG X (.Name x pos) (SG X cl (eV C (.pt (.var i)))):=by
 refine PG.imp (BV j hi g h) ?_;rintro v Y H Q ⟨J,Z,m,w,a,m',r,l,q,e,k⟩;erw[eV,aK] at e;cases e;exact k _ _ _ Ext.refl r (l.set q)
theorem z9:su X [] (HK X cl (fh C .nil)):=by
 refine su.imp BW ?_;rintro vs Y H Q ⟨J,Z,m,ws,a,m',r,l,q,e,k⟩;cases q with
 |nil=>
  erw[fh] at e;cases e;exact⟨rfl,k _ _ _ Ext.refl r l⟩
 |cons _ _=>erw[fh] at e;cases e
theorem u9{a:Expr}{da:A}{ds:As}(h1:PG X a (SG X cl (eV C da)))(h2:su X es (HK X cl (fh C ds)))(U:(assignEach (a::es) X.env).map (·.2)=assign a X.env::(assignEach es X.env).map (·.2)):su X (a::es) (HK X cl (fh C (.cons da ds))):=by
 refine su.imp (yv h1 h2 U) ?_;rintro vs Y H Q ⟨J,Z,m,ws,g,m',r,l,q,e,k⟩;cases q with
 |nil=>erw[fh] at e;cases e
 |cons O N=>
  erw[fh] at e;let⟨x,u,e1,e⟩:=R.ah e;refine⟨_,_,rfl,J,Z,m,_,x,u,r,l,O,e1,fun h H1 B j t T=>?_⟩;exact⟨h,x,u,_,g,m',t,T,N.mono r j,e,fun I H2 z L M S=>k _ _ _ (j.trans t L) M S⟩
def As.len:As->Nat
 |.nil=>0
 |.cons _ l=>l.len+1
theorem lN:∀{ds:As} {ws:List W} {Z g:Loc} {m m':Mem},fh C ds ws Z m=.ok g m'->ws.length=ds.len
 |.nil,ws,_,_,_,_,e=>by
  cases ws with
  |nil=>rfl
  |cons _ _=>erw[fh] at e;cases e
 |.cons a l,ws,_,_,_,_,e=>by
  cases ws with
  |nil=>erw[fh] at e;cases e
  |cons w ws=>
   erw[fh] at e;let⟨Z1,m1,e1,e⟩:=R.ah e;rw[RD,lN e];rfl
theorem PG.or{t t':TG}(h:PG X e t)(h':PG X e t'):PG X e (λ v Y H Q=>t v Y H Q\/t' v Y H Q):=λ aa s Y H v u Q I r q=>q.elim (h aa s Y H v u Q I r) (h' aa s Y H v u Q I r)
theorem Fo{k:Nat}{ds:As}(z:X.calm=true)(h:su X es (HK X cl (fh C ds)))(x:(assignEach es X.env).length=ds.len)(j:(assignEach es X.env).findIdx? (·.1)=none):PG X (.Tuple es k pos) (SG X cl (eV C (.tup ds))):=by
 refine PG.imp (PG.or (Gu z h x j) (G6 z h x j)) ?_;rintro v Y H Q ⟨J,Z,m,w,g,m',r,l,q,e,k⟩;erw[eV] at e;split at e
 .ext B A;let⟨a,vs,rfl,u,t⟩:=r.bS q A;rcases u with u | u
  .exact .inr ⟨_,_,rfl,u,by rw[<-t.length];exact lN e,J,Z,m,_,g,m',r,l,t,e,k⟩
  .exact .inl ⟨_,_,rfl,u,by rw[<-t.length];exact lN e,J,Z,m,_,g,m',r,l,t,e,k⟩
 .cases e
def T.tT:Ts->As
 |.nil=>.nil
 |.cons t ts=>.cons (.pt t) (T.tT ts)
theorem jD:∀(ts:Ts) (ws:List W) (Z a:Loc) (m:Mem),bW ts ws Z=some a->fh C (T.tT ts) ws Z m=.ok a m
 |.nil,ws,Z,a,m,h=>by
  cases ws with
  |nil=>erw[bW] at h;cases h;erw[T.tT,fh]
  |cons _ _=>erw[bW] at h;cases h
 |.cons t ts,ws,Z,a,m,h=>by
  cases ws with
  |nil=>erw[bW] at h;cases h
  |cons w ws=>
   erw[bW] at h;split at h
   .ext Z1 e1;erw[T.tT,fh,eV,e1,R.bind];exact jD ts ws Z1 a m h
   .cases h
theorem HU{k:Nat}{ts:Ts}(h:PG X (.Tuple es k pos) (SG X cl (eV C (.tup (T.tT ts))))):PG X (.Tuple es k pos) (SG X cl (eV C (.pt (.tup ts)))):=by
 refine PG.imp h ?_;rintro v Y H Q ⟨J,Z,m,w,a,m',r,l,q,e,k⟩;refine⟨J,Z,m,w,a,m',r,l,q,?_,k⟩;erw[eV,aK] at e ⊢;cases w with
 |tup xs=>
  erw[bS] at e ⊢;split at e
  .ext j g;cases e;exact jD _ _ _ _ _ g
  .cases e
 |fz xs=>
  erw[bS,getL] at e ⊢;split at e
  .ext j g;cases e;exact jD _ _ _ _ _ g
  .cases e
 |_=>cases e
theorem HV(hu:UN X cl):Gs X (λ o i v H Q=>∃J m l q g m',Rel X.K cl J m H/\RW X.K J H l o/\RW X.K J H q i/\RW X.K J H g v/\qI l q g m=.ok () m'/\∀J' H',Ext J H J' H'->Rel X.K cl J' m' H'->Q H'):=by
 intro aa s Y H o i v S T u Q I M L B h;let⟨J,m,l,q,g,m',r,O,R,N,e,k⟩:=h;unfold qI at e;split at e
 .split at e
  .ext xs z;split at e
   .ext j e2;cases e;cases R;let⟨a,vs,rfl,U,ha,t⟩:=r.lst O z;let⟨A,x⟩:=r.zB z U (t.set N j);exact set_list aa s Y H _ _ _ S T u Q I M L B ⟨_,_,_,_,rfl,rfl,ha,by rw[<-t.length];exact e2,k _ _ A x⟩
   .cases e
  .cases e
 .cases e
theorem Lr(hu:UN X cl){i:Expr}{M di:E}(ho:PE X o (SE X cl (aq C M)))(hi:PE X i (SE X cl (aq C di)))(ha:∀v,assign (.Subscript o i pos) X.env v=(do
   let j <-holding [v] (eval o X.env)
   let B <-holding [v,j] (eval i X.env)
   standAt pos
   holding [v,j,B] (setItem j B v)
   release [v,j,B] [])):PG X (.Subscript o i pos) (SG X cl (eV C (.sub M di))):=by
 refine PG.imp (Gv ho hi (HV hu) ha) ?_;rintro v Y H Q ⟨J,Z,m,w,N,m',r,l,q,e,k⟩;erw[eV] at e;let⟨x,L,e1,e⟩:=R.ah e;let⟨y,m2,e2,e⟩:=R.ah e;let⟨u,m3,e3,e⟩:=R.ah e;cases e;refine⟨J,Z,m,x,L,r,l,e1,fun z H1 v1 h a U=>?_⟩;refine⟨z,Z,L,y,m2,a,l.mono r h,e2,fun t H2 v2 g A T=>?_⟩;exact⟨t,m2,x,y,w,_,A,U.mono a g,T,(q.mono r h).mono a g,e3,fun O H3 I S=>k _ _ _ ((h.trans a g).trans A I) S (((l.mono r h).mono a g).mono A I)⟩
theorem HW:iD X [] (SS X cl (aD C .nil)):=by
 refine iD.imp uw ?_;rintro D Y H ⟨J,Z,m,f,m',r,l,e,k⟩;erw[pB,gb] at e;cases e;exact k _ _ Ext.refl r Y l
theorem Dc{rest:List Stmt}{d:S}{ds:Ss}(L:PS X st (SS X cl (bu C d)))(I:iD X rest (SS X cl (aD C ds))):iD X (st::rest) (SS X cl (aD C (.cons d ds))):=by
 refine iD.imp (yr L I) ?_;rintro D Y H ⟨J,Z,m,f,m',r,l,e,k⟩;erw[pB,gb] at e;let⟨t,q,M,e⟩:=R.ah e;refine⟨J,Z,m,t,q,r,l,M,fun j O g a=>?_⟩;cases t with
 |nx h=>
  intro u B;exact⟨j,h,q,f,m',a,B,e,fun x N z A=>k _ _ (g.trans a z) A⟩
 |rt w=>simp only at e;cases e;exact k _ _ g a
 |rz c w h=>simp only at e;cases e;rcases w with _ | ⟨f,w⟩<;>exact k _ _ g a
 |bk h=>simp only at e;cases e;exact k _ _ g a
 |ct h=>simp only at e;cases e;exact k _ _ g a
theorem HX{a:Expr}{da:A}(N:PE X a (SE X cl (aq C d)))(M:PG X tg (SG X cl (eV C da)))(L:swapsWithSole [tg] a pos.line X.env=pure false)(hw:swappedStores [tg] a X.env=pure none)(O:(assignEach [tg] X.env).map (·.2)=[assign tg X.env]):PS X (.Assign [tg] a pos) (SS X cl (bu C (.asg da d))):=by
 refine PS.imp (oK N M L hw O) ?_;rintro D Y H ⟨J,Z,m,f,m',r,l,e,k⟩;erw[gr] at e;let⟨w,t,T,e⟩:=R.ah e;let⟨U,m2,S,e⟩:=R.ah e;cases e;refine⟨J,Z,m,w,t,r,l,T,fun h H1 v1 j q B=>?_⟩;exact⟨h,Z,t,w,U,_,q,l.mono r j,B,S,fun u H2 g x z I=>k _ _ (j.trans q x) z g I⟩
theorem pH{x:Str}{a:Expr}(B:X.N.Nodup)(hi:X.N[i]?=some x)(t:L2.Loc X.env.scope x)(A:PE X a (SE X cl (aq C d)))(u:swapsWith a @(.Name x p) pos.line X.env=pure false)(z:X.fn x=true\/X.env.scope.names.lookup x=some .local):PS X (.Assign [.Name x p] a pos) (SS X cl (bu C (.asg (.pt (.var i)) d))):=by
 refine PS.imp (Gw B hi t A u z) ?_;rintro D Y H ⟨J,Z,m,f,m',r,l,e,k⟩;erw[gr] at e;let⟨w,M,I,e⟩:=R.ah e;erw[eV,aK,R.bind] at e;cases e;exact⟨J,Z,m,w,_,r,l,I,fun h O L g j q=>k _ _ g j _ ((l.mono r g).set q)⟩
theorem HY{j:Nat}{x:Str}{a:Expr}{u h:Pos}{kt z}(hc:X.calm=true)(hN:X.N.Nodup)(hi:X.N[i]?=some x)(U:X.N[j]?=some y)(A:i≠j)(T:X.env.scope.names.lookup x=some .local)(S:X.env.scope.names.lookup y=some .local)
  (ha:PA X [a,b] (SA X cl (aS C %[da,|db]))) (hw:swappedStores [.Tuple [.Name x px,.Name y py] kt u] (.Tuple [a,b] z h) X.env=pure (some [x,y])) (hs:swapsWithSole [.Tuple [.Name x px,.Name y py] kt u] (.Tuple [a,b] z h) pos.line X.env=pure false) :
  PS X (.Assign [.Tuple [.Name x px,.Name y py] kt u] (.Tuple [a,b] z h) pos) (SS X cl (bu C (.asg (.pt (.tup %[.var i,|.var j])) (.tup %[da,|db])))):=by
 refine PS.imp (Gx hc hN hi U A T S ha hw hs) ?_;rintro D Y H ⟨J,Z,m,f,m',r,l,e,k⟩;erw[gr,bZ] at e;let⟨w,m1,e1,e⟩:=R.ah e;let⟨ws,m2,e2,B⟩:=R.ah e1;split at B
 .cases B;refine⟨J,Z,m,ws,_,r,l,e2,fun L H1 v1 I M t=>?_⟩;let⟨Z2,m3,g,e⟩:=R.ah e;cases e;erw[eV,aK] at g;cases t with
  |nil=>erw[bW] at g;cases g
  |cons t q=>
   cases q with
   |nil=>erw[bW,aK] at g;cases g
   |cons q O=>
    cases O with
    |nil=>
     erw[bW,aK] at g;cases g;exact⟨_,_,rfl,k _ _ I M _ (((l.mono r I).set t).set q)⟩
    |cons _ _=>erw[bW,aK] at g;cases g
 .cases B
theorem Df{a:Expr}(t:PE X a (SE X cl (aq C d)))(q:swapsWith a none pos.line X.env=pure false):PS X (.Expr a pos) (SS X cl (bu C (.expr d))):=by
 refine PS.imp (oJ t q) ?_;rintro D Y H ⟨J,Z,m,f,m',r,l,e,k⟩;erw[lJ] at e;let⟨w,A,u,e⟩:=R.ah e;cases e;exact⟨J,Z,m,w,_,r,l,u,fun h B x g j z=>k _ _ g j _ (l.mono r g)⟩
theorem tU{a:Expr}(t:PE X a (SE X cl (aq C d))):PS X (.Return (some a) pos) (SS X cl (bu C (.ret d))):=by
 refine PS.imp (sF t) ?_;rintro D Y H ⟨J,Z,m,f,m',r,l,e,k⟩;erw[qK] at e;let⟨w,z,u,e⟩:=R.ah e;cases e;exact⟨J,Z,m,w,_,r,l,u,fun g A x h j q=>k _ _ h j _ q⟩
theorem pI:PS X (.Return none pos) (SS X cl (bu C .retN)):=by
 refine PS.imp BU ?_;rintro D Y H ⟨J,Z,m,f,m',r,l,e,k⟩;erw[o9] at e;cases e;exact k _ _ Ext.refl r _ .non
theorem vc:PS X (.Pass pos) (SS X cl (bu C .pass)):=by
 refine PS.imp BS ?_;rintro D Y H ⟨J,Z,m,f,m',r,l,e,k⟩;erw[pq] at e;cases e;exact k _ _ Ext.refl r _ l
theorem HZ:PS X (.Break pos) (SS X cl (bu C .brk)):=by
 refine PS.imp yt ?_;rintro D Y H ⟨J,Z,m,f,m',r,l,e,k⟩;erw[uO] at e;cases e;exact k _ _ Ext.refl r _ l
theorem Dg:PS X (.Continue pos) (SS X cl (bu C .cont)):=by
 refine PS.imp qg ?_;rintro D Y H ⟨J,Z,m,f,m',r,l,e,k⟩;erw[pA] at e;cases e;exact k _ _ Ext.refl r _ l
theorem iZ:PS X st (SS X cl (bu C .never)):=by
 refine PS.imp yu ?_;rintro D Y H ⟨J,Z,m,f,m',r,l,e,k⟩;erw[kG] at e;cases e
theorem Aa{t:Expr}{B:E}{a b:List Stmt}{da db:Ss}(I:PT X t (ST X cl (bq C B)))(M:iD X a (SS X cl (aD C da)))(L:iD X b (SS X cl (aD C db))):PS X (.If t a b pos) (SS X cl (bu C (.ife B da db))):=by
 refine PS.imp (Kq I M L) ?_;rintro D Y H ⟨J,Z,m,f,m',r,l,e,k⟩;erw[qL] at e;let⟨c,z,N,e⟩:=R.ah e;refine⟨J,Z,m,c,z,r,l,N,fun g S h j=>?_⟩;split at e
 .ext A;rw[Rf A];exact⟨g,Z,z,f,m',j,l.mono r h,e,fun q O u x=>k _ _ (h.trans j u) x⟩
 .ext A;rw[Ri A];exact⟨g,Z,z,f,m',j,l.mono r h,e,fun q O u x=>k _ _ (h.trans j u) x⟩
theorem Ext.sq(r:Rel X.K cl J m H)(x:Ext J H J' H'){a:Addr}(h:dw X.K H a vs):dw X.K H' a vs:=x.MH r BI h
theorem Ab{t:T}{it:E}{body:List Stmt}{db:Ss}(hp:PassesOwn (model X.prog X.w) X.A X.env X.xe)(hc:X.calm=true)(hi:PI X tg iter (SI X cl (dR C it)))(hg:PG X tg (SG X cl (eV C (.pt t))))(hb:iD X body (SS X cl (aD C db)))
  (hs:∀x,foldedSetIterable iter X.env x=pure x):PS X (.For tg iter body [] pos) (SS X cl (bu C (.for_ t it db))):=by
 refine PS.imp (Gz hp hc hi hg hb hs) ?_;rintro D Y H ⟨J,Z,m,f,m',r,l,e,k⟩;erw[pe] at e;let⟨q,m1,e1,e⟩:=R.ah e;refine⟨J,Z,m,q,m1,r,l,e1,fun a H1 QZ L u is=>?_⟩;refine⟨λ i n Y H=>∃J Z m,Ext a H1 J H/\Rel X.K cl J m H/\RL X.K J H Z Y/\er q.get t (fun Z m=>aD C db Z m) n i Z m=.ok f m',⟨_,a,Z,m1,Ext.refl,u,l.mono r L,e⟩,?_⟩;rintro i n Y H ⟨j,Z2,m2,I,r2,l2,g⟩;have pre:∃γ,j=a++γ:=let ⟨γ,h,_⟩:=I.pre;⟨γ,h⟩;let⟨go,M⟩:=is j m2 H i pre (λ h=>I.sq u h) (λ h=>I.fz u BI h) r2;unfold er at g;split at g
 .cases g
 .ext e3;cases g;exact .inl ⟨M e3,k _ _ (L.trans u I) r2 _ l2⟩
 .ext w e3;let⟨g1,g2⟩:=go w e3;refine .inr ⟨g1,?_⟩;split at g
  .cases g
  .ext n';split at g
   .cases g
   .ext Z3 e4;let⟨ff,m4,e5,S⟩:=R.ah g;refine⟨fun z H'=>∃J Z m,Ext a H1 J H'/\Rel X.K cl J m H'/\RL X.K J H' Z z/\er q.get t (fun Z m=>aD C db Z m) n' (i+1) Z m=.ok f m',fun z H' h=>⟨n',SR _,h⟩,λ x H' y=>?_⟩;let⟨x3,r3,q3⟩:=g2 x H' y;refine⟨j,Z2,m2,w,Z3,m2,r3,l2.mono r2 x3,q3,by erw[eV,e4],fun β5 H5 Y5 x5 r5 l5=>?_⟩;refine⟨β5,Z3,m2,ff,m4,r5,l5,e5,fun B H6 x6 N=>?_⟩;have Lu:=((I.trans r2 x3).trans r3 x5).trans r5 x6;cases ff with
    |nx U=>exact fun Y6 O=>⟨B,U,m4,Lu,N,O,S⟩
    |ct U=>exact fun Y6 O=>⟨B,U,m4,Lu,N,O,S⟩
    |bk U=>cases S;exact fun Y6 O=>k _ _ (L.trans u Lu) N Y6 O
    |rt w6=>cases S;exact λ v6 q6=>k _ _ (L.trans u Lu) N v6 q6
    |rz c w U=>cases S;rcases w with _ | ⟨f,w⟩<;>exact k _ _ (L.trans u Lu) N
end
def dH(prog:Program)(w:World)(A:Around)(e elt:Expr)(d:Nat)(j:Value)(env:Env)(Q:Shared->Prop):Option Comprehension->Shared->Prop
 |none,s=>wpAny (model prog w) A (eval elt env) (λ x g=>wpAny (model prog w) A (call (.builtin "list.append") [j,x]) (λ _ a=>Q a) (λ _ _=>False) g) (λ _ _=>False) s
 |some g',s=>wpAny (model prog w) A (eval g'.iter env) (λ x g=>wpAny (model prog w) A (pyIter x) (λ k a=>codeAny (model prog w) A (.compStart e (d+1) k j env) (λ r h=>match r with
   |.ok _=>Q h
   |.error _=>False) a) (λ _ _=>False) g) (λ _ _=>False) s
theorem mJ(elt target iter:Expr)(gens:List Comprehension)(ifs:List Expr)(scope:Scope)(pos:Pos)(d:Nat)(it a:Value)(env:Env)(h:gens[d]?=some ⟨target,iter,ifs,0⟩)(g:gens[d+1]?=none) :
  compTurn (.ListComp elt gens scope pos) d it a env=(do
   standAt iter.pos
   match <-pyNext it with
   |none=>pure (.done .next)
   |some v=>
    letOwnedTupleGo target it v
    assign target env v
    let mut ok:=true
    for c in ifs do
     if ok then ok <-isTrue c env (eval c env)
    if ok then
     (do let _ <-call (.builtin "list.append") [a,<-eval elt env])
    again (.compLoop (.ListComp elt gens scope pos) d it a env)):=by
 unfold compTurn;erw[h,g];rfl
theorem mK(elt target iter g a:Expr)(gens:List Comprehension)(ifs k:List Expr)(scope:Scope)(pos:Pos)(d:Nat)(it j:Value)(env:Env)(h:gens[d]?=some ⟨target,iter,ifs,0⟩)(l:gens[d+1]?=some ⟨g,a,k,0⟩) :
  compTurn (.ListComp elt gens scope pos) d it j env=(do
   standAt iter.pos
   match <-pyNext it with
   |none=>pure (.done .next)
   |some v=>
    letOwnedTupleGo target it v
    assign target env v
    let mut ok:=true
    for c in ifs do
     if ok then ok <-isTrue c env (eval c env)
    if ok then
     let x <-eval a env
     standAt a.pos
     let x <-foldedSetIterable a env x
     let _ <-runOwn (.compStart (.ListComp elt gens scope pos) (d+1) (<-holding [x] (pyIter x)) j env) env
    again (.compLoop (.ListComp elt gens scope pos) d it j env)):=by
 unfold compTurn;erw[h,l];rfl
section
variable{prog:Program}{w:World}{A:Around}{R:Result->Shared->Prop}{s:Shared}
theorem pJ{d:Nat}{S:Value}(hg:gens[d]?=some ⟨target,iter,ifs,0⟩)(hn:∀g',gens[d+1]?=some g'->g'.is_async=0/\∀x,foldedSetIterable g'.iter env x=pure x)(I:Nat->Shared->Prop)
  (N:∀n s,I n s->wpAny (model prog w) A (pyNext it) (λ r t=>match r with
   |none=>R (.ok .next) t
   |some v=>wpAny (model prog w) A (letOwnedTupleGo target it v) (λ _ k=>wpAny (model prog w) A (assign target env v) (λ _ z=>
     wpAny (model prog w) A (forIn ifs true λ c r=>if r=true then do let ok <-isTrue c env (eval c env);pure (ForInStep.yield ok) else pure (ForInStep.yield r)) (λ ok q=>
      if ok=true then dH prog w A (.ListComp elt gens scope pos) elt d S env (λ u=>Exists λ m=>m<n/\I m u) gens[d+1]? q
      else Exists λ m=>m<n/\I m q) (λ _ _=>False) z) (λ _ _=>False) k) (λ _ _=>False) t) (λ _ _=>False) s)
  (n:Nat) (h:I n s) :
  codeAny (model prog w) A (.compLoop (.ListComp elt gens scope pos) d it S env) R s:=by
 refine codeAny_loop rfl I (λ n s hI=>?_) n h;show wpAny _ A ((compTurn (.ListComp elt gens scope pos) d it S env).onRaise (λ x=>do noteFrame x env;theTreesLotGoes x)) _ _ s;refine wpAny_noted ?_;cases X:gens[d+1]? with
 |none=>
  rw[mJ _ _ _ _ _ _ _ _ _ _ _ hg X];refine Q2 (R8 (Q2 (Rm (N n s hI) (λ r t j=>?_) λ _ _ g=>g.elim)));cases r with
  |none=>exact Q8 j
  |some v=>
   refine Q2 (Rm j (λ _ k l=>?_) λ _ _ g=>g.elim);refine Q2 (Rm l (λ _ z M=>Q2 (Rm M (λ ok q a=>?_) λ _ _ g=>g.elim)) λ _ _ g=>g.elim);cases ok with
   |false=>exact Q8 ⟨rfl,a⟩
   |true=>
    rw[X] at a;exact Q2 (Q2 (Rm a (λ x U L=>Q2 (Rm L (λ _ u B=>Q8 (Q8 ⟨rfl,B⟩)) λ _ _ g=>g.elim)) λ _ _ g=>g.elim))
 |some g'=>
  let⟨T,iter',ifs',as⟩:=g';let⟨h0,hfs⟩:=hn _ X;have h0:as=0:=h0;subst h0;rw[mK _ _ _ _ _ _ _ _ _ _ _ _ _ _ hg X];refine Q2 (R8 (Q2 (Rm (N n s hI) (λ r t j=>?_) λ _ _ g=>g.elim)));cases r with
  |none=>exact Q8 j
  |some v=>
   refine Q2 (Rm j (λ _ k l=>?_) λ _ _ g=>g.elim);refine Q2 (Rm l (λ _ z M=>Q2 (Rm M (λ ok q a=>?_) λ _ _ g=>g.elim)) λ _ _ g=>g.elim);cases ok with
   |false=>exact Q8 ⟨rfl,a⟩
   |true=>
    rw[X] at a;refine Q2 (Rm a (λ x U L=>?_) λ _ _ g=>g.elim);refine Q2 (R8 (Q2 (wpAny_of_eq (hfs x) (Q2 (Sd (Rm L (λ it' u B=>?_) λ _ _ g=>g.elim))))));refine Q2 (wpAny_runOwn (So B λ r s₆ O=>?_));cases r with
    |ok f=>exact Q8 ⟨rfl,O⟩
    |error e=>exact O.elim
theorem fq{d:Nat}{a:Value}(r:gens[d]?=some ⟨target,iter,ifs,0⟩)
  (q:codeAny (model prog w) A (.compLoop (.ListComp elt gens scope pos) d it a env) R s)
  (h:wpAny (model prog w) A (pyIter it) (λ g j=>codeAny (model prog w) A (.compLoop (.ListComp elt gens scope pos) d g a env) R j)
   (notedBy (model prog w) A env λ x j=>R (.error x) j) s) :
  codeAny (model prog w) A (.compStart (.ListComp elt gens scope pos) d it a env) R s:=by
 refine U7 ?_;show wpAny _ _ ((compStart (.ListComp elt gens scope pos) d it a env).onRaise (λ x=>do noteFrame x env;standAt theWindowsPlace)) _ _ s;refine wpAny_notedAt ?_;unfold compStart;have k:(clausesOf (.ListComp elt gens scope pos))[d]?=some ⟨target,iter,ifs,0⟩:=r;erw[k];show wpAny _ _ (ask >>= _) _ _ s;refine Q2 (wpAny_askSetting (wpAny_ite ?_));split
 .first
   |exact Q2 (Q8 (Q8 (And.intro rfl q)))
   |exact Q8 (And.intro rfl q)
 .first
   |exact Q2 (Us (Q2 (R8 (Q2 (Rm h (λ g j l=>Q8 (And.intro rfl l)) λ _ _ x=>x)))))
   |(refine Q2 (Us ?_);show wpAny _ _ (standAt iter.pos >>= _) _ _ s;exact Q2 (R8 (Q2 (Rm h (λ g j l=>Q8 (And.intro rfl l)) λ _ _ x=>x))))
def qX(prog:Program)(w:World)(A:Around)(e:Expr)(d:Nat)(tg:Expr)(ifs:List Expr)(it q:Value)(env:Env)(rw:(Shared->Prop)->Shared->Prop):Prop:=
 ∀(R:Result->Shared->Prop) (s:Shared) (I:Nat->Shared->Prop),
  (∀n s,I n s->wpAny (model prog w) A (pyNext it) (λ r g=>match r with
   |none=>R (.ok .next) g
   |some v=>wpAny (model prog w) A (letOwnedTupleGo tg it v) (λ _ h=>wpAny (model prog w) A (assign tg env v) (λ _ k=>
     wpAny (model prog w) A (forIn ifs true λ c r=>if r=true then do let l <-isTrue c env (eval c env);pure (ForInStep.yield l) else pure (ForInStep.yield r)) (λ l a=>
      if l=true then rw (λ j=>Exists λ m=>m<n/\I m j) a
      else Exists λ m=>m<n/\I m a) (λ _ _=>False) k) (λ _ _=>False) h) (λ _ _=>False) g) (λ _ _=>False) s)->
  ∀n,I n s->codeAny (model prog w) A (.compLoop e d it q env) R s
theorem iG{d:Nat}{g:Value}(k:gens[d]?=some ⟨target,iter,ifs,0⟩)(j:∀g',gens[d+1]?=some g'->g'.is_async=0/\∀x,foldedSetIterable g'.iter env x=pure x) :
  qX prog w A (.ListComp elt gens scope pos) d target ifs it g env (λ Q s=>dH prog w A (.ListComp elt gens scope pos) elt d g env Q gens[d+1]? s):=
 λ _ _ I a n h=>pJ k j I a n h
end
def PB(X:L2.Cx)(rw:(Shared->Prop)->Shared->Prop)(t:L2.St->Hp->(L2.St->Hp->Prop)->Prop):Prop:=
 ∀(aa:List (Addr×Obj)) (s:Shared) (Y:L2.St) (H:Hp) (Q:L2.St->Hp->Prop),Inv X aa Y H s->t Y H Q->rw (λ g=>∃a H',Inv X aa a H' g/\Q a H') s
inductive H8(K:ae)(J:List Addr)(H:Hp):List W->List (Str×V)->Prop
 |nil:H8 K J H [] []
 |cons {k w v ws vs}:RW K J H w v->H8 K J H ws vs->H8 K J H (.tup [.str k,w]::ws) ((k,v)::vs)
def AK(b:Bool)(K:ae)(J:List Addr)(H:Hp)(Δ:Addr)(a:List W):Prop:=match b with
 |false=>∃vs,H Δ=some (.lst vs)/\aU K J H a vs
 |true=>∃gs,H Δ=some (.dK (eZ [] (keyed gs)))/\H8 K J H a gs
inductive SB(b:Bool)(X:L2.Cx)(cl:Cl)(Δ:Addr)(ev:Loc->Mem->List W->R (List W×Loc))(Y:L2.St)(H:Hp)(Q:L2.St->Hp->Prop):Prop
 |mk (J:List Addr) (Z:Loc) (m:Mem) (acc acc':List W) (ρ':Loc) (m':Mem) (h1:Rel X.K cl J m H) (h2:RL X.K J H Z Y) (h3:AK b X.K J H Δ acc) (h4:Δ∉J) (h5:ev Z m acc=.ok (acc',ρ') m') (h6:∀J' H' σ',cN (some Δ) J H J' H'->Rel X.K cl J' m' H'->RL X.K J' H' ρ' σ'->AK b X.K J' H' Δ acc'->Δ∉J'->Q σ' H'):SB b X cl Δ ev Y H Q
section
variable{X:L2.Cx}{cl:Cl}{C:D.Cx}{e elt:Expr}{gens:List Comprehension}{d:Nat}{Δ:Addr}{bk:Bool}
theorem H8.cu{Δ:Option Addr}(r:Rel K cl J m H)(h:∀d,Δ=some d->jz (H d))(x:cN Δ J H J' H')(q:H8 K J H ws gs):H8 K J' H' ws gs:=by
 induction q with
 |nil=>exact .nil
 |cons a _ g=>exact .cons (a.cu r h x) g
theorem AK.acc{a:List W}(h:AK bk K J H Δ a):jz (H Δ):=by
 cases bk
 .let⟨vs,e,_⟩:=h;rw[e];trivial
 .let⟨vs,e,_⟩:=h;rw[e];trivial
theorem AK.Lv{a:List W}(h:AK bk K J H Δ a):∀d,some Δ=some d->jz (H d):=λ d z=>by cases z;exact h.acc
theorem AK.Dh{a:List W}(h:AK bk K J H Δ a):∀d,some Δ=some d->H d≠none:=λ d z e=>by cases z;have q:=h.acc;rw[e] at q;exact q
theorem Ext.Lb(x:Ext J H J' H')(g:jz (H Δ))(h:Δ∉J):Δ∉J':=λ z=>by
 let⟨j,rfl,a⟩:=x.pre;rcases RC.mp z with z | z
 .exact h z
 .rw[a _ z] at g;exact g
theorem AK.mono{a:List W}(h:AK bk K J H Δ a)(r:Rel K cl J m H)(x:Ext J H J' H')(g:Δ∉J):AK bk K J' H' Δ a/\Δ∉J':=by
 refine⟨?_,x.Lb h.acc g⟩;cases bk
 .let⟨vs,e,q⟩:=h;exact⟨vs,x.keep e g 's',q.mono r x⟩
 .let⟨vs,e,q⟩:=h;exact⟨vs,x.keep e g 's',q.cu r BI x⟩
theorem H9{de:E}(T:X.xe=λ _ _=>False)(hn:gens[d+1]?=none)(he:PE X elt (SE X cl (aq C de))):PB X (λ Q s=>dH X.prog X.w X.A e elt d (.ref Δ) X.env Q gens[d+1]? s) (SB false X cl Δ (jh C (.elt de))):=by
 intro aa s Y H Q I h;let⟨J,Z,m,acc,acc',ρ',m',r,l,ak,nd,x,k⟩:=h;erw[nO] at x;let⟨w,m1,e1,x⟩:=R.ah x;split at x
 .ext hl;cases x;show dH X.prog X.w X.A e elt d (.ref Δ) X.env _ gens[d+1]? s;rw[hn];have U:=he aa s Y H (λ v t=>∃a,Ext J H a t/\Rel X.K cl a m' t/\RW X.K a t w v) I ⟨J,Z,m,w,m',r,l,e1,fun a t v1 B j O=>⟨a,B,j,O⟩⟩;rw[T] at U;refine Rm U (λ u s1 ⟨v,t,I1,rv,a,B,j,O⟩=>?_) λ _ _ z=>z;let⟨g,L⟩:=ak.mono r B nd;let⟨vs,S,q⟩:=id g;have M:vs.length<sizeLine:=Rh (by rw[<-q.length];exact hl) cy;have ap:=m8 (X:=X) aa s1 Y t (.ref Δ) [v] (.ref Δ) [u] (λ _ H'=>H'=upd t Δ (.lst (vs++[v]))) I1 rfl %[|rv] ⟨_,vs,v,rfl,rfl,S,M,rfl⟩;rw[T] at ap;refine Rm ap (λ _ s2 ⟨_,H2,I2,_,e2⟩=>?_) λ _ _ z=>z;subst e2;let⟨N,r2⟩:=j.Oa (u':=.lst (vs++[v])) g.acc L;refine⟨Y,_,I2,k a _ Y (B.toD.trans j N g.Dh) r2 ((l.mono r B).cu j g.Lv N) ⟨_,aC,?_⟩ L⟩;exact(q.cu j g.Lv N).append %[|O.cu j g.Lv N]
 .cases x
theorem qY{rw:(Shared->Prop)->Shared->Prop}{t:T}{QZ:It}{fp:List Addr}{it:Addr}{tn:Nat->Heap->Prop}{U:Src}
  (hx:X.xe=λ _ _=>False) (hc:X.calm=true) (hlr:qX X.prog X.w X.A e d tg ifs (.ref it) (.ref Δ) X.env rw) (hmo:∀{Q Q':Shared->Prop} {s:Shared},(∀s,Q s->Q' s)->rw Q s->rw Q' s)
  (Tu:Turn X.prog X.w X.K tg QZ fp it tn) (is:IS X cl QZ U β0 H0) (pg:PG X tg (SG X cl (eV C (.pt t)))) (yj:k9 X ifs (ST X cl (bM C di))) (pb:PB X rw (SB bk X cl Δ (jh C rest)))
 {Z O:Loc} {k M:List W} (I:Inv X aa Y H s) (st:tn 0 s.heap) (Di:∀b∈fp,jj X aa H b)
  (hpre:∃γ,J=β0++γ) (htup:∀{a:Addr} {vs:List V},dw X.K H0 a vs->dw X.K H a vs) (Qw:∀{a:Addr} {o:Obj} {u:HO},H0 a=some (.frz o u)->H a=@(.frz o u)) (r:Rel X.K cl J m H) (l:RL X.K J H Z Y) (ak:AK bk X.K J H Δ k) (nd:Δ∉J)
  (ev:cR U.get t (fun Z m=>bM C di Z m) (fun Z m k=>jh C rest Z m k) n 0 Z m k=.ok (M,O) m') {Rr:Result->Shared->Prop}
  (fin:∀s' g H' J',Inv X aa g H' s'->cN (some Δ) J H J' H'->Rel X.K cl J' m' H'->RL X.K J' H' O g->AK bk X.K J' H' Δ M->Δ∉J'->Rr (.ok .next) s') :
  codeAny (model X.prog X.w) X.A (.compLoop e d (.ref it) (.ref Δ) X.env) Rr s:=by
 have S:∀{H':Hp},(∀b∈fp,H' b=none)->∀b∈fp,jj X aa H' b:=λ hn b hb=>⟨hn b hb,(Di b hb).2⟩;refine hlr _ _ (λ n s'=>∃i g H' J' Z1 m1 j,Inv X aa g H' s'/\tn i s'.heap/\(∀b∈fp,H' b=none)/\cN (some Δ) J H J' H'/\Rel X.K cl J' m1 H'/\RL X.K J' H' Z1 g/\AK bk X.K J' H' Δ j/\Δ∉J'/\
  cR U.get t (fun Z m=>bM C di Z m) (fun Z m k=>jh C rest Z m k) n i Z1 m1 j=.ok (M,O) m') ?_ n ⟨0,Y,H,J,Z,m,k,I,st,λ b hb=>(Di b hb).1,Ext.refl,r,l,ak,nd,ev⟩
 rintro n s1 ⟨i,σ1,H1,N,Z1,m1,j,I1,st1,fr1,x1,r1,l1,ak1,nd1,e1⟩;have Og:∃γ,N=β0++γ:=by
  let⟨γ,h1,_⟩:=x1.pre;let⟨δ,h2⟩:=hpre;exact⟨δ++γ,by rw[h1,h2,Rt]⟩
 let⟨go,stop⟩:=is N m1 H1 i Og (λ h=>x1.MH r ak.Lv (htup h)) (λ h=>x1.fz r ak.Lv (Qw h)) r1;unfold cR at e1;split at e1
 .cases e1
 .ext e2;cases e1;refine Rm (Tu.done X rfl rfl rfl hc i aa s1 σ1 H1 (λ _ _=>False) I1 (S fr1) st1 (stop e2)) (λ rr s2 ⟨hr,I2⟩=>?_) λ _ _ z=>z;subst hr;exact fin s2 σ1 H1 N I2 x1 r1 l1 ak1 nd1
 .ext w e2;let⟨g1,g2⟩:=go w e2;split at e1
  .cases e1
  .ext n';split at e1
   .cases e1
   .ext Z2 e3;let⟨b,m3,e4,e5⟩:=R.ah e1;refine Rm (Tu.item X rfl rfl rfl hc i aa s1 σ1 H1 (λ _ _=>False) I1 (S fr1) st1 g1) (λ rr s2 ⟨u,hr,h2⟩=>?_) λ _ _ z=>z;subst hr;refine Rm h2 (λ _ s3 ⟨x,H3,I3,r3,y3,st3,fr3⟩=>?_) λ _ _ z=>z;let⟨x3,rr3,q3⟩:=g2 x H3 y3;let⟨ak3,nd3⟩:=ak1.mono r1 x3 nd1;have Qx:=I3.pinned (S fr3) (Tu.obj _ _ st3);have l3:=l1.mono r1 x3;have PC:=pg _ s3 σ1 H3 x u (fun Y4 H4=>∃L,Ext N H3 L H4/\Rel X.K cl L m1 H4/\RL X.K L H4 Z2 Y4) Qx r3 ⟨N,Z1,m1,w,Z2,m1,rr3,l3,q3,by erw[eV,e3],fun L H4 Y4 x4 r4 l4=>⟨L,x4,r4,l4⟩⟩;rw[hx] at PC;refine Rm PC (λ _ s4 ⟨Y4,H4,I4,L,x4,r4,l4⟩=>?_) λ _ _ z=>z;let⟨ak4,nd4⟩:=ak3.mono rr3 x4 nd3;have PD:=yj _ s4 Y4 H4 (λ bb H5=>bb=b/\∃q,Ext L H4 q H5/\Rel X.K cl q m3 H5) I4 ⟨L,Z2,m1,b,m3,r4,l4,e4,fun q H5 x5 r5=>⟨rfl,q,x5,r5⟩⟩;rw[hx] at PD;refine Rm PD (λ bb s5 ⟨H5,I5,hb,q,x5,r5⟩=>?_) λ _ _ z=>z;subst hb;let⟨ak5,nd5⟩:=ak4.mono r4 x5 nd4;have l5:=l4.mono r4 x5;have Qy:Ext N H1 q H5:=(x3.trans rr3 x4).trans r4 x5;have PF:cN (some Δ) J H q H5:=x1.trans r1 Qy.toD ak1.Dh;have again:∀{g:L2.St} {H':Hp} {s':Shared} {J':List Addr} {Z4:Loc} {m4:Mem} {Dj:List W},Inv X (aa++kP fp s3.heap) g H' s'->cN (some Δ) J H J' H'->Rel X.K cl J' m4 H'->RL X.K J' H' Z4 g->AK bk X.K J' H' Δ Dj->Δ∉J'->
      cR U.get t (fun Z m=>bM C di Z m) (fun Z m k=>jh C rest Z m k) n' (i+1) Z4 m4 Dj=.ok (M,O) m'->
      Exists λ mm=>mm<n'+1/\∃i g H' J' Z1 m1 j,Inv X aa g H' s'/\tn i s'.heap/\(∀b∈fp,H' b=none)/\cN (some Δ) J H J' H'/\Rel X.K cl J' m1 H'/\RL X.K J' H' Z1 g/\AK bk X.K J' H' Δ j/\Δ∉J'/\
       cR U.get t (fun Z m=>bM C di Z m) (fun Z m k=>jh C rest Z m k) mm i Z1 m1 j=.ok (M,O) m':=λ {g H' s' J' Z4 m4 Dj} I' x' r' l' ak' nd' e'=>by
     refine⟨n',SR _,i+1,g,H',J',Z4,m4,Dj,I'.iK,Tu.keep _ _ _ st3 λ b hb o eo=>(I'.pin (b,o) (RB _ (RB _ (fT hb eo)))).1,λ b hb=>?_,x',r',l',ak',nd',e'⟩;let⟨o,eo,_⟩:=Tu.obj _ _ st3 b hb;exact(I'.pin (b,o) (RB _ (RB _ (fT hb eo)))).2.1
    cases bb with
    |false=>exact again I5 PF r5 l5 ak5 nd5 e5
    |true=>
     erw[RQ] at e5 ⊢;let⟨p,m6,e6,e7⟩:=R.ah e5;let⟨acc6,Z6⟩:=p;have Qz:=pb _ s5 Y4 H5 (fun Y6 H6=>∃B,cN (some Δ) q H5 B H6/\Rel X.K cl B m6 H6/\RL X.K B H6 Z6 Y6/\AK bk X.K B H6 Δ acc6/\Δ∉B) I5 ⟨q,Z2,m3,j,acc6,Z6,m6,r5,l5,ak5,nd5,e6,fun B H6 Y6 x6 r6 l6 ak6 nd6=>⟨B,x6,r6,l6,ak6,nd6⟩⟩;refine hmo (λ s6 ⟨Y6,H6,I6,B,x6,r6,l6,ak6,nd6⟩=>?_) Qz;exact again I6 (PF.trans r5 x6 ak5.Dh) r6 l6 ak6 nd6 e7
theorem gI{w:World}{A:Around}{Q Q':Shared->Prop}{o:Option Comprehension}(j:∀s,Q s->Q' s)(h:dH P w A e elt d (.ref Δ) env Q o s):dH P w A e elt d (.ref Δ) env Q' o s:=by
 cases o with
 |none=>exact Rm h (λ _ _ h=>Rm h (λ _ s z=>j s z) λ _ _ z=>z) λ _ _ z=>z
 |some g=>exact Rm h (λ _ _ h=>Rm h (λ _ s z=>So z λ k l a=>by
   cases k with
   |ok f=>exact j _ a
   |error e=>exact a) λ _ _ z=>z) λ _ _ z=>z
theorem Lw{t:T}{qd:E}(hx:X.xe=λ _ _=>False)(hc:X.calm=true)(hg:gens[d+1]?=some ⟨tg,iter,ifs,0⟩)(hn:∀g',gens[d+1+1]?=some g'->g'.is_async=0/\∀x,foldedSetIterable g'.iter X.env x=pure x)
  (hi:PI X tg iter (SI X cl (dR C qd))) (pg:PG X tg (SG X cl (eV C (.pt t)))) (yj:k9 X ifs (ST X cl (bM C di))) (pb:PB X (λ Q s=>dH X.prog X.w X.A (.ListComp elt gens scope pos) elt (d+1) (.ref Δ) X.env Q gens[d+1+1]? s) (SB false X cl Δ (jh C rest))) :
  PB X (λ Q s=>dH X.prog X.w X.A (.ListComp elt gens scope pos) elt d (.ref Δ) X.env Q gens[d+1]? s) (SB false X cl Δ (jh C (.gen t [] qd di rest))):=by
 intro aa s Y H Q I h;let⟨J,Z,m,acc,acc',ρ',m',r,l,ak,nd,O,k⟩:=h;erw[nO,fR] at O;let⟨B,m1,e1,O⟩:=R.ah O;show dH X.prog X.w X.A (.ListComp elt gens scope pos) elt d (.ref Δ) X.env _ gens[d+1]? s;rw[hg];have go:=hi aa s Y H (λ QZ M=>∃a,Ext J H a M/\Rel X.K cl a m1 M/\IS X cl QZ B a M) I ⟨J,Z,m,B,m1,r,l,e1,fun a M QZ q N is=>⟨a,q,N,is⟩⟩;rw[hx] at go;refine Rm go (λ v s1 h1=>Rm h1 (λ itv s2 h2=>?_) λ _ _ z=>z) λ _ _ z=>z;let⟨it,fp,tn,QZ,M,e2,I1,Tu,st,Di,a,q,N,is⟩:=h2;subst e2;let⟨L,S⟩:=ak.mono r q nd;have j:codeAny (model X.prog X.w) X.A (.compLoop (.ListComp elt gens scope pos) (d+1) (.ref it) (.ref Δ) X.env) (λ rr u=>match rr with
   |.ok _=>∃g H',Inv X aa g H' u/\Q g H'
   |.error _=>False) s2:=
  qY hx hc (iG hg hn) gI Tu is pg yj pb I1 st Di ⟨[],by simp⟩ (λ h=>h) (λ h=>h) N (l.mono r q) L S O λ s' g H' J' I' x' r' l' ak' U=>⟨g,H',I',k J' H' g (q.toD.trans N x' L.Dh) r' l' ak' U⟩
 exact fq hg j (Tu.self _ 0 _ _ _ st j)
theorem RL.fR:∀{js:List Nat} {Z:Loc} {Y:L2.St},RL K J H Z Y->RL K J H (D.fR js Z) (L2.fR js Y)
 | [],_,_,l=>l
 |j::js,Z,Y,l=>by
  refine RL.fR (js:=js) ⟨by simp[l.len],λ {i w} h=>?_⟩
  by_cases e:j=i
  .subst e;rw[Vz] at h;rw[Rf rfl] at h;split at h<;>cases h
  .rw[RN e] at h ⊢;exact l.at_ h
def accN:Bool->Sem Value
 |false=>newList []
 |true=>newDict
def Dk:Bool->Obj
 |false=>{cls:=.type "list",dict:=none,data:=.seq ([]:List Value).toArray}
 |true=>{cls:=.type "dict",dict:=none,data:=.dict #[]}
def pK:Bool->HO
 |false=>.lst []
 |true=>.dK []
theorem Ac{A:Around}{Q:Value->Shared->Prop}{E:Value->Shared->Prop}(h:Q (.ref s⁻¹) {s with heap:=s.heap.push (Dk bk)}):wpAny (model X.prog X.w) A (accN bk) Q E s:=by
 cases bk<;>exact Sf h
theorem Dm(I:Inv X aa Y H s):Inv X aa Y (upd H s⁻¹ (pK bk)) {s with heap:=s.heap.push (Dk bk)}:=by
 cases bk
 .exact I.KQ (its:=[]) (t':=s.toks) .nil (TL _)
 .exact I.laid (a:=s⁻¹) (o:=.dK []) (h':=s.heap.push {cls:=.type "dict",data:=.dict #[]}) (t':=s.toks) (λ _ _ q=>Q3 _ q) (Q7 _) (qF s.heap I.big)
theorem AK.zero(h:H Δ=@(pK bk)):AK bk K J H Δ []:=by
 cases bk
 .exact⟨[],h,.nil⟩
 .exact⟨[],h,.nil⟩
def tV(prog:Program)(w:World)(A:Around)(e:Expr):Prop:=∀(R:Result->Shared->Prop) (s:Shared) (it a:Value) (env:Env),codeAny (model prog w) A (.compLoop e 0 it a env) R s->
 wpAny (model prog w) A (pyIter it) (λ h g=>codeAny (model prog w) A (.compLoop e 0 h a env) R g) (notedBy (model prog w) A env λ x g=>R (.error x) g) s->codeAny (model prog w) A (.compStart e 0 it a env) R s
theorem qZ{ev:Loc->Mem->R W}{js:List Nat}{gs:List Comprehension}{t:T}{qd:E}{rw:Env->Addr->(Shared->Prop)->Shared->Prop}(hc:X.calm=true)(ok:fW X.N js scope X.env.scope)(hcl:clausesOf e=⟨tg,iter,ifs,0⟩::gs)(hst:tV X.prog X.w X.A e)
  (hlr:∀it Δ env,qX X.prog X.w X.A e 0 tg ifs (.ref it) (.ref Δ) env (rw env Δ)) (hmo:∀{Δ:Addr} {env:Env} {Q Q':Shared->Prop} {s:Shared},(∀s,Q s->Q' s)->rw env Δ Q s->rw env Δ Q' s)
  (hev:∀{Z:Loc} {m:Mem} {w:W} {m':Mem},ev Z m=.ok w m'->∃acc Z9 m9 o,jh C (.gen t js qd di rest) Z m []=.ok (acc,Z9) m9/\w=.ref m9.length/\m'=m9++[o]/\∀{J:List Addr} {H:Hp} {Δ:Addr},AK bk X.K J H Δ acc->RO X.K cl J H Δ o)
  (hi:PI X tg iter (SI X cl (dR C qd))) (pg:∀L g H₀ M pn,PG (X.comp scope L g H₀ M pn) tg (SG (X.comp scope L g H₀ M pn) cl (eV C (.pt t)))) (yj:∀L g H₀ M pn,k9 (X.comp scope L g H₀ M pn) ifs (ST (X.comp scope L g H₀ M pn) cl (bM C di)))
  (pb:∀L g H₀ M pn Δ,PB (X.comp scope L g H₀ M pn) (rw (X.comp scope L g H₀ M pn).env Δ) (SB bk (X.comp scope L g H₀ M pn) cl Δ (jh C rest)))
  (hs:∀x,foldedSetIterable iter X.env x=pure x) (I:Inv X aa Y H s) (h:SE X cl ev Y H Q) {use:Option (Value->Sem Unit)} {Q':Value->Shared->Prop}
  (fin:∀(D Cf:Addr) (s':Shared) (H':Hp),(∀h',(∀b o,b≠Cf->s'.heap.get? b=some o->h'.get? b=some o)->Inv X aa Y H' {s' with heap:=h'})->Q (.ref D) H'->(∃m,s'.heap.Ns Cf m)->H' Cf=none->Cf≠X.env.locals->X.s₀⁻¹<=Cf->(∀x c,X.env.cells.lookup x=some c->c≠Cf)->(∀p∈X.pn++aa,p.1≠Cf)->
   compPost (model X.prog X.w) X.A X.xe use Q' (.ref D) Cf (.ok .next) s') :
  wpAny (model X.prog X.w) X.A (comprehension e scope X.env p (accN bk) false (eval iter X.env) use) Q' X.xe s:=by
 let⟨J,Z,m,w,m',r,l,ew,k⟩:=h;let⟨ws,Z9,m9,ob,e8,rfl,rfl,hob⟩:=hev ew;clear ew;erw[nO] at e8;let⟨src,m1,e1,e9⟩:=R.ah e8;clear e8;have hclos:closureFor scope X.env=pure (dz X.env scope.names []):=mF λ y hy hk=>I.ok.has y.1 (ok.free y hy hk);refine wpAny_comprehension_free hcl hs hclos ok.kind ok.loc (bF (hi aa s Y H (λ QZ H1=>∃U,Ext J H U H1/\Rel X.K cl U m1 H1/\IS X cl QZ src U H1) I ⟨J,Z,m,src,m1,r,l,e1,fun U H1 QZ x1 r1 is=>⟨U,x1,r1,is⟩⟩) λ v s1 h1=>bF h1 λ itv B h2=>?_);let⟨it,M,tn,QZ,H2,e2,I2,Tu,st2,f2,S,x2,r2,is⟩:=h2;subst e2;have MJ:H2 B⁻¹=none:=I2.fresh;refine Ac ?_;have I3:Inv X aa Y (upd H2 B⁻¹ (pK bk)) {B with heap:=B.heap.push (Dk bk)}:=Dm I2;generalize hs3:({B with heap:=B.heap.push (Dk bk)}:Shared)=s3 at I3 ⊢;have Lx:∀b o,B.heap.get? b=some o->s3.heap.get? b=some o:=λ b o e=>by rw[<-hs3];exact Q3 _ e
 have Dn:∀b∈M,b<B⁻¹:=λ b j=>by
  let⟨o,e,_⟩:=Tu.obj _ _ st2 b j;exact Q6 e
 have Ia:s3⁻¹=B⁻¹+1:=by rw[<-hs3];exact R7 _ _
 have f3:∀b∈M,jj X aa (upd H2 B⁻¹ (pK bk)) b:=λ b j=>⟨by rw[ao (Rb (Dn b j))];exact(f2 b j).1,(f2 b j).2⟩;refine I3.enter ok f3 (λ b j=>by rw[Ia];exact Su (Dn b j)) λ O h₁ old F I4=>?_;have PJ:tn 0 h₁:=Tu.keep _ _ _ st2 λ b j o e=>old _ _ (Lx _ _ e);have stat:∀{H':Hp},(∀b∈M,H' b=none)->∀b∈M,jj (X.comp scope O s3 (upd H2 B⁻¹ (pK bk)) M aa) [] H' b:=λ {H'} hn b j=>by
  refine⟨hn b j,?_,λ z=>?_,.inl j,λ x c e=>?_,λ p hp=>?_⟩
  .show b≠s3⁻¹;exact Rb (by rw[Ia];exact Su (Dn b j))
  .rcases Rk.mp (I3.ji b z) with q | q
   .exact(f2 b j).2.1 q
   .exact(f2 b j).2.2.1 q
  .rcases F.old x c e with e | e
   .exact(f2 b j).2.2.2.2.1 x c e
   .exact Sn (Vy (by rw[Ia];exact Su (Dn b j)) e)
  .exact(f2 b j).2.2.2.2.2 p (~~~hp)
 have x3:Ext S H2 S (upd H2 B⁻¹ (pK bk)):=⟨⟨[],by simp,by simp⟩,λ h _ _=>by rw[ao (aB h MJ)];exact h⟩;have r3:Rel X.K cl S m1 (upd H2 B⁻¹ (pK bk)):=⟨r2.len,r2.nd,λ h1 h2=>by
  have q:=r2.obj h1 h2;let⟨u,e,_⟩:=q.ex;exact q.mono r2 x3 (ao (aB e MJ))⟩
 have l3:RL X.K S (upd H2 B⁻¹ (pK bk)) (D.fR js Z) (L2.fR js Y):=((l.mono r x2).mono r2 x3).fR;have nD:B⁻¹∉S:=r2.Lb MJ;have hD:H B⁻¹=none:=by
  cases z:H B⁻¹ with
  |none=>rfl
  |some o=>
   by_cases j:B⁻¹∈J
   .let⟨γ,hγ,_⟩:=x2.pre;exact absurd (by rw[hγ];exact RJ _ j) nD
   .have:=x2.keep z j 's';rw[MJ] at this;cases this
 have loop:∀s₄:Shared,s₄={s3 with heap:=h₁}->
   codeAny (model X.prog X.w) X.A (.compLoop e 0 (.ref it) (.ref B⁻¹) (compEnvC scope O s3⁻¹ X.env))
    (compPost (model X.prog X.w) X.A X.xe use Q' (.ref B⁻¹) s3⁻¹) s₄:=by
  intro s₄ e₄;subst e₄;refine qY (X:=X.comp scope O s3 (upd H2 B⁻¹ (pK bk)) M aa) (cl:=cl) (C:=C) (Δ:=B⁻¹) rfl hc (hlr _ _ _) hmo Tu is (pg _ _ _ _ _) (yj _ _ _ _ _) (pb _ _ _ _ _ _)
   I4 PJ (stat λ b j=>(f3 b j).1) ⟨[],by simp⟩ (λ h=>x3.MH r2 BI h) (λ h=>x3.fz r2 BI h) r3 l3 (AK.zero aC) nD e9 ?_
  intro s' σ' H' J' I' x' r' l' ak' nd';let⟨m6,hm6,_⟩:=id I'.loc;have Oh:=r'.out nd' (hob ak');have Oi:Ext J H (J'++[B⁻¹]) H':=by
   let⟨γ,hγ,fγ⟩:=x2.pre;let⟨δ,hδ,fδ⟩:=x'.pre;refine⟨⟨γ++δ++[B⁻¹],by rw[hδ,hγ];simp,λ a ha=>?_⟩,λ {a o} h j _=>?_⟩
   .rcases RC.mp ha with ha | ha
    .rcases RC.mp ha with ha | ha
     .exact fγ a ha
     .have z3:=fδ a ha;have na:a≠B⁻¹:=by
       rintro rfl;rw[aC] at z3;cases z3
      rw[ao na] at z3;cases z:H a with
      |none=>rfl
      |some o=>
       by_cases j:a∈J
       .let⟨u,eu,_⟩:=r2.ex (a:=a) (by rw[hγ];exact RJ _ j);rw[z3] at eu;cases eu
       .have:=x2.keep z j 's';rw[z3] at this;cases this
    .simp at ha;rw[ha];exact hD
   .have h2:=x2.keep h j 's';have na:a≠B⁻¹:=aB h hD;have nb:a∉S:=λ z=>by
     rw[hγ] at z;rcases RC.mp z with z | z
     .exact j z
     .rw[fγ a z] at h;cases h
    exact x'.keep (by rw[ao na];exact h2) nb (~~~na)
  have Oj:Q (.ref B⁻¹) H':=k _ _ _ Oi Oh (.ref (r'.last _));refine fin _ _ s' H' (λ h' hk=>I3.G1 f3 I' hk) Oj ⟨m6,hm6⟩ I'.free (Sn (Rh I3.lt (Q7 _))) I3.sz (λ x c e=>?_) (λ p hp=>Rb (Q6 (I3.pin p hp).1));let⟨v,o,q,_⟩:=I3.cell x c e;exact Rb (Q6 q)
 exact hst _ _ _ _ _ (loop _ rfl) (Tu.self _ 0 _ _ _ PJ (loop _ rfl))
theorem Ad{k:Key}{a:List (Key×V)}(h:∀p∈a,p.1≠k):putK a k v=a++[(k,v)]:=by
 unfold putK;rw[Ri];intro z;let⟨p,g,e⟩:=List.any_eq_true.mp z;exact h p g (SH e)
theorem xO:∀{a g:List (Key×V)},(a.map (·.1)).Nodup->(∀p∈g,∀q∈a,p.1≠q.1)->eZ g a=g++a:=by
 intro a
 induction a with
 |nil=>intro g _ _;simp[eZ]
 |cons q r t=>
  intro g j l;rw[RU,Vr] at j;have e:eZ g (q::r)=eZ (putK g q.1 q.2) r:=rfl;rw[e,Ad λ p h=>l p h q RG,t j.2 λ p h x k=>?_,Rt]
  .rfl
  .rcases RC.mp h with h | h
   .exact l p h x (Ro _ k)
   .rw[RZ] at h;subst h;intro z;exact j.1 (Sg.mpr ⟨x,k,z.symm⟩)
theorem q8{g:List (Str×V)}(h:(g.map (·.1)).Nodup):((keyed g).map (·.1)).Nodup:=by
 have e:(keyed g).map (·.1)=(g.map (·.1)).map (Sum.inr:Str->Key):=by simp[keyed,UE]
 rw[e];generalize g.map (·.1)=l at h
 induction l with
 |nil=>exact VF
 |cons a r j=>
  rw[Vr] at h;rw[RU,Vr];refine⟨λ z=>?_,j h.2⟩;let⟨b,k,e⟩:=Sg.mp z;cases e;exact h.1 k
variable{scope:Scope}{pos:Pos}{js:List Nat}{tg iter:Expr}{ifs:List Expr}{t:T}{qd:E}{di:Es}{rest:G}
theorem vd{Z:Loc}(h:aq C (.comp (.gen t js qd di rest)) Z m=.ok w m'):∃g j a o,jh C (.gen t js qd di rest) Z m []=.ok (g,j) a/\w=.ref a.length/\m'=a++[o]/\∀{J:List Addr} {H:Hp} {Δ:Addr},AK false X.K J H Δ g->RO X.K cl J H Δ o:=by
 erw[gF] at h;let⟨⟨ws,j⟩,a,l,k⟩:=R.ah h;cases k;exact⟨ws,j,a,.lst ws,l,rfl,rfl,λ h=>h⟩
section
variable{ev:Loc->Mem->R W}{gs:List Comprehension}{rw:Env->Addr->(Shared->Prop)->Shared->Prop}
theorem Dp(hc:X.calm=true)(ok:fW X.N js scope X.env.scope)(O:clausesOf e=⟨tg,iter,ifs,0⟩::gs)(r:tV X.prog X.w X.A e)
  (L:∀it Δ env,qX X.prog X.w X.A e 0 tg ifs (.ref it) (.ref Δ) env (rw env Δ)) (z:∀{Δ:Addr} {env:Env} {Q Q':Shared->Prop} {s:Shared},(∀s,Q s->Q' s)->rw env Δ Q s->rw env Δ Q' s)
  (M:∀{Z:Loc} {m:Mem} {w:W} {m':Mem},ev Z m=.ok w m'->∃k Z9 l o,jh C (.gen t js qd di rest) Z m []=.ok (k,Z9) l/\w=.ref l.length/\m'=l++[o]/\∀{J:List Addr} {H:Hp} {Δ:Addr},AK bk X.K J H Δ k->RO X.K cl J H Δ o)
  (hi:PI X tg iter (SI X cl (dR C qd))) (U:∀g a H₀ j pn,PG (X.comp scope g a H₀ j pn) tg (SG (X.comp scope g a H₀ j pn) cl (eV C (.pt t)))) (S:∀g a H₀ j pn,k9 (X.comp scope g a H₀ j pn) ifs (ST (X.comp scope g a H₀ j pn) cl (bM C di)))
  (pb:∀g a H₀ j pn Δ,PB (X.comp scope g a H₀ j pn) (rw (X.comp scope g a H₀ j pn).env Δ) (SB bk (X.comp scope g a H₀ j pn) cl Δ (jh C rest)))
  (hs:∀x,foldedSetIterable iter X.env x=pure x) (Ol:eval e X.env=comprehension e scope X.env pp (accN bk) false (eval iter X.env) none):PE X e (SE X cl ev):=by
 intro aa s Y H Q I h;rw[Ol];refine qZ hc ok O r L z M hi U S pb hs I h ?_;intro D Cf s' H' hI q B hn h1 h2 h3 h4;let⟨m,B⟩:=B;exact⟨m,B,λ h' u=>⟨.ref D,H',hI h' λ b o hb e=>u.extBut b o hb e,rfl,q⟩⟩
theorem Dq{de:E}(hN:X.N.Nodup)(hy:X.N[i]?=some y)(hx:L2.Loc X.env.scope y)(hc:X.calm=true)(ok:fW X.N js scope X.env.scope)(hcl:clausesOf e=⟨tg,iter,ifs,0⟩::gs)(U:tV X.prog X.w X.A e)
  (hlr:∀it Δ env,qX X.prog X.w X.A e 0 tg ifs (.ref it) (.ref Δ) env (rw env Δ)) (hmo:∀{Δ:Addr} {env:Env} {Q Q':Shared->Prop} {s:Shared},(∀s,Q s->Q' s)->rw env Δ Q s->rw env Δ Q' s)
  (hev:∀{Z:Loc} {m:Mem} {w:W} {m':Mem},aq C de Z m=.ok w m'->∃M Z9 O o,jh C (.gen t js qd di rest) Z m []=.ok (M,Z9) O/\w=.ref O.length/\m'=O++[o]/\∀{J:List Addr} {H:Hp} {Δ:Addr},AK bk X.K J H Δ M->RO X.K cl J H Δ o)
  (hi:PI X tg iter (SI X cl (dR C qd))) (pg:∀j g H₀ z pn,PG (X.comp scope j g H₀ z pn) tg (SG (X.comp scope j g H₀ z pn) cl (eV C (.pt t)))) (yj:∀j g H₀ z pn,k9 (X.comp scope j g H₀ z pn) ifs (ST (X.comp scope j g H₀ z pn) cl (bM C di)))
  (pb:∀j g H₀ z pn Δ,PB (X.comp scope j g H₀ z pn) (rw (X.comp scope j g H₀ z pn).env Δ) (SB bk (X.comp scope j g H₀ z pn) cl Δ (jh C rest)))
  (hs:∀x,foldedSetIterable iter X.env x=pure x) (S:swapsWith e @(.Name y py) spos.line X.env=pure true) (hf:X.fn y=true\/X.env.scope.names.lookup y=some .local)
 (NG:evalThenUse e X.env (assign (.Name y py) X.env)=(do let _ <-comprehension e scope X.env pp (accN bk) false (eval iter X.env) @(assign (.Name y py) X.env))) :
  PS X (.Assign [.Name y py] e spos) (SS X cl (bu C (.asg (.pt (.var i)) de))):=by
 intro aa s Y H D I h;let⟨J,Z,m,f,m',r,l,L,k⟩:=h;erw[gr] at L;let⟨w,m1,e1,L⟩:=R.ah L;erw[eV,aK,R.bind] at L;cases L;have h:SE X cl (aq C de) Y H (λ v H'=>D.nx (Y.set i (some v)) H'):=⟨J,Z,m,w,_,r,l,e1,fun β1 H1 v1 x1 r1 q1=>k _ _ x1 r1 _ ((l.mono r x1).set q1)⟩;rw[exec_Assign_Name_used _ _ _ _ S];refine Q2 (R8 (Q2 ?_));rw[NG];refine Q2 (Rm (qZ (use:=@(assign (.Name y py) X.env)) (Q':=λ _ B=>SP X aa D .next B) hc ok hcl U hlr hmo hev hi pg yj pb hs I h ?_) (λ _ B hq=>Q8 (Q8 hq)) λ _ _ e=>e);intro Dl Cf B H' hI q hm hn h1 h2 h3 h4;let⟨m,hm⟩:=hm;have I':Inv X aa Y H' B:=hI B.heap λ b o _ e=>e;refine wpAny_assign_Name (mS I' hN hy hx (v:=.ref Dl) (u:=.ref Dl) rfl (λ s2 I2 hsb=>?_) hf);let⟨a,sb,ha⟩:=hsb;have hne:Cf≠a:=by
  rcases ha with rfl | ha
  .exact h1
  .exact(h3 _ _ ha).symm
 refine⟨m,hm.sameBut sb hne,λ h' hs'=>⟨_,H',?_,q⟩⟩;exact I2.turned (t':=s2.toks) (it:=Cf) (λ b o hb e=>hs'.extBut b o hb e) hn h1 (.inr h2) h3 h4
end
structure CL(X:L2.Cx)(cl:Cl)(C:D.Cx)(elt tg iter:Expr)(ifs:List Expr)(gs:List Comprehension)(scope:Scope)(pos:Pos)(js:List Nat)(t:T)(qd:E)(di:Es)(rest:G):Prop where
 calm:X.calm=true
 ok:fW X.N js scope X.env.scope
 next:∀g',gs[0]?=some g'->g'.is_async=0/\∀env x,foldedSetIterable g'.iter env x=pure x
 hi:PI X tg iter (SI X cl (dR C qd))
 pg:∀cl' s₀ H₀ fp pn,PG (X.comp scope cl' s₀ H₀ fp pn) tg (SG (X.comp scope cl' s₀ H₀ fp pn) cl (eV C (.pt t)))
 yj:∀cl' s₀ H₀ fp pn,k9 (X.comp scope cl' s₀ H₀ fp pn) ifs (ST (X.comp scope cl' s₀ H₀ fp pn) cl (bM C di))
 pb:∀cl' s₀ H₀ fp pn Δ,PB (X.comp scope cl' s₀ H₀ fp pn) (λ Q s=>dH X.prog X.w X.A (.ListComp elt (⟨tg,iter,ifs,0⟩::gs) scope pos) elt 0 (.ref Δ) (X.comp scope cl' s₀ H₀ fp pn).env Q (⟨tg,iter,ifs,0⟩::gs)[0+1]? s) (SB false (X.comp scope cl' s₀ H₀ fp pn) cl Δ (jh C rest))
 hs:∀x,foldedSetIterable iter X.env x=pure x
section
variable{gs:List Comprehension}
theorem Ib(h:CL X cl C elt tg iter ifs gs scope pos js t qd di rest)(l:eval (.ListComp elt (⟨tg,iter,ifs,0⟩::gs) scope pos) X.env=comprehension (.ListComp elt (⟨tg,iter,ifs,0⟩::gs) scope pos) scope X.env pp (newList []) false (eval iter X.env) none) :
  PE X (.ListComp elt (⟨tg,iter,ifs,0⟩::gs) scope pos) (SE X cl (aq C (.comp (.gen t js qd di rest)))):=
 Dp (bk:=false) (rw:=λ env Δ Q s=>dH X.prog X.w X.A (.ListComp elt (⟨tg,iter,ifs,0⟩::gs) scope pos) elt 0 (.ref Δ) env Q (⟨tg,iter,ifs,0⟩::gs)[0+1]? s) h.calm h.ok rfl (λ _ _ _ _ _ a b=>fq rfl a b)
  (λ _ _ _=>iG rfl λ j g=>⟨(h.next j g).1,(h.next j g).2 _⟩) (λ k z=>gI k z) (λ h=>vd h) h.hi h.pg h.yj h.pb h.hs l
theorem Dr(x:X.N.Nodup)(l:X.N[i]?=some y)(q:L2.Loc X.env.scope y)(h:CL X cl C elt tg iter ifs gs scope pos js t qd di rest)
  (j:swapsWith (.ListComp elt (⟨tg,iter,ifs,0⟩::gs) scope pos) @(.Name y py) spos.line X.env=pure true) (u:X.fn y=true\/X.env.scope.names.lookup y=some .local) :
  PS X (.Assign [.Name y py] (.ListComp elt (⟨tg,iter,ifs,0⟩::gs) scope pos) spos) (SS X cl (bu C (.asg (.pt (.var i)) (.comp (.gen t js qd di rest))))):=
 Dq (bk:=false) (rw:=λ env Δ Q s=>dH X.prog X.w X.A (.ListComp elt (⟨tg,iter,ifs,0⟩::gs) scope pos) elt 0 (.ref Δ) env Q (⟨tg,iter,ifs,0⟩::gs)[0+1]? s) x l q h.calm h.ok rfl (λ _ _ _ _ _ a b=>fq rfl a b)
  (λ _ _ _=>iG rfl λ k g=>⟨(h.next k g).1,(h.next k g).2 _⟩) (λ r z=>gI r z) (λ h=>vd h) h.hi h.pg h.yj h.pb h.hs j u rfl
variable{kx vx:Expr}{dk dv:E}
end
theorem Ds:k9 X [] (ST X cl (bM C .nil)):=by
 intro aa s Y H Q I h;let⟨J,Z,m,b,m',r,l,e,k⟩:=h;erw[iT] at e;cases e;exact yQ aa s Y H Q I (k _ _ Ext.refl r)
theorem Du{a:Expr}(x:PT X a (ST X cl (bq C da))):k9 X [a] (ST X cl (bM C %[|da])):=by
 intro aa s Y H Q I h;refine yR x aa s Y H Q I ?_;let⟨J,Z,m,b,m',r,l,e,k⟩:=h;erw[iT] at e;let⟨c,u,z,e⟩:=R.ah e;refine⟨J,Z,m,c,u,r,l,z,fun q A g j=>?_⟩;cases c with
 |true=>erw[RQ] at e;cases e;exact k _ _ g j
 |false=>erw[RA,Rz] at e;cases e;exact k _ _ g j
end
def dj(γ:List Addr)(h:Heap)(H:Hp):Hp:=λ b=>if b∈γ then match H b,h.get? b with
  |some (.lst vs),some o=>some (.frz o (.lst vs))
  |some (.ins c dx fs),some o=>some (.frz o (.ins c dx fs))
  |u,_=>u else H b
section
variable{γ:List Addr}{h:Heap}{H:Hp}{b:Addr}
theorem iH:dj γ h H b=H b\/∃o u,b∈γ/\H b=some u/\h.get? b=some o/\dj γ h H b=some (.frz o u)/\((∃vs,u=.lst vs)\/∃c dx k,u=.ins c dx k):=by
 unfold dj
 by_cases a:b∈γ
 .erw[Rf a];split
  .ext vs o j g;exact .inr ⟨o,_,a,j,g,rfl,.inl ⟨vs,rfl⟩⟩
  .ext c dx k o j g;exact .inr ⟨o,_,a,j,g,rfl,.inr ⟨c,dx,k,rfl⟩⟩
  .exact .inl rfl
 .exact .inl (Ri a)
theorem gV(e:H b=none):dj γ h H b=none:=by
 rcases iH (γ:=γ) (h:=h) (H:=H) (b:=b) with z | ⟨o,u,_,z,_⟩
 .rw[z,e]
 .rw[e] at z;cases z
theorem bU{u:HO}(e:H b=some u)(j:∀vs,u≠.lst vs)(g:∀c dx a,u≠.ins c dx a):dj γ h H b=some u:=by
 rcases iH (γ:=γ) (h:=h) (H:=H) (b:=b) with z | ⟨o,k,_,z,_,_,⟨vs,rfl⟩ | ⟨c,dx,a,rfl⟩⟩
 .rw[z,e]
 .rw[e] at z;cases z;exact absurd rfl (j _)
 .rw[e] at z;cases z;exact absurd rfl (g _ _ _)
theorem bJ(e:b∉γ):dj γ h H b=H b:=by unfold dj;rw[Ri e]
theorem Ae{o:Obj}(e:b∈γ)(e1:H b=@(.lst vs))(e2:h.get? b=some o):dj γ h H b=some (.frz o (.lst vs)):=by unfold dj;rw[Rf e,e1,e2]
theorem Af{c:Addr}{a:List (Str×V)}{o:Obj}(e:b∈γ)(e1:H b=@(.ins c dx a))(e2:h.get? b=some o):dj γ h H b=some (.frz o (.ins c dx a)):=by unfold dj;rw[Rf e,e1,e2]
theorem Ly{w:World}(x:fQ P w H h):fQ P w (dj γ h H) h:=λ a u e=>by
 have g:∀v,H a=some v->aX P w (D.dj γ h H) h a v:=λ v l=>(x a v l).stay (λ _ _ _ q=>q) (λ c q=>bU q (by intro _ z;cases z) (by intro _ _ _ z;cases z)) λ c r q=>bU q (by intro _ z;cases z) (by intro _ _ _ z;cases z);rcases iH (γ:=γ) (h:=h) (H:=H) (b:=a) with z | ⟨o,v,_,z,k,j,_⟩
 .exact g u (by rw[<-z];exact e)
 .rw[j] at e;cases e;exact⟨k,g v z⟩
end
theorem Fp{X:L2.Cx}(I:Inv X aa Y H s)(γ:List Addr):Inv X aa Y (dj γ s.heap H) s where
 ok:=I.ok
 os:=I.os
 bare:=I.bare
 base:={
  keep:=I.base.keep
  slot:=I.base.slot
  free:=λ b o q n g=>gV (I.base.free b o q n g)
  there:=I.base.there
  tups:=λ b xs q=>bU (I.base.tups b xs q) (by intro _ z;cases z) (by intro _ _ _ z;cases z)
  gw:=λ b o u q=>bU (I.base.gw b o u q) (by intro _ z;cases z) (by intro _ _ _ z;cases z)
  g8:=λ b ps q=>let ⟨more,e⟩:=I.base.g8 b ps q;⟨more,bU e (by intro _ z;cases z) (by intro _ _ _ z;cases z)⟩}
 loc:=I.loc
 cell:=I.cell
 free:=gV I.free
 freeC:=λ x c e=>gV (I.freeC x c e)
 pin:=λ p h=>let ⟨a,b,c⟩:=I.pin p h;⟨a,gV b,c⟩
 hok:=Ly I.hok
 len:=I.len
section
variable{K:ae}{cl:Cl}{J γ:List Addr}{H:Hp}{h:Heap}{m:Mem}
theorem Fq{a:Addr}(q:dw K H a vs):dw K (dj γ h H) a vs:=by
 rcases q with (q | ⟨o,q⟩) | q
 .exact .inl (.inl (bU q (by intro _ z;cases z) (by intro _ _ _ z;cases z)))
 .exact .inl (.inr ⟨o,bU q (by intro _ z;cases z) (by intro _ _ _ z;cases z)⟩)
 .exact .inr q
theorem Ft{a:Addr}(q:qU K H a vs):qU K (dj γ h H) a vs:=by
 rcases q with⟨o,q⟩ | q
 .exact .inl ⟨o,bU q (by intro _ z;cases z) (by intro _ _ _ z;cases z)⟩
 .exact .inr q
theorem RW.xP(q:RW K (J++γ) H w v):iQ J.length w=true->RW K J (dj γ h H) w v:=
 RW.rec (motive_1:=λ w v _=>iQ J.length w=true->RW K J (dj γ h H) w v) (motive_2:=λ w v _=>dB J.length w=true->aU K J (dj γ h H) w v) (λ _=>.non) (λ b _=>.bl b) (λ b _=>.int b) (λ b _=>.str b) (λ h _ i e=>.tup (Fq h) (i e)) (λ h _ i e=>.fz (Ft h) (i e)) (λ h z _ i e=>.obj (bU h (by intro _ z;cases z) (by intro _ _ _ z;cases z)) z (i e)) (λ q e=>.ref (by rw[Rc (SH e)] at q;exact q)) (λ _=>.nil) (λ _ _ a b e=>.cons (a (Rg.mp e).1) (b (Rg.mp e).2)) q
theorem aU.xP{w:List W}{v:List V}(q:aU K (J++γ) H w v)(e:dB J.length w=true):aU K J (dj γ h H) w v:=by
 induction w generalizing v with
 |nil=>cases q;exact .nil
 |cons x w g=>cases q with | cons a b=>exact .cons (a.xP (Rg.mp e).1) (g b (Rg.mp e).2)
theorem fL.snd:∀{a:List (Str×W)} {gs:List (Str×V)},fL K J H a gs->aU K J H (a.map (·.2)) (gs.map (·.2))/\a.map (·.1)=gs.map (·.1)
 |_,_,.nil=>⟨.nil,rfl⟩
 |_,_,.cons q t=>⟨.cons q t.snd.1,by rw[RU,RU,t.snd.2]⟩
theorem fL.of:∀{a:List (Str×W)} {gs:List (Str×V)},a.map (·.1)=gs.map (·.1)->aU K J H (a.map (·.2)) (gs.map (·.2))->fL K J H a gs
 | [],[],_,_=>.nil
 |(f,w)::a,(g,v)::gs,e,t=>by
  erw[RU,List.cons.injEq] at e;let⟨rfl,e⟩:=e;cases t with
  |cons q t=>exact .cons q (fL.of e t)
 | [],_::_,e,_=>by simp at e
 |_::_,[],e,_=>by simp at e
mutual
theorem RW.mz{g:Nat->Option W}(a:∀{n w v},g n=some w->RW K (J++γ) H (.ref n) v->RW K J (dj γ h H) w v):∀{w:W} {v:V} {w1:W},RW K (J++γ) H w v->D.mz g w=some w1->RW K J (dj γ h H) w1 v
 |_,_,_,.non,e=>by erw[D.mz] at e;cases e;exact .non
 |_,_,_,.bl b,e=>by erw[D.mz] at e;cases e;exact .bl b
 |_,_,_,.int i,e=>by erw[D.mz] at e;cases e;exact .int i
 |_,_,_,.str s,e=>by erw[D.mz] at e;cases e;exact .str s
 |_,_,_,.tup q t,e=>by
  erw[D.mz,Q0] at e;let⟨ys,e1,rfl⟩:=e;exact .tup (Fq q) (aU.fX a t e1)
 |_,_,_,.fz q t,e=>by
  erw[D.mz,Q0] at e;let⟨ys,e1,rfl⟩:=e;exact .fz (Ft q) (aU.fX a t e1)
 |_,_,_,.obj q z t,e=>by
  erw[D.mz,Q0] at e;let⟨ys,e1,rfl⟩:=e;exact .obj (bU q (by intro _ z;cases z) (by intro _ _ _ z;cases z)) z (aU.fX a t e1)
 |_,_,_,.ref q,e=>a (by simpa only[D.mz] using e) (.ref q)
theorem aU.fX{g:Nat->Option W}(a:∀{n w v},g n=some w->RW K (J++γ) H (.ref n) v->RW K J (dj γ h H) w v):∀{w:List W} {v:List V} {w1:List W},aU K (J++γ) H w v->D.fX g w=some w1->aU K J (dj γ h H) w1 v
 |_,_,_,.nil,e=>by erw[D.fX] at e;cases e;exact .nil
 |_,_,_,.cons q t,e=>by
  erw[D.fX] at e;split at e
  .cases e
  .ext y e1;split at e
   .cases e
   .ext ys e2;cases e;exact .cons (RW.mz a q e1) (aU.fX a t e2)
end
theorem pL(j:∀a u,H a=some u->((∃vs,u=.lst vs)\/∃c dx x,u=.ins c dx x)->∃o,h.get? a=some o)(r:Rel K cl (J++γ) m H):∀(d:Nat) {n:Nat} {w:W} {v:V},CP m J.length d n=some w->RW K (J++γ) H (.ref n) v->RW K J (dj γ h H) w v
 |0,n,w,v,e,q=>by
  erw[CP] at e;split at e
  .ext g;cases e;exact q.xP (by simpa only[iQ,Sa] using g)
  .cases e
 |d+1,n,w,v,e,q=>by
  erw[CP] at e;split at e
  .ext g;cases e;exact q.xP (by simpa only[iQ,Sa] using g)
  .ext g;cases q with
   |ref k=>
    ext a;have l:a∈γ:=by
     rw[Rp 'o'] at k;exact RP k
    split at e
    .ext xs e1;erw[Q0] at e;let⟨ys,e2,rfl⟩:=e;let⟨vs,z,t⟩:=r.obj e1 k;let⟨o,ho⟩:=j a _ z (.inl ⟨_,rfl⟩);exact .fz (.inl ⟨o,Ae l z ho⟩) (t.fX (λ e q=>pL j r d e q) e2)
    .ext c x e1;erw[Q0] at e;let⟨ys,e2,rfl⟩:=e;let⟨dx,fs',z,t⟩:=r.obj e1 k;let⟨o,ho⟩:=j a _ z (.inr ⟨_,_,_,rfl⟩);exact .obj (Af l z ho) t.snd.2 (t.snd.1.fX (λ e q=>pL j r d e q) e2)
    .cases e
end
theorem Fv{X:L2.Cx}{cl:Cl}{ex:Expr}(hp:PE X ex (SE X cl (aq C d))):PE X ex (SE X cl (aq C (.frz d))):=by
 rintro aa s Y H Q I ⟨J,Z,m,w,m',r,l,e,k⟩;erw[iS] at e;cases h0:aq C d Z m with
 |no=>rw[h0] at e;cases e
 |ok w0 m0=>
  rw[h0] at e;erw[ze] at e;split at e
  .ext hc;split at e
   .ext w1 e1;cases e;refine bF (hp aa s Y H (λ v x=>∃g,Ext J H g x/\Rel X.K cl g m0 x/\RW X.K g x w0 v) I ⟨J,Z,m,w0,m0,r,l,h0,fun g x v1 L h T=>⟨g,L,h,T⟩⟩) λ u s1 ⟨v,x,I1,rv,g,L,h,T⟩=>?_;let⟨B,rfl,U⟩:=L.pre;have hl:=r.len;have hh:∀a u,x a=some u->((∃vs,u=.lst vs)\/∃c dx R,u=.ins c dx R)->∃o,s1.heap.get? a=some o:=λ a u q hu=>by
     rcases hu with⟨vs,rfl⟩ | ⟨c,dx,R,rfl⟩
     .let⟨_,_,_,_,e⟩:=I1.hok a _ q;exact⟨_,e⟩
     .let⟨_,_,_,e,_⟩:=I1.hok a _ q;exact⟨_,e⟩
    refine⟨v,dj B s1.heap x,Fp I1 B,rv,k J _ v ⟨⟨[],by simp,by simp⟩,λ {a o} q N _=>?_⟩ ⟨?_,?_,λ {n o a} O h2=>?_⟩ ?_⟩
    .rw[bJ λ z=>by rw[U a z] at q;cases q];exact L.keep q N 's'
    .rw[Sb,hl];lia
    .exact(Tj.mp h.nd).1
    .have N:n<m.length:=by
      have:=(Q4.mp O).1;rw[Sb] at this;lia
     rw[S7 N] at O;have hb:(J++B)[n]?=some a:=by rw[Rc 'o'];exact h2
     have M:dF J.length o=true:=by
      rw[hl];exact RI.mp hc.2 o (RP (by rw[S7 N];exact O))
     have A:a∉B:=λ z=>by
      have:=(Tj.mp h.nd).2.2 a (RP h2) a z;exact this rfl
     have q:=h.obj O hb;cases o with
     |lst ws=>let⟨vs,e,t⟩:=q;exact⟨vs,(bJ A).trans e,t.xP (by simpa only[dF] using M)⟩
     |ins c R=>
      let⟨dx,j,e,t⟩:=q;exact⟨dx,j,(bJ A).trans e,.of t.snd.2 (t.snd.1.xP (by simpa only[dF] using M))⟩
     |set ks=>let⟨S,e,t⟩:=q;exact⟨S,(bJ A).trans e,t⟩
     |dic R=>
      let⟨j,e,t⟩:=q;exact⟨j,(bJ A).trans e,.of t.snd.2 (t.snd.1.xP (by simpa only[dF] using M))⟩
     |exc c f ws=>
      let⟨oa,od,vs,e,xo,t,d⟩:=q;exact⟨oa,od,vs,(bJ A).trans e,xo,t.xP (by simpa only[dF] using M),d.imp id λ ⟨dx,y,d1,d2,d3⟩=>⟨dx,y,d1,d2,(bJ λ z=>h.La d3 (RB _ z)).trans d3⟩⟩
    .rw[<-hl] at e1;exact T.mz (λ e q=>pL hh h 8 e q) e1
   .cases e
  .cases e
theorem RW.Lz(q:RW K J H w v):iQ J.length w=true:=
 RW.rec (motive_1:=λ w v _=>iQ J.length w=true) (motive_2:=λ w v _=>dB J.length w=true) rfl (λ _=>rfl) (λ _=>rfl) (λ _=>rfl) (λ _ _ i=>i) (λ _ _ i=>i) (λ _ _ _ i=>i) (λ q=>RX (Q4.mp q).1) rfl (λ _ _ a b=>Rg.mpr ⟨a,b⟩) q
theorem Rel.frozen{X:L2.Cx}{cl:Cl}{k:Shared}{γ:List Addr}{h:Hp}{m0:Mem}(r:Rel X.K cl J m H)(U:Ext J H (J++γ) h)(L:∀a∈γ,H a=none)(l:Rel X.K cl (J++γ) m0 h)(hc:m.length<=m0.length/\xh m.length (m0.take m.length)=true)(R:Inv X aa Y h k) :
  Ext J H J (dj γ k.heap h)/\Rel X.K cl J (m0.take m.length) (dj γ k.heap h)/\(∀a u,h a=some u->((∃vs,u=.lst vs)\/∃c dx I,u=.ins c dx I)->∃o,k.heap.get? a=some o):=by
 have M:=r.len;refine⟨⟨⟨[],by simp,by simp⟩,λ {a o} q A _=>?_⟩,⟨?_,?_,λ {n o a} B N=>?_⟩,λ a u q hu=>?_⟩
 .rw[bJ λ z=>by rw[L a z] at q;cases q];exact U.keep q A 's'
 .rw[Sb,M];lia
 .exact(Tj.mp l.nd).1
 .have A:n<m.length:=by
   have:=(Q4.mp B).1;rw[Sb] at this;lia
  rw[S7 A] at B;have hb:(J++γ)[n]?=some a:=by rw[Rc 'o'];exact N
  have x:dF J.length o=true:=by
   rw[M];exact RI.mp hc.2 o (RP (by rw[S7 A];exact B))
  have j:a∉γ:=λ z=>by
   have:=(Tj.mp l.nd).2.2 a (RP N) a z;exact this rfl
  have q:=l.obj B hb;cases o with
  |lst ws=>let⟨vs,e,t⟩:=q;exact⟨vs,(bJ j).trans e,t.xP (by simpa only[dF] using x)⟩
  |ins c I=>
   let⟨dx,g,e,t⟩:=q;exact⟨dx,g,(bJ j).trans e,.of t.snd.2 (t.snd.1.xP (by simpa only[dF] using x))⟩
  |set ks=>let⟨S,e,t⟩:=q;exact⟨S,(bJ j).trans e,t⟩
  |dic I=>
   let⟨g,e,t⟩:=q;exact⟨g,(bJ j).trans e,.of t.snd.2 (t.snd.1.xP (by simpa only[dF] using x))⟩
  |exc c f ws=>
   let⟨oa,od,vs,e,T,t,d⟩:=q;exact⟨oa,od,vs,(bJ j).trans e,T,t.xP (by simpa only[dF] using x),d.imp id λ ⟨dx,y,d1,d2,O⟩=>⟨dx,y,d1,d2,(bJ λ z=>l.La O (RB _ z)).trans O⟩⟩
 .rcases hu with⟨vs,rfl⟩ | ⟨c,dx,I,rfl⟩
  .let⟨_,_,_,_,e⟩:=R.hok a _ q;exact⟨_,e⟩
  .let⟨_,_,_,e,_⟩:=R.hok a _ q;exact⟨_,e⟩
theorem Ic{X:L2.Cx}{cl:Cl}(hp:PS X st (SS X cl (bu C (.asg (.pt (.var i)) d)))):PS X st (SS X cl (bu C (.asg (.pt (.var i)) (.frz d)))):=by
 rintro aa s Y H D I ⟨J,Z,m,f,m',r,l,e,k⟩;erw[gr,iS,eV,aK] at e;let⟨w1,m1,t,e⟩:=R.ah e;erw[R.bind] at e;cases e;cases h0:aq C d Z m with
 |no=>rw[h0] at t;cases t
 |ok S m0=>
  rw[h0] at t;erw[ze] at t;split at t
  .ext hc;split at t
   .ext QW e2;cases t;refine bF (hp aa s Y H {nx:=fun g B=>∃a,Ext J H a B/\Rel X.K cl a m0 B/\RL X.K a B (Z.set i (some S)) g,rt:=λ _ _=>False} I ⟨J,Z,m,.nx (Z.set i (some S)),m0,r,l,by erw[gr,h0,R.bind,eV,aK],fun a B N O g L=>⟨a,N,O,L⟩⟩) λ fl s1 h=>?_;cases fl with
    |next=>
     let⟨g,B,I1,a,N,O,L⟩:=h;let⟨γ,rfl,U⟩:=N.pre;let⟨z1,z2,z3⟩:=r.frozen N U O hc I1;refine⟨g,dj γ s1.heap B,Fp I1 γ,k J _ z1 z2 g ⟨by rw[UZ,<-L.len,UZ],λ {j w} A=>?_⟩⟩
     by_cases x:i=j
     .subst x;have M:i<Z.length:=by
       have:=(Q4.mp A).1;simpa using this
      rw[RH M] at A;cases A;let⟨v,hv,T⟩:=L.at_ (i:=i) (w:=S) (by rw[RH M]);rw[<-r.len] at e2;exact⟨v,hv,T.mz (λ e q=>pL z3 O 8 e q) e2⟩
     .rw[RN x] at A;let⟨v,hv,T⟩:=L.at_ (i:=j) (w:=w) (by rw[RN x];exact A);let⟨v',_,q'⟩:=l.at_ A;exact⟨v,hv,T.xP q'.Lz⟩
    |brk=>let⟨_,_,_,z⟩:=h;exact False.elim z
    |cont=>let⟨_,_,_,z⟩:=h;exact False.elim z
    |ret u=>let⟨_,_,_,_,_,z⟩:=h;exact False.elim z
   .cases t
  .cases t
theorem kj{prog:Program}{w:World}{A:Around}{E:Value->Shared->Prop}{name:Str}{a:Pos}{args:List Expr}{Q:Value->Shared->Prop}
  (k:attributeBase o name env (eval o env)=eval o env)
  (t:((backTo pos (starEach args env)).all (λ x=>!x.1)&&(backToKw pos (keywordEach [] env)).all (λ x=>x.1.isSome)
   && decide (args.length+([]:List Keyword).length+(if ([]:List Keyword).isEmpty then 0 else 1)<30))=true)
  (j:(a.endLine==pos.line)=true)
  (h:wpAny (model prog w) A (eval o env) (λ z g=>∀B,wpAny (model prog w) A (getMethod z name B) (λ u l=>wpAny (model prog w) A (callWith pos u.1 u.2 (backTo pos (starEach args env)) []) Q E l) E g) E s) :
  wpAny (model prog w) A (eval (.Call (.Attribute o name a) args [] pos) env) Q E s:=by
 rw[arm_eval_Call,k];refine Q2 (Rm h (λ z g q=>?_) λ _ _ e=>e);refine Q2 (R8 ?_);have L:methodCallForm (args.length+([]:List Keyword).length) (backTo pos (starEach args env)) (backToKw pos (keywordEach [] env))=true:=t;have r:methodCallPos true o env a pos=pure pos:=by unfold methodCallPos;simp[j]
 unfold methodCall;rw[L];refine Q2 (Sd (Rm (q _) (λ u M I=>?_) λ _ _ e=>e));exact Q2 (wpAny_of_eq r I)
section
variable{X:L2.Cx}{cl:Cl}{C:D.Cx}{pos:Pos}
theorem Ag{a j:Addr}{h:List (Str×V)}(I:Inv X aa Y H s)(e:Rd H a (.ins j dx h)):∃g,qk s.heap a dx j g/\∀f,eN (h.lookup f) (g f):=by
 let⟨d,z,l,k,g,n,r,q⟩:=(show aX X.prog X.w H s.heap a (.ins j dx h) from e.ok I.hok);exact⟨g,⟨k,n,l⟩,r⟩
theorem fL.lookup{K:ae}{J:List Addr}{H:Hp}{f:Str}:∀{j:List (Str×W)} {gs:List (Str×V)},fL K J H j gs->(∀{w},j.lookup f=some w->∃v,gs.lookup f=some v/\RW K J H w v)/\(j.lookup f=none->gs.lookup f=none)
 |_,_,.nil=>⟨λ h=>by simp at h,λ _=>rfl⟩
 |_,_,.cons (f:=g) q t=>by
  let⟨l,k⟩:=t.lookup (f:=f);cases a:f==g with
  |true=>
   refine⟨λ h=>?_,λ h=>?_⟩
   .erw[Rl,a] at h ⊢;cases h;exact⟨_,rfl,q⟩
   .erw[Rl,a] at h;cases h
  |false=>
   refine⟨λ h=>?_,λ h=>?_⟩
   .erw[Rl,a] at h ⊢;exact l h
   .erw[Rl,a] at h ⊢;exact k h
theorem Ah:∀{gs:List (Str×V)} {xs:List W},aU K J H xs (gs.map (·.2))->fL K J H ((gs.map (·.1)).zip xs) gs
 | [],_,t=>by cases t;exact .nil
 |(g,v)::gs,xs,t=>by
  cases t with
  |cons q t=>exact .cons q (Ah t)
theorem Rel.ins{g:List (Str×W)}(r:Rel K cl J m H)(q:RW K J H w v)(e:iw m w=some (c,g)):∃a dx gs,v=.ref a/\Rd H a (.ins (ai K c) dx gs)/\fL K J H g gs:=by
 cases q with
 |ref h=>
  erw[iw] at e;split at e
  .ext u j k;cases e;let⟨dx,gs,z,t⟩:=r.obj k h;exact⟨_,dx,gs,rfl,.inl z,t⟩
  .cases e
 |obj h l t=>
  erw[iw] at e;cases e;subst l;exact⟨_,_,_,rfl,.inr ⟨_,h⟩,Ah t⟩
 |_=>erw[iw] at e;cases e
theorem LB{a:Expr}{f:Str}(hc:∀{c f},C.cs.flds.contains (c,f)=true->wH X.K (ai X.K c)/\gz X.K (ai X.K c) f)(ha:PE X a (SE X cl (aq C d)))(hb:attributeBase a f X.env (eval a X.env)=eval a X.env):PE X (.Attribute a f pos) (SE X cl (aq C (.fld d f))):=by
 rintro aa s Y H Q I ⟨J,Z,m,w,m',r,l,e,k⟩;erw[lF] at e;let⟨x,m1,e1,e⟩:=R.ah e;unfold jY at e;split at e
 .ext c fs e2;split at e
  .ext M;split at e
   .ext w' e3;cases e;refine uB hb (bF (ha aa s Y H (λ v h=>∃g,Ext J H g h/\Rel X.K cl g m' h/\RW X.K g h x v) I ⟨J,Z,m,x,m',r,l,e1,fun g h v1 A q B=>⟨g,A,q,B⟩⟩) λ u s1 ⟨v,h,N,T,g,A,q,B⟩=>?_);let⟨a',dx,gs,rfl,hr,t⟩:=q.ins B e2;obtain rfl:u=Value.ref a':=T;let⟨mA,O,U⟩:=Ag N hr;let⟨z,ez,qz⟩:=t.lookup.1 e3;let⟨j,L⟩:=hc M;let⟨u,hu,S⟩:=eN.some_of (v:=z) (o:=mA f) (by rw[<-ez];exact U f);exact get_map N.cQ O (j.get f) j.hd L hu (mV S) ⟨z,h,N.tok _,S,k _ _ _ A q qz⟩
   .cases e
  .cases e
 .cases e
theorem ve{f:Str}(q:RW K J H w v):∀{a:List (Str×W)} {gs:List (Str×V)},fL K J H a gs->fL K J H (D.d7 f w a) (L2.d7 f v gs)
 |_,_,.nil=>.cons q .nil
 |_,_,.cons (f:=g) (ws:=ws) (vs:=vs) h t=>by
  erw[D.d7,L2.d7];split
  .exact .cons q t
  .exact .cons h (ve q t)
theorem fL.length:∀{a:List (Str×W)} {gs:List (Str×V)},fL K J H a gs->a.length=gs.length
 |_,_,.nil=>rfl
 |_,_,.cons _ t=>by rw[RD,RD,t.length]
theorem fL.mono(r:Rel K cl J m H)(x:Ext J H J' H'){a:List (Str×W)}(t:fL K J H a gs):fL K J' H' a gs:=t.cu r BI x
theorem Rel.Om{a:Addr}(r:Rel K cl J m H){o:O}{A:List (Str×W)}(I:m[n]?=some o)(t:J[n]?=some a)(q:fL K J H A gs) :
  Ext J H J (upd H a (.ins (ai K c) dx gs))/\Rel K cl J (m.set n (.ins c A)) (upd H a (.ins (ai K c) dx gs)):=by
 have L:a∈J:=RP t;have x:Ext J H J (upd H a (.ins (ai K c) dx gs)):=⟨⟨[],by simp,by simp⟩,λ {b u} h hn _=>by rw[ao (show b≠a from λ z=>hn (by rw[z];exact L))];exact h⟩;refine⟨x,by simp[r.len],r.nd,λ {k R b} j g=>?_⟩
 by_cases l:n=k
 .subst l;rw[t] at g;cases g;rw[RH (Q4.mp I).1] at j;cases j;exact⟨dx,gs,aC,q.mono r x⟩
 .rw[RN l] at j;have B:=r.obj j g;refine B.mono r x (ao ?_);rintro rfl;let⟨T,N⟩:=Q4.mp g;let⟨S,M⟩:=Q4.mp t;exact l ((Vd r.nd).mp (M.trans N.symm))
theorem Ie{a:Expr}{U:E}{f:Str}{g:Pos}(hc:∀{c f},C.cs.flds.contains (c,f)=true->wH X.K (ai X.K c)/\gz X.K (ai X.K c) f)(ho:PE X o (SE X cl (aq C U)))(ha:PE X a (SE X cl (aq C d)))
  (hs:swapsWith a @(.Attribute o f g) pos.line X.env=pure false):PS X (.Assign [.Attribute o f g] a pos) (SS X cl (bu C (.fas U f d))):=by
 refine PS.imp (GJ ho ha hs) ?_;rintro D Y H ⟨J,Z,m,ff,m',r,l,e,k⟩;erw[qN] at e;let⟨w,O,e1,e⟩:=R.ah e;let⟨x,m2,e2,e⟩:=R.ah e;let⟨_,m3,h,e⟩:=R.ah e;cases e;refine⟨J,Z,m,w,O,r,l,e1,fun A H1 v1 I u q1=>?_⟩;refine⟨A,Z,O,x,m2,u,l.mono r I,e2,fun β2 H2 v2 B q q2=>?_⟩;unfold nq at h;split at h
 .ext n;split at h
  .ext c fs T;split at h
   .ext j;cases h;cases q2 with
    |ref S=>
     let⟨dx,gs,z,t⟩:=q.obj T S;let⟨M,L⟩:=hc j.1;let⟨N,r3⟩:=q.Om (c:=c) (dx:=dx) T S (ve (f:=f) (q1.mono u B) t);exact⟨_,_,dx,gs,rfl,z,M,L,by rw[<-t.length];exact j.2,k _ _ ((I.trans u B).trans q N) r3 _ (((l.mono r I).mono u B).mono q N)⟩
   .cases h
  .cases h
 .cases h
def Fw(X:L2.Cx)(cl:Cl)(C:D.Cx)(c name:Str)(i:Nat):Prop:=∃(k:Nat) (fa:Addr) (g:FuncData) (a:List Str),bP k X.A/\wH X.K (ai X.K c)/\Meth X.K (ai X.K c) name fa/\Binds X.K g a []/\
 cg X.prog X.w X.K X.mg X.base (yi X.prog X.w) k fa g a (u5 X.K cl a.length (C.call i))/\∀ws m w m',C.call i ws m=.ok w m'->ws.length=a.length
theorem LC{name:Str}{L:Pos}(hM:∀{c name i},C.cs.mths.lookup (c,name)=some i->Fw X cl C c name i)(ho:PE X o (SE X cl (aq C d)))(ha:PA X es (SA X cl (aS C ds)))
  (S:attributeBase o name X.env (eval o X.env)=eval o X.env)
  (hfew:((backTo pos (starEach es X.env)).all (λ x=>!x.1)&&(backToKw pos (keywordEach [] X.env)).all (λ x=>x.1.isSome)
   && decide (es.length+([]:List Keyword).length+(if ([]:List Keyword).isEmpty then 0 else 1)<30))=true)
  (N:(L.endLine==pos.line)=true) (hs:(es=[]/\ds=.nil)\/∃a r,es=a::r/\starEach (a::r) X.env=(false,eval a X.env)::starEach r X.env/\(backTo pos (starEach r X.env)).any (·.1)=false) :
  PE X (.Call (.Attribute o name L) es [] pos) (SE X cl (aq C (.mth d name ds))):=by
 rintro aa s Y H Q I ⟨J,Z,m,w,m',r,l,e,k⟩;erw[lG] at e;let⟨x,m1,e1,e⟩:=R.ah e;split at e
 .ext i e2;let⟨ws,m2,e3,e⟩:=R.ah e;refine kj S hfew N (bF (ho aa s Y H (λ v B=>∃h,Ext J H h B/\Rel X.K cl h m1 B/\RW X.K h B x v) I ⟨J,Z,m,x,m1,r,l,e1,fun h B v1 x1 M q1=>⟨h,x1,M,q1⟩⟩) λ u s1 ⟨v,B,I1,rv,h,x1,M,q1⟩ pl=>?_);unfold nk at e2;split at e2
  .ext c fs e4;split at e2
   .ext hno;let⟨A,dx,gs,rfl,hr,t⟩:=M.ins q1 e4;obtain rfl:u=Value.ref A:=rv;let⟨mA,O,ro⟩:=Ag I1 hr;have hn:mA name=none:=eN.none_of (by rw[<-t.lookup.2 (~~~hno)];exact ro name);let⟨kk,fa,fd,ps,q,hcl,z,hbd,hF,jE⟩:=hM e2;refine yE I1.cQ O (hcl.get name) z.at_ z.fn hn ?_;have sR:∀vs g j,Ext h B g j->Rel X.K cl g m2 j->aU X.K g j ws vs->u5 X.K cl ps.length (C.call i) ((.ref A::vs)++[]) j Q E0:=λ vs g j T U q2=>by
     rw[R6];have hq:aU X.K g j (x::ws) (.ref A::vs):=.cons (q1.mono M T) q2;exact⟨by rw[<-hq.length];exact jE _ _ _ _ e,g,m2,x::ws,w,m',U,hq,e,fun β3 H3 v3 x3 r3 q3=>k _ _ _ ((x1.trans M T).trans U x3) r3 q3⟩
    rcases hs with⟨rfl,rfl⟩ | ⟨a,rr,rfl,hst,hpl⟩
    .erw[dG] at e3;cases e3;exact Ul (first:=[.ref A]) I1.cQ z.kp (oM (us:=[.ref A]) (vs:=[.ref A]) hF q hbd .nil uZ I1 %[|rfl] (sR [] h B Ext.refl M .nil))
    .refine Sh (first:=[.ref A]) (h₀:=X.base) I.ok.mod.kin z.kp (bF (ha pos aa s1 Y B (λ vs j=>∃g,Ext h B g j/\Rel X.K cl g m2 j/\aU X.K g j ws vs) I1 ⟨h,Z,m1,ws,m2,M,l.mono r x1,e3,fun g j v2 T U q2=>⟨g,T,U,q2⟩⟩) λ us s2 ⟨vs,j,I2,rr2,g,T,U,q2⟩=>⟨I2.cQ,?_⟩) hst hpl;exact oM (us:=.ref A::us) (vs:=.ref A::vs) hF q hbd .nil uZ I2 (.cons rfl rr2) (sR vs g j T U q2)
   .cases e2
  .cases e2
 .cases e
def LD(X:L2.Cx)(cl:Cl)(C:D.Cx)(c:Str)(i:Nat):Prop:=∃(k:Nat) (fa:Addr) (g:FuncData) (a:List Str),bP (k+1) X.A/\Mk X.K (ai X.K c) fa/\X.mg c=some (.ref (ai X.K c))/\Binds X.K g a []/\
 cg X.prog X.w X.K X.mg X.base (yi X.prog X.w) k fa g a (u5 X.K cl a.length (C.call i))/\∀ws m w m',C.call i ws m=.ok w m'->ws.length=a.length
theorem Dv{k f:Nat}{g:FuncData}{ps:List Str}{x:Str}(F:cg X.prog X.w X.K X.mg X.base (yi X.prog X.w) k fa g ps (u5 X.K cl ps.length (C.call f)))(u:bP k X.A)(L:Gl X x)(z:X.mg x=@(.ref fa))(I:PySem.W.keepIn X.K (.ref fa)=true)(M:Binds X.K g ps [])
  (B:ps.length=0) (a:(x==("__debug__":Str))=false):PE X (.Call (.Name x p) [] [] pos) (SE X cl (aq C (.call f .nil))):=by
 refine PE.imp (yH F u L z I M .nil uZ a) ?_;rintro Y H Q ⟨J,Z,m,w,m',r,l,e,k⟩;erw[gD,dG,R.bind] at e;exact⟨by rw[B];rfl,J,m,[],w,m',r,.nil,e,fun h O N j q t=>k _ _ _ j q t⟩
end
section
variable{X:L2.Cx}{cl:Cl}{C:D.Cx}{pos:Pos}
theorem Ig{a:Expr}{g:Pos}(U:X.A.handled=none)(hu:X.A.units+64<cLine)(hg:Gl X "len")(T:X.mg "len"=none)(HE:Gl X "set")(h:X.mg "set"=none)(ha:PE X a (SE X cl (aq C d)))(u:starEach [a] X.env=[(false,eval a X.env)]) :
  PE X (.Call (.Name "len" p) [.Call (.Name "set" p2) [a] [] g] [] pos) (SE X cl (aq C (.fus .mE d))):=by
 refine PE.imp (gA mG hg T 'k' (bI (m7 (wR U) HE h 'k' (bI ha cY u) 'k' 'k' u rfl) cY) 'k' 'k' rfl rfl) ?_;rintro Y H Q ⟨J,Z,m,w,m',r,l,e,k⟩;erw[bT] at e;let⟨x,m1,e1,e⟩:=R.ah e;erw[ck] at e;split at e
 .ext xs;unfold tB at e;split at e
  .ext q e2;split at e
   .ext N;cases e;refine⟨J,Z,m,_,_,r,l,e1,fun z H1 v1 I j M=>?_⟩;cases M with
    |tup hs t=>
     refine⟨_,q,rfl,by rw[<-t.cG e2];exact hs,N,λ p S O=>?_⟩;let⟨B,L⟩:=j.zU O (.set S (L2.unlike q));exact⟨p,S,_,rfl,aC,k _ _ _ (I.trans j B) L (.int _)⟩
   .cases e
  .cases e
 cases e
end
def TopK(K:ae)(w:World)(h:Str->Option Value)(x:Str)(g:List (Str×W)):Prop:=∃a gs,h x=some (.ref a)/\TopD K w a gs/\∀J H,fL K J H g gs
section
variable{X:L2.Cx}{cl:Cl}{C:D.Cx}{pos p:Pos}{a:Expr}{d:E}{x:Str}{kvs:List (Str×W)}
theorem Ih(T:TopK X.K X.w X.mg x kvs)(M:Gl X x)(N:(x==("__debug__":Str))=false)(O:PE X a (SE X cl (aq C d))):PE X (.Compare a [.NotIn] [.Name x p] pos) (SE X cl (aq C (.fus (.knin kvs) d))):=by
 let⟨b,gs,L,t,I⟩:=T;refine PE.imp (uy (nV iP iz) O (iJ (v:=.ref b) M L rfl N) rfl) ?_;rintro Y H Q ⟨J,Z,m,w,m',r,l,e,k⟩;erw[bT] at e;let⟨y,S,u,e⟩:=R.ah e;erw[ck] at e;split at e
 .ext z;cases e;refine⟨J,Z,m,_,_,r,l,u,fun g A B h j q=>?_⟩;cases q;exact .inl ⟨_,_,_,rfl,rfl,t,by rw[<-(I g A).look.1];exact k _ _ _ h j (.bl _)⟩
 .cases e;refine⟨J,Z,m,_,_,r,l,u,fun g A B h j q=>?_⟩;cases q;exact .inr ⟨_,_,_,rfl,rfl,t,k _ _ _ h j (.bl _)⟩
 .cases e
theorem Ii(T:TopK X.K X.w X.mg x kvs)(N:Gl X x)(O:(x==("__debug__":Str))=false)(S:PE X a (SE X cl (aq C d))):PT X (.Compare a [.NotIn] [.Name x p] pos) (ST X cl (bq C (.fus (.knin kvs) d))):=by
 let⟨b,gs,M,u,L⟩:=T;refine PT.imp (uz (nV iP iz) S (iJ (v:=.ref b) N M rfl O) rfl) ?_;rintro Y H Q ⟨J,Z,m,w,m',r,l,e,k⟩;erw[iR] at e;let⟨U,m2,g,e⟩:=R.ah e;let⟨y,m1,A,g⟩:=R.ah g;erw[ck] at g;split at g
 .ext z;cases g;erw[truthy] at e;cases e;refine⟨J,Z,m,_,_,r,l,A,fun h B I j q t=>?_⟩;cases t;exact .inl ⟨_,_,_,rfl,rfl,u,by rw[<-(L h B).look.1];exact⟨_,rfl,k _ _ j q⟩⟩
 .cases g;erw[truthy] at e;cases e;refine⟨J,Z,m,_,_,r,l,A,fun h B I j q t=>?_⟩;cases t;exact .inr ⟨_,_,_,rfl,rfl,u,⟨_,rfl,k _ _ j q⟩⟩
 .cases g
theorem Ij(T:TopK X.K X.w X.mg x kvs)(I:Gl X x)(L:(x==("__debug__":Str))=false)(M:PE X a (SE X cl (aq C d)))(u:kD a):PE X (.Subscript (.Name x p) a pos) (SE X cl (aq C (.fus (.kget kvs) d))):=by
 let⟨b,gs,B,N,A⟩:=T;refine PE.imp (Ez G9 (iJ (v:=.ref b) I B rfl L) M u) ?_;rintro Y H Q ⟨J,Z,m,w,m',r,l,e,k⟩;erw[bT] at e;let⟨y,m1,U,e⟩:=R.ah e;erw[ck] at e;split at e
 .ext z;split at e
  .ext w' S;cases e;refine⟨J,Z,m,_,_,r,l,U,fun g H1 v1 h j t=>?_⟩;cases t;let⟨v,O,q⟩:=(A g H1).look.2 _ S;exact⟨_,_,_,_,rfl,rfl,N,O,k _ _ _ h j q⟩
  .cases e
 .cases e
end
def vf(X:L2.Cx)(cl:Cl)(C:D.Cx):List Str->Es->List (TE×TE)
 |k::ks,.cons e es=>(tC (.str k),SE X cl (aq C e))::vf X cl C ks es
 |_,_=>[]
section
variable{X:L2.Cx}{cl:Cl}{C:D.Cx}
theorem q9{Z:Loc}:∀{ks:List Str} {es:Es} {J:List Addr} {H:Hp} {m m':Mem} {ws:List W} {Q:List (V×V)->Hp->Prop},ks.length=ws.length->Rel X.K cl J m H->RL X.K J H Z Y->aS C es Z m=.ok ws m'->
  (∀J' H' vs,Ext J H J' H'->Rel X.K cl J' m' H'->aU X.K J' H' ws vs->Q ((ks.map V.str).zip vs) H')->oX (vf X cl C ks es) Y H Q
 |ks,.nil,J,H,m,m',ws,Q,a,r,l,e,k=>by
  erw[dG] at e;cases e;have:ks=[]:=List.length_eq_zero_iff.mp a;subst this;exact k _ _ [] Ext.refl r .nil
 |ks,.cons d es,J,H,m,m',ws,Q,a,r,l,e,k=>by
  erw[dG] at e;let⟨w,m1,e1,e⟩:=R.ah e;let⟨M,m2,e2,e⟩:=R.ah e;cases e;cases ks with
  |nil=>simp at a
  |cons z ks=>
   refine⟨J,Z,m,w,m1,r,l,e1,fun t L u q h B=>?_⟩;refine q9 (~~~a) h (l.mono r q) e2 fun g I vs j x A=>?_;exact k g I (u::vs) (q.trans h j) x (.cons (B.mono h j) A)
theorem vg:∀{ks:List Str} {ws:List W} {vs:List V},ks.length=ws.length->aU K J H ws vs->fL K J H (ks.zip ws) (ks.zip vs)
 | [],_,_,h,.nil=>.nil
 | [],_,_,h,.cons _ _=>by simp at h
 |_::_,_,_,h,.nil=>by simp at h
 |k::ks,_,_,h,.cons q t=>.cons q (vg (~~~h) t)
theorem Rel.other{p:Addr}{u u':HO}(r:Rel K cl J m H)(k:H p=some u)(hb:p∉J)(h1:∀xs,u≠.tup xs)(h2:∀O x,u≠.frz O x)(h3:∀A,u≠.xd A:=by intro _ z;cases z) :
  Rel K cl J m (upd H p u')/\∀{ws:List W} {vs:List V},aU K J H ws vs->aU K J (upd H p u') ws vs:=by
 have l:∀{a:Addr} {o:Obj} {u:HO},H a=some (.frz o u)->upd H p u' a=some (.frz o u):=λ {a o x} e=>by
  rw[ao]
  .exact e
  .rintro rfl;rw[k] at e;cases e;exact h2 _ _ rfl
 have L:∀{a:Addr} {vs:List V},dw K H a vs->dw K (upd H p u') a vs:=λ {a vs} q=>by
  rcases q with (e | ⟨o,e⟩) | q
  .refine .inl (.inl ?_);rw[ao]
   .exact e
   .rintro rfl;rw[k] at e;cases e;exact h1 _ rfl
  .exact .inl (.inr ⟨o,l e⟩)
  .exact .inr q
 have T:∀{w:W} {v:V},RW K J H w v->RW K J (upd H p u') w v:=λ q=>q.keep ⟨[],by simp⟩ L l;have j:∀{ws:List W} {vs:List V},aU K J H ws vs->aU K J (upd H p u') ws vs:=λ q=>q.keep ⟨[],by simp⟩ L l;have I:∀{ws:List (Str×W)} {vs:List (Str×V)},fL K J H ws vs->fL K J (upd H p u') ws vs:=λ q=>by
  induction q with
  |nil=>exact .nil
  |cons a b U=>exact .cons (T a) U
 refine⟨⟨r.len,r.nd,λ {n o a} g1 g2=>?_⟩,j⟩;have h:a≠p:=by
  rintro rfl;exact hb (RP g2)
 have q:=r.obj g1 g2;cases o with
 |lst ws=>let⟨vs,e,t⟩:=q;exact⟨vs,(ao h).trans e,j t⟩
 |ins c A=>let⟨dx,g,e,t⟩:=q;exact⟨dx,g,(ao h).trans e,I t⟩
 |set ks=>let⟨S,e,t⟩:=q;exact⟨S,(ao h).trans e,t⟩
 |dic A=>let⟨g,e,t⟩:=q;exact⟨g,(ao h).trans e,I t⟩
 |exc c f ws=>
  let⟨R,N,vs,e,M,t,d⟩:=q;refine⟨R,N,vs,(ao h).trans e,M,j t,d.imp id λ ⟨dx,y,d1,d2,B⟩=>⟨dx,y,d1,d2,?_⟩⟩;rw[ao]
  .exact B
  .rintro rfl;rw[k] at B;cases B;exact h3 _ rfl
theorem nX:∀{ks:List Str} {vs:List V},ks.length=vs.length->(ks.map V.str).zip vs=(keyed (ks.zip vs)).map λ a=>(kV a.1,a.2)
 | [],_,_=>rfl
 |_::_,[],h=>by simp at h
 |k::ks,v::vs,h=>by
  have:=nX (ks:=ks) (vs:=vs) (~~~h);show (V.str k,v)::(ks.map V.str).zip vs=(V.str k,v)::(keyed (ks.zip vs)).map λ a=>(kV a.1,a.2);rw[this]
theorem Ik{g:List (Option Expr)}{j:List Expr}{ks:List Str}(h:Jh X pos g j (vf X cl C ks ds))(S:g.all (·.isSome)=true)(hl:g.length=j.length)(h0:g≠[])(NJ:g.length<=15) :
  PE X (.Dict g j pos) (SE X cl (aq C (.fus (.dict ks) (.tup ds)))):=by
 refine PE.imp (CD h S hl h0 NJ) ?_;rintro Y H Q ⟨J,Z,m,w,m',r,l,e,k⟩;erw[bT] at e;let⟨x,m1,T,e⟩:=R.ah e;let⟨ws,m2,e2,T⟩:=R.ah T;split at T
 .cases T;erw[ck,tD] at e;split at e
  .ext hk;let⟨k1,k2,k3⟩:=hk;cases e;intro p M;let⟨x1,r1⟩:=r.zU M (.dK []);refine q9 k1 r1 (l.mono r x1) e2 fun q H2 vs U I q2=>?_;have pb:p∉J:=r.Lb M;have L:H2 p=some (.dK []):=U.keep aC pb 's';have PK:p∉q:=λ z=>by
    let⟨γ,rfl,B⟩:=U.pre;rcases RC.mp z with z | z
    .exact pb z
    .have:=B p z;rw[aC] at this;cases this
   have vl:ks.length=vs.length:=k1.trans q2.length;refine⟨L,keyed (ks.zip vs),?_,by simp[keyed];lia,?_⟩
   .exact nX vl
   .have hn:((ks.zip vs).map (·.1)).Nodup:=by rw[map_fst_zip 'o'];exact k2
    rw[xO (q8 hn) 's',Vs];let⟨r3,kS⟩:=I.other (u':=.dK (keyed (ks.zip vs))) L PK (by intro _ z;cases z) (by intro _ _ z;cases z);have t:∀{n:Nat} {a:Addr},q[n]?=some a->(q++[p])[n]?=some a:=λ h=>by rw[Rc (Q4.mp h).1];exact h
    refine k (q++[p]) _ (.ref p) ⟨?_,λ {b u} O hn _=>?_⟩ ⟨by simp[I.len],?_,λ {n o a} g1 g2=>?_⟩ (.ref (I.last p))
    .let⟨γ,rfl,B⟩:=U.pre;refine⟨γ++[p],by rw[Rt],λ a A=>?_⟩;rcases RC.mp A with A | A
     .have z:=B a A
      by_cases e:a=p
      .rw[e];exact M
      .rw[ao e] at z;exact z
     .rw[RZ] at A;rw[A];exact M
    .have nb:b≠p:=aB O M;rw[ao nb];exact U.keep (by rw[ao nb];exact O) hn 's'
    .rw[T4];refine⟨I.nd,by simp,λ a A b O=>?_⟩;rw[RZ] at O;subst O;rintro rfl;exact PK A
    .by_cases N:n<m1.length
     .rw[Rc N] at g1;rw[Rc (by rw[I.len];exact N)] at g2;exact(r3.obj g1 g2).sub t
     .have:n=m1.length:=by
       have:=(Q4.mp g1).1;simp at this;lia
      subst this;rw[Rp (Q7 _)] at g1;simp at g1;subst g1;rw[I.last p] at g2;cases g2;exact⟨ks.zip vs,aC,(vg k1 (kS q2)).sub t⟩
  .cases e
 .cases T
end
set_option genInjectivity false in
structure Ci where
 N:List Str
 names:List (Str×NameKind)
 fns:List (Str×(Nat×Nat))
 gl:List (Str×W)
 cs:Cs
 fz:List Pos
def ko(x:Str):List Str->Option Nat
 | []=>none
 |y::r=>if y=x then some 0 else (ko x r).map (·+1)
theorem i6{x:Str}:∀{N:List Str} {i:Nat},ko x N=some i->N[i]?=some x
 | [],_,h=>by cases h
 |y::r,i,h=>by
  unfold ko at h;split at h
  .ext e;cases h;simp[e]
  .erw[Q0] at h;let⟨j,a,rfl⟩:=h;simpa using i6 a
def pN:List (Str×B):=[("len",.len),("abs",.abs),("max",.max),("min",.min),("divmod",.divmod),("all",.all)
 ,("any",.any)
 ,("list",.list),("tuple",.tuple),("int",.int),("sorted",.sorted),("repr",.repr)
 ]
def Ai:List (Str×String):=[("int","int"),("bool","bool"),("str","str"),("list","list"),("tuple","tuple"),("dict","dict")]
def jF:List Str:=["len","abs","max","min","divmod","all","any","list","tuple","int","bool","str","dict","isinstance","range","enumerate","zip","sorted","set","repr","sum","reversed"]
def vh:List (Str×(String×String)):=[("append",("append","list.append"))
 ,("clear",("clear","list.clear"))
 ,("extend",("extend","list.extend"))
 ,("insert",("insert","list.insert"))
 ,("index",("lindex","list.index"))
 ,("add",("add","set.add"))
 ,("count",("count","list.count"))
 ,("count",("tcount","tuple.count"))
 ]
def pO(a:List Pos)(o:Expr)(m:Str):Option (String×String):=
 if m="count"/\a.contains o.pos=true then some ("tcount","tuple.count") else
 vh.lookup m
def Fx:Expr->Option (Str×Pos)
 |.Name x p=>some (x,p)
 |_=>none
def MK:Expr->Option (List Expr)
 |.Tuple es _ _=>some es
 |_=>none
theorem jG{x:Str}(h:Fx e=some (x,p)):e=.Name x p:=by
 unfold Fx at h;split at h
 .cases h;rfl
 .cases h
theorem Aj(h:MK e=some es):∃k p,e=.Tuple es k p:=by
 unfold MK at h;split at h
 .cases h;exact⟨_,_,rfl⟩
 .cases h
def noStar:Expr->Bool
 |.Starred ..=>false
 |_=>true
def isSlice:Expr->Bool
 |.Slice ..=>true
 |_=>false
def isSet:Expr->Bool
 |.Set ..=>true
 |_=>false
def jH:Expr->Bool
 |.ListComp ..=>true
 |.SetComp ..=>true
 |.DictComp ..=>true
 |_=>false
def gh:Expr->Bool
 |.Call (.Name _ _) [] [] _=>true
 |_=>false
def Dw:Expr->Bool
 |.Call ..=>true
 |.ListComp ..=>true
 |.List ..=>true
 |.BinOp ..=>true
 |.Subscript ..=>true
 |_=>false
def wz(c:Ci)(e:Expr)(d:E):E:=if Dw e&&c.fz.contains e.pos then .frz d else d
def vj:Expr->Bool
 |.Name ..=>true
 |_=>false
def jI:Expr->Bool
 |.Tuple ..=>true
 |.List ..=>true
 |_=>false
def isIt:E->Bool
 |.rng _=>true
 |.rng2 _ _=>true
 |.enm _=>true
 |.zip _=>true
 |_=>false
def special(x:Str):Bool:=x=="__debug__"||x=="__classdict__"||x=="__name__"
def kq(f:Expr->Option E):List Expr->Option Es
 | []=>some .nil
 |e::es=>if noStar e then match f e with
  |none=>none
  |some d=>match kq f es with
   |none=>none
   |some ds=>some (.cons d ds) else none
def Jk(f:Expr->Option E)(a:BoolOp):List Expr->Option E
 | []=>none
 | [e]=>f e
 |e::r=>match f e with
  |none=>none
  |some d=>match Jk f a r with
   |none=>none
   |some ds=>match a with
    |.And=>some (.and d ds)
    |.Or=>some (.or d ds)
def cO(f:Expr->Option E):Option Expr->Option Oe
 |none=>some .none
 |some e=>(f e).map .some
def nY(c:Ci)(x:Str):Option E:=if special x then none else match c.names.lookup x with
 |some .local=>(ko x c.N).map .var
 |some .cell=>(ko x c.N).map .var
 |some .free=>(ko x c.N).map .var
 |some .globalImplicit=>(c.gl.lookup x).map .cst
 |_=>none
def gu(c:Ci)(x:Str):Option Nat:=match c.names.lookup x with
 |some .local=>ko x c.N
 |some .cell=>ko x c.N
 |_=>none
def ML(f:Expr->Option T):List Expr->Option Ts
 | []=>some .nil
 |e::es=>if noStar e then match f e with
  |none=>none
  |some d=>match ML f es with
   |none=>none
   |some ds=>some (.cons d ds) else none
def cT:Nat->Ci->Expr->Option T
 |0,_,_=>none
 |n+1,c,e=>match e with
  |.Name x _=>(gu c x).map .var
  |.Tuple es _ _=>(ML (cT n c) es).map .tup
  |_=>none
def cI(f:Expr->Option E)(c:Ci)(tg e:Expr):Option E:=match e with
 |.Call (.Name x _) args g _=>if g.isEmpty&&c.names.lookup x==some .globalImplicit&&(c.fns.lookup x).isNone&&!special x then
   if x="range" then match args with
    | [a]=>if noStar a then (f a).map .rng else none
    |_=>none
   else if x="enumerate" then match tg,args with
    |.Tuple _ _ _,[a]=>if noStar a then (f a).map .enm else none
    |_,_=>none
   else match f e with
    |some d=>if isIt d then none else some d
    |none=>none
  else match f e with
   |some d=>if isIt d then none else some d
   |none=>none
 |e=>match f e with
  |some d=>if isIt d then none else some d
  |none=>none
def Ak(f:Expr->Option E):List Expr->Option Es
 | []=>some .nil
 | [e]=>(f e).map λ d=>.cons d .nil
 |_=>none
def Fy(f:Expr->Option E)(n:Nat)(c:Ci)(elt:Expr):List Comprehension->Option G
 | []=>(f elt).map .elt
 |⟨tg,it,ifs,as⟩::gs=>if as=0/\isSet it=false then match cT n c tg,cI f c tg it,Ak f ifs,Fy f n c elt gs with
  |some t,some d,some ds,some g=>some (.gen t [] d ds g)
  |_,_,_,_=>none else none
def rj(N:List Str)(names:List (Str×NameKind)):List Nat:=(N.zipIdx.filter λ p=>names.lookup p.1==some .local||names.lookup p.1==some .cell).map (·.2)
def tW(N:List Str)(scope:Scope)(a:List (Str×NameKind)):Bool:=
 decide (scope.kind=.function)&&scope.names.all λ y=>(decide (y.2≠.cell)||decide (scope.names.lookup y.1=some .cell))&&(decide (y.2≠.local)||decide (scope.names.lookup y.1=some .local))&&(decide (y.2≠.free)||decide (a.lookup y.1=some .cell)||decide (a.lookup y.1=some .free))
def tX(x:Str)(args:List Expr):Option Expr:=if x="len" then match args with
  | [.Call (.Name y _) [a] [] _]=>if y="set" then some a else none
  |_=>none else none
def Dy(c:Ci)(e:Expr):Option (List (Str×W)):=match e with
 |.Name x _=>if special x then none else if c.names.lookup x=some .globalImplicit then c.cs.dic.lookup x else none
 |_=>none
def nZ:List (Option Expr)->Option (List Str)
 | []=>some []
 |e::r=>match e with
  |some (.Constant (.str k) _ _)=>(nZ r).map (k::·)
  |_=>none
def LF(g:CmpOp)(a:List (Str×W))(d:Option E):Option E:=match g with
 |.NotIn=>d.map (.fus (.knin a))
 |_=>none
def Oo:Expr->Bool
 |.UnaryOp .USub (.Constant (.int 1) _ _) _=>true
 |_=>false
def cE:Nat->Ci->Expr->Option E
 |0,_,_=>none
 |n+1,c,e=>Option.map (wz c e) <| match e with
  |.Name x _=>nY c x
  |.Constant k _ _=>match k with
   |.int i=>some (.cst (.int i))
   |.bool b=>some (.cst (.bl b))
   |.none=>some (.cst .non)
   |.str x=>some (.cst (.str x))
   |_=>none
  |.BinOp a op b _=>match cE n c a,cE n c b with
   |some d,some d'=>some (.bin op d d')
   |_,_=>none
  |.UnaryOp op a _=>match op with
   |.USub=>(cE n c a).map .neg
   |.Not=>(cE n c a).map .not
   |_=>none
  |.BoolOp op vs _=>Jk (cE n c) op vs
  |.Compare a ops bs _=>match ops,bs with
   | [op],[b]=>if behindInMarks op b then none else
    match Dy c b with
    |some j=>LF op j (cE n c a)
    |none=>
    match cE n c a,cE n c b with
     |some d,some d'=>some (.cmp op d d')
     |_,_=>none
   | [B,A],[b,I]=>if lastMarks [B,A] [b,I] then none else match cE n c a,cE n c b,cE n c I with
    |some d,some d',some q=>some (.chain B A d d' q)
    |_,_,_=>none
   |_,_=>none
  |.IfExp t a b _=>match cE n c t,cE n c a,cE n c b with
   |some d,some d',some q=>some (.ife d d' q)
   |_,_,_=>none
  |.Tuple es _ _=>(kq (cE n c) es).map .tup
  |.List es _=>(kq (cE n c) es).map .lst
  |.Subscript a s _=>match s with
   |.Slice lo hi st _=>match st with
    |none=>match cE n c a,cO (cE n c) lo,cO (cE n c) hi with
     |some d,some l,some h=>some (.slc d l h)
     |_,_,_=>none
    |some st=>match lo,hi,Oo st with
     |none,none,false=>match cE n c a,cE n c st with
      |some d,some k=>some (.fus .stp (.tup %[d,|k]))
      |_,_=>none
     |_,_,_=>none
   |s=>if isSlice s then none else
    match Dy c a with
    |some j=>(cE n c s).map (.fus (.kget j))
    |none=>
    match cE n c a,cE n c s with
     |some d,some d'=>some (.idx d d')
     |_,_=>none
  |.Dict keys values _=>if keys.length=values.length/\keys.length<=15/\keys≠[] then match nZ keys with
    |some ks=>(kq (cE n c) values).map λ ds=>.fus (.dict ks) (.tup ds)
    |none=>none
   else none
  |.Call f args z pos=>if z.isEmpty then match f with
    |.Name x _=>if special x then none else if c.names.lookup x=some .globalImplicit then match c.fns.lookup x with
      |some (i,np)=>match args with
       | []=>if np=0 then some (.call i .nil) else none
       |a::r=>if args.length=np then (kq (cE n c) (a::r)).map (.call i) else none
      |none=>match c.cs.ini.lookup x with
       |some _=>none
       |none=>if x="set" then match args with
        | []=>some .set0
        |_=>none
       else
       match tX x args with
       |some a=>if noStar a&&c.names.lookup ("set":Str)==some .globalImplicit&&(c.fns.lookup ("set":Str)).isNone then (cE n c a).map (.fus .mE) else none
       |none=>
       match pN.lookup x with
       |some b=>match args with
        | []=>none
        |a::r=>(kq (cE n c) (a::r)).map (.blt b)
       |none=>if x="isinstance" then match args with
         | [a,.Name t _]=>if special t then none else if noStar a&&c.names.lookup t==some .globalImplicit then
          match Ai.lookup t,cE n c a with
          |some L,some d=>some (.isI d L)
          |_,_=>none else none
         |_=>none
        else none
     else none
    |.Attribute o m apos=>if gh o then none else if (apos.endLine==pos.line) then match pO c.fz o m,cE n c o with
      |some (nm,_),some d=>if args.length<20 then (kq (cE n c) args).map (.meth d nm) else none
      |none,some d=>if args.length<20 then (kq (cE n c) args).map (.mth d m) else none
      |_,_=>none
     else none
    |_=>none
   else none
  |.Attribute o f _=>if gh o||!(c.cs.flds.any λ y=>y.2==f) then none else (cE n c o).map λ d=>.fld d f
  |.ListComp elt gens scope _=>match gens with
   | []=>none
   |⟨tg,it,ifs,as⟩::gs=>
    let u:Ci:={c with names:=scope.names}
    if as=0/\isSet it=false/\tW c.N scope c.names=true then match cT n u tg,cI (cE n c) c tg it,Ak (cE n u) ifs,Fy (cE n u) n u elt gs with
     |some t,some d,some ds,some g=>some (.comp (.gen t (rj c.N scope.names) d ds g))
     |_,_,_,_=>none
    else none
  |_=>none
def MM(f:Expr->Option A):List Expr->Option As
 | []=>some .nil
 |e::es=>if noStar e then match f e with
  |none=>none
  |some d=>match MM f es with
   |none=>none
   |some ds=>some (.cons d ds) else none
def cA:Nat->Ci->Expr->Option A
 |0,_,_=>none
 |n+1,c,e=>match e with
  |.Name x _=>(gu c x).map λ i=>.pt (.var i)
  |.Tuple es _ _=>(MM (cA n c) es).map .tup
  |.Subscript o i _=>if isSlice i then none else match cE n c o,cE n c i with
   |some d,some d'=>some (.sub d d')
   |_,_=>none
  |_=>none
def sA(f:Stmt->Option S):List Stmt->Option Ss
 | []=>some .nil
 |s::r=>match f s with
  |none=>none
  |some d=>match sA f r with
   |none=>none
   |some ds=>some (.cons d ds)
def pairOf(t v:Expr):Option (Str×Pos×Str×Pos×Expr×Expr):=match MK t,MK v with
 |some l,some r=>match l,r with
  | [x,y],[a,b]=>match Fx x,Fx y with
   |some (x,px),some (y,py)=>some (x,px,y,py,a,b)
   |_,_=>none
  |_,_=>none
 |_,_=>none
def Il(n:Nat)(c:Ci)(tg v:Expr):Option S:=if (jI tg&&jI v)||vj tg||!noStar tg then none else match cA n c tg,cE n c v with
 |some t,some d=>some (.asg t d)
 |_,_=>none
def Im(n:Nat)(c:Ci)(tg v:Expr):Option S:=match tg with
 |.Name x _=>match gu c x,cE n c v with
  |some i,some d=>some (.asg (.pt (.var i)) d)
  |_,_=>none
 |.Attribute o f _=>match cE n c o,cE n c v with
  |some d,some g=>some (.fas d f g)
  |_,_=>none
 |tg=>
  match pairOf tg v with
  |some (x,px,y,py,a,b)=>if px.line==py.line&&c.names.lookup x==some .local&&c.names.lookup y==some .local&&x != y&&noStar a&&noStar b&&!([a,b].all (foldedForSure 8))&&!([a,b].all (constantsAlone 8)) then
    match gu c x,gu c y,cE n c a,cE n c b with
    |some i,some j,some d,some g=>some (.asg (.pt (.tup %[.var i,|.var j])) (.tup %[d,|g]))
    |_,_,_,_=>none else
    none
  |none=>
  Il n c tg v
def cS:Nat->Ci->Stmt->Option S
 |0,_,_=>none
 |n+1,c,s=>match s with
  |.Assign ts v _=>match ts with
   | [t]=>Im n c t v
   |_=>none
  |.Expr v _=>if jH v then none else (cE n c v).map .expr
  |.Return o _=>match o with
   |some v=>(cE n c v).map .ret
   |none=>some .retN
  |.If t a b _=>match cE n c t,sA (cS n c) a,sA (cS n c) b with
   |some d,some x,some y=>some (.ife d x y)
   |_,_,_=>none
  |.For tg it body g _=>match g with
   | []=>if isSet it then none else match cT n c tg,cI (cE n c) c tg it,sA (cS n c) body with
    |some t,some d,some x=>some (.for_ t d x)
    |_,_,_=>none
   |_=>none
  |.Pass _=>some .pass
  |.Break _=>some .brk
  |.Continue _=>some .cont
  |.Raise _ _ _=>some .never
  |_=>none
structure Ok(X:L2.Cx)(cl:Cl)(C:D.Cx)(c:Ci):Prop where
 N:X.N=c.N
 nd:c.N.Nodup
 vis:∀{x:Str} {k:NameKind},c.names.lookup x=some k->(k=.local\/k=.cell\/k=.free)->Eo X.env.scope x
 loc:∀{x:Str} {k:NameKind},c.names.lookup x=some k->(k=.local\/k=.cell)->L2.Loc X.env.scope x/\(X.fn x=true\/X.env.scope.names.lookup x=some .local)
 cel:∀{x:Str},(c.names.lookup x=some .cell\/c.names.lookup x=some .free)->X.env.scope.names.lookup x=some .cell\/X.env.scope.names.lookup x=some .free
 glb:∀{x:Str},c.names.lookup x=some .globalImplicit->Gl X x
 calm:X.calm=true
 units:UN X cl
 hand:X.A.handled=none
 blt:∀x∈jF,X.mg x=none
 fn:∀{x:Str} {i np:Nat},c.fns.lookup x=some (i,np)->∃(k:Nat) (fa:Addr) (fd:FuncData) (ps:List Str),ps.length=np/\bP k X.A/\X.mg x=some (.ref fa)/\PySem.W.keepIn X.K (.ref fa)=true/\Binds X.K fd ps []/\cg X.prog X.w X.K X.mg X.base (yi X.prog X.w) k fa fd ps (u5 X.K cl ps.length (C.call i))
 gl:∀{x:Str} {w:W},c.gl.lookup x=some w->∃u v,X.mg x=some u/\RelV v u/\∀J H,RW X.K J H w v
 cs:c.cs=C.cs
 fld:∀{d f:Str},C.cs.flds.contains (d,f)=true->wH X.K (ai X.K d)/\gz X.K (ai X.K d) f
 mth:∀{d f:Str} {i:Nat},C.cs.mths.lookup (d,f)=some i->Fw X cl C d f i
 ini:∀{d:Str} {i:Nat},C.cs.ini.lookup d=some i->LD X cl C d i
 dic:∀{x:Str} {kvs:List (Str×W)},C.cs.dic.lookup x=some kvs->TopK X.K X.w X.mg x kvs
 isc:∀{x:Str},C.cs.isc.contains x=true->X.mg x=some (.ref (ai X.K x))/\HA X.K (ai X.K x)
section
variable{env:Env}
theorem aP(h:noStar e=true):starEach (e::es) env=(false,eval e env)::starEach es env:=by
 cases e<;>first | rfl | cases h
theorem dm:∀{es:List Expr} {ds:Es},kq f es=some ds->(backTo pos (starEach es env)).any (·.1)=false
 | [],_,_=>rfl
 |e::es,ds,h=>by
  unfold kq at h;split at h
  .ext a;split at h
   .cases h
   .split at h
    .cases h
    .ext j g;rw[aP a];show ((false||(backTo pos (starEach es env)).any (·.1)))=false;rw[dm g];rfl
  .cases h
theorem pP:∀{es:List Expr} {ds:Es},kq f es=some ds->(backTo pos (starEach es env)).all (λ x=>!x.1)=true
 | [],_,_=>rfl
 |e::es,ds,h=>by
  unfold kq at h;split at h
  .ext a;split at h
   .cases h
   .split at h
    .cases h
    .ext j g;rw[aP a];show ((true&&(backTo pos (starEach es env)).all (λ x=>!x.1)))=true;rw[pP g];rfl
  .cases h
theorem gi(h:kq f (e::es)=some ds):noStar e=true/\∃d a,f e=some d/\kq f es=some a/\ds=.cons d a:=by
 unfold kq at h;split at h
 .ext g;split at h
  .cases h
  .ext d k;split at h
   .cases h
   .ext a j;cases h;exact⟨g,d,a,k,j,rfl⟩
 .cases h
theorem gJ(h:noStar e=true):assignEach (e::es) env=(false,assign e env)::assignEach es env:=by
 cases e<;>first | rfl | cases h
theorem vm(h:isSlice b=false):kD b:=by
 intro o i;cases b<;>first | rfl | cases h
theorem i7{m:Str}(h:gh o=false):attributeBase o m env (eval o env)=eval o env:=by
 unfold attributeBase;split
 .cases h
 .rfl
theorem pQ(h:isSet e=false)(x:Value):foldedSetIterable e env x=pure x:=by
 cases e<;>first | rfl | cases h
theorem gj{v:Expr}{t:Option Expr}{l:Nat}(h:jH v=false):swapsWith v t l env=pure false:=by
 cases v<;>first | rfl | cases h
def Es.len:Es->Nat
 |.nil=>0
 |.cons _ r=>r.len+1
theorem vn:∀{es:List Expr} {ds:Es},kq f es=some ds->ds.len=es.length
 | [],_,h=>by cases h;rfl
 |e::es,ds,h=>by
  let⟨_,d,a,_,g,rfl⟩:=gi h;show a.len+1=_;rw[vn g];rfl
theorem rm:∀{ds:Es} {Z:Loc} {m m':Mem} {ws:List W},aS C ds Z m=.ok ws m'->ws.length=ds.len
 |.nil,_,_,_,_,h=>by erw[dG] at h;cases h;rfl
 |.cons d ds,_,_,_,_,h=>by
  erw[dG] at h;let⟨w,m1,g,h⟩:=R.ah h;let⟨ws,m2,a,h⟩:=R.ah h;cases h;rw[RD,rm a];rfl
end
theorem lookup_mem{J:Type}{x:Str}{b:J}:∀{l:List (Str×J)},l.lookup x=some b->(x,b)∈l:=λ {l} h=>RY h
theorem n6{x:Str}{b:B}(h:pN.lookup x=some b):x∈jF/\((∃id,zO b=.builtin id/\bootBuiltins x=@(.builtin id))\/∃id,zO b=.type id/\bootBuiltins x=@(.type id)):=by
 have a:=lookup_mem h;erw[pN,RM,Vm,Rx,R0] at a;rcases a with⟨rfl,rfl⟩ | ⟨rfl,rfl⟩ | ⟨rfl,rfl⟩ | ⟨rfl,rfl⟩ | ⟨rfl,rfl⟩ | ⟨rfl,rfl⟩ | ⟨rfl,rfl⟩ | ⟨rfl,rfl⟩ | ⟨rfl,rfl⟩ | ⟨rfl,rfl⟩ | ⟨rfl,rfl⟩
  |⟨rfl,rfl⟩
 all_goals first
  |exact⟨by decide +kernel,.inl ⟨_,rfl,by decide +kernel⟩⟩
  |exact⟨by decide +kernel,.inr ⟨_,rfl,by decide +kernel⟩⟩
theorem Al{x:Str}{b:String}(h:Ai.lookup x=some b):x∈jF/\b∈cD/\bootBuiltins x=some (.type b):=by
 have a:=lookup_mem h;erw[Ai,RM,Vm,Rx,R0] at a;rcases a with⟨rfl,rfl⟩ | ⟨rfl,rfl⟩ | ⟨rfl,rfl⟩ | ⟨rfl,rfl⟩ | ⟨rfl,rfl⟩ | ⟨rfl,rfl⟩
 all_goals exact⟨by decide +kernel,by decide,by decide +kernel⟩
theorem tY{g:List Pos}{m:Str}{y:String×String}(h:pO g o m=some y):(m,y)∈vh:=by
 unfold pO at h
 by_cases a:m="count"/\g.contains o.pos=true
 .rw[Rf a] at h;cases h;rw[a.1];simp[vh]
 rw[Ri a] at h;exact lookup_mem h
theorem Am{X:L2.Cx}{cl:Cl}(j:UN X cl){k:List Pos}{m:Str}{a:String}(h:pO k o m=some (a,id)):PlainAttrs (Ln (w9 a))/\Slot (Ln (w9 a)) m id/\typeOf (.builtin id)=pure (.type "method_descriptor")/\yJ X id (SM X cl a):=by
 have g:=tY h;erw[vh,RM,Vm,Rx,R0] at g;rcases g with⟨rfl,rfl,rfl⟩
  |⟨rfl,rfl,rfl⟩
  |⟨rfl,rfl,rfl⟩
  |⟨rfl,rfl,rfl⟩
  |⟨rfl,rfl,rfl⟩
  |⟨rfl,rfl,rfl⟩
  |⟨rfl,rfl,rfl⟩
  |⟨rfl,rfl,rfl⟩
 .exact⟨Sl,PySem.F.slot_list_append,PySem.F.type_list_append,xJ⟩
 .exact⟨Sl,PySem.F.slot_list_clear,PySem.F.type_list_clear,zW⟩
 .exact⟨Sl,PySem.F.slot_list_extend,PySem.F.type_list_extend,xK⟩
 .exact⟨Sl,PySem.F.slot_list_insert,PySem.F.type_list_insert,xM⟩
 .exact⟨Sl,PySem.F.slot_list_index,PySem.F.type_list_index,xH⟩
 .exact⟨PySem.F.plainAttrs_set,PySem.F.slot_set_add,PySem.F.type_set_add,HG j⟩
 .exact⟨Sl,PySem.F.slot_list_count,PySem.F.type_list_count,zX⟩
 .exact⟨PySem.F.plainAttrs_tuple,PySem.F.slot_tuple_count,PySem.F.type_tuple_count,xN⟩
theorem aZ{x:Str}(h:special x=false):(x==("__debug__":Str))=false/\(x==("__classdict__":Str))=false/\x≠"__name__":=by
 unfold special at h;erw[Bool.or_eq_false_iff] at h;exact⟨h.1.1,h.1.2,~~~h.2⟩
section
variable{X:L2.Cx}{cl:Cl}{C:D.Cx}{c:Ci}
theorem Ok.slot(o:Ok X cl C c){x:Str}(h:ko x c.N=some i):X.N[i]?=some x:=by rw[o.N];exact i6 h
theorem Dz(o:Ok X cl C c){x:Str}(h:nY c x=some d):PE X (.Name x pos) (SE X cl (aq C d))/\∀Z m,bq C d Z m=(aq C d Z m).bind λ w m=>D.truthy m w:=by
 unfold nY at h;split at h
 .cases h
 .ext q;let⟨j,k,r⟩:=aZ (~~~q);split at h
  .ext a;erw[Q0] at h;let⟨i,g,rfl⟩:=h;exact⟨nQ (o.slot g) (o.vis a (.inl rfl)) j k,λ _ _=>rfl⟩
  .ext a;erw[Q0] at h;let⟨i,g,rfl⟩:=h;exact⟨nQ (o.slot g) (o.vis a (.inr (.inl rfl))) j k,λ _ _=>rfl⟩
  .ext a;erw[Q0] at h;let⟨i,g,rfl⟩:=h;exact⟨nQ (o.slot g) (o.vis a (.inr (.inr rfl))) j k,λ _ _=>rfl⟩
  .ext a;erw[Q0] at h;let⟨w,l,rfl⟩:=h;exact⟨E8 (o.glb a) (o.gl l) j,λ _ _=>rfl⟩
  .cases h
def Tells(X:L2.Cx)(cl:Cl)(C:D.Cx)(e:Expr)(d:E):Prop:=PE X e (SE X cl (aq C d))/\PT X e (ST X cl (bq C d))
theorem au(h:PE X e (SE X cl (aq C d)))(g:∀a,isTrue e X.env a=(do let v <-a;standAt e.pos;holding [v] (PySem.truthy v)))(j:∀Z m,bq C d Z m=(aq C d Z m).bind λ w m=>D.truthy m w):Tells X cl C e d:=⟨h,Fd h g j⟩
theorem An(h:Tells X cl C e d):Tells X cl C e (wz c e d):=by
 unfold wz;split
 .ext a;erw[Q5] at a;refine⟨Fv h.1,Fd (Fv h.1) ?_ λ _ _=>rfl⟩;have:=a.1;cases e<;>first | (intro _;rfl) | cases this
 .exact h
theorem dY(a:∀e d,f e=some d->Tells X cl C e d):∀{es:List Expr} {ds:Es},kq f es=some ds->PA X es (SA X cl (aS C ds))
 | [],_,h=>by cases h;exact Fe
 |e::es,ds,h=>by
  let⟨g,d,l,k,j,rfl⟩:=gi h;exact tP (a e d k).1 (dY a j) (aP g)
theorem DA(a:∀e d,f e=some d->Tells X cl C e d){e:Option Expr}{d:Oe}(h:cO f e=some d):PO X e (E4 X cl (qJ C d)):=by
 cases e with
 |none=>cases h;exact Hy
 |some e=>
  erw[cO,Q0] at h;let⟨j,g,rfl⟩:=h;exact Hz (a e j g).1
theorem vo{f:Expr->Option E}(g:∀e d,f e=some d->Tells X cl C e d){a:BoolOp}{pos:Pos}:∀{es:List Expr} {d:E},Jk f a es=some d->PE X (.BoolOp a es pos) (SE X cl (aq C d))/\PW X (.BoolOp a es pos) (ST X cl (bq C d))
 | [],_,h=>by cases h
 | [e],d,h=>by
  have q:=g e d h;cases a with
  |And=>exact⟨yp q.1,BQ q.2⟩
  |Or=>exact⟨yp q.1,Gg q.2⟩
 |e::z::r,d,h=>by
  unfold Jk at h;split at h
  .cases h
  .ext x u;split at h
   .cases h
   .ext A t;let⟨k,j⟩:=vo (pos:=pos) g t;let⟨l,p2⟩:=g e x u;cases a with
    |And=>cases h;exact⟨Lh l k,w_and p2 j⟩
    |Or=>cases h;exact⟨Ob l k,w_or p2 j⟩
theorem DB{a T:Expr}{dc:E}{A t:CmpOp}(hu:UN X cl)(ha:PE X a (SE X cl (aq C da)))(hb:PE X b (SE X cl (aq C db)))(g:PE X T (SE X cl (aq C dc)))(hm:lastMarks [A,t] [b,T]=false) :
  PT X (.Compare a [A,t] [b,T] pos) (ST X cl (bq C (.chain A t da db dc))):=by
 refine PT.imp (yy (jC (cl:=cl) hu A) (jC (cl:=cl) hu t) ha hb g hm) ?_;rintro Y H Q ⟨J,Z,m,w,m',r,l,e,k⟩;erw[eU] at e;let⟨x,m1,e1,e⟩:=R.ah e;let⟨y,m2,e2,e⟩:=R.ah e;let⟨z,m3,e3,e⟩:=R.ah e;refine⟨J,Z,m,x,m1,r,l,e1,fun M H1 v1 S q q1=>?_⟩;refine⟨M,Z,m1,y,m2,q,l.mono r S,e2,fun L H2 v2 O j q2=>?_⟩;have l2:=(l.mono r S).mono q O;refine⟨L,m2,x,y,.bl z,m3,j,q1.mono q O,q2,by rw[e3];rfl,fun I H3 v3 N h q3=>?_⟩;cases q3;refine⟨z,rfl,?_⟩;have Lj:=(S.trans q O).trans j N;split at e
 .ext g;rw[Rf g];let⟨u,m4,e4,e⟩:=R.ah e;refine⟨I,Z,m3,u,m4,h,l2.mono j N,e4,fun B H4 v4 U r4 q4=>?_⟩;refine⟨B,m4,y,u,.bl w,m',r4,(q2.mono j N).mono h U,q4,by rw[e];rfl,fun β5 H5 v5 x5 r5 q5=>?_⟩;cases q5;exact⟨_,rfl,k _ _ ((Lj.trans h U).trans r4 x5) r5⟩
 .ext g;rw[Ri g];cases e;exact⟨_,rfl,k _ _ Lj h⟩
theorem LG{t a:Expr}{O:E}(T:PT X t (ST X cl (bq C O)))(ha:PT X a (ST X cl (bq C da)))(hb:PT X b (ST X cl (bq C db))):PT X (.IfExp t a b pos) (ST X cl (bq C (.ife O da db))):=by
 intro aa s Y H Q I h;let⟨J,Z,m,w,m',r,l,e,k⟩:=h;erw[lH] at e;let⟨x,A,e1,e⟩:=R.ah e;show wpAny _ _ (isTrue t X.env (eval t X.env) >>= λ z=>if z=true then isTrue a X.env (eval a X.env) else isTrue b X.env (eval b X.env)) _ _ s;refine Q2 (bF (T aa s Y H (λ c u=>c=x/\∃g,Ext J H g u/\Rel X.K cl g A u) I ⟨J,Z,m,x,A,r,l,e1,fun g u j q=>⟨rfl,g,j,q⟩⟩) λ c N ⟨u,S,U,g,j,q⟩=>?_);subst U;cases c with
 |true=>exact ha aa N Y u Q S ⟨g,Z,A,w,m',q,l.mono r j,e,fun B H2 L M=>k _ _ (j.trans q L) M⟩
 |false=>exact hb aa N Y u Q S ⟨g,Z,A,w,m',q,l.mono r j,e,fun B H2 L M=>k _ _ (j.trans q L) M⟩
end
section
variable{X:L2.Cx}{cl:Cl}{C:D.Cx}{c:Ci}
theorem fM(o:Ok X cl C c){x:Str}(h:gu c x=some i):X.N[i]?=some x/\L2.Loc X.env.scope x/\(X.fn x=true\/X.env.scope.names.lookup x=some .local):=by
 unfold gu at h;split at h
 .ext a;exact⟨o.slot h,o.loc a (.inl rfl)⟩
 .ext a;exact⟨o.slot h,o.loc a (.inr rfl)⟩
 .cases h
theorem Io(o:Ok X cl C c):X.N.Nodup:=by rw[o.N];exact o.nd
theorem Fz{f:Expr->Option T}(a:∀e t,f e=some t->PG X e (SG X cl (eV C (.pt t)))):∀{es:List Expr} {ts:Ts},ML f es=some ts->
  su X es (HK X cl (fh C (T.tT ts)))/\(assignEach es X.env).length=(T.tT ts).len/\(assignEach es X.env).findIdx? (·.1)=none
 | [],_,h=>by cases h;exact⟨z9,rfl,rfl⟩
 |e::es,ts,h=>by
  unfold ML at h;split at h
  .ext l;split at h
   .cases h
   .ext d r;split at h
    .cases h
    .ext ds q;cases h;let⟨k,j,g⟩:=Fz a q;have e1:=gJ (env:=X.env) (es:=es) l;refine⟨u9 (a e d r) k (by rw[e1];rfl),?_,?_⟩
     .rw[e1,RD,j];rfl
     .rw[e1,findIdx?_cons];simp[g]
  .cases h
theorem rq(o:Ok X cl C c):∀(n:Nat) (e:Expr) (t:T),cT n c e=some t->PG X e (SG X cl (eV C (.pt t)))
 |0,_,_,h=>by cases h
 |n+1,e,t,h=>by
  unfold cT at h;split at h
  .erw[Q0] at h;let⟨i,hi,rfl⟩:=h;let⟨q,l,k⟩:=fM o hi;exact Fl (Io o) q l k
  .erw[Q0] at h;let⟨ts,hi,rfl⟩:=h;let⟨j,g,a⟩:=Fz (λ e t h=>rq o n e t h) hi;exact HU (Fo o.calm j g a)
  .cases h
theorem xQ{x:Str}{args:List Expr}{a:Expr}(h:tX x args=some a):∃py p2,x="len"/\args=[.Call (.Name "set" py) [a] [] p2]:=by
 unfold tX at h;split at h
 .ext j;split at h
  .split at h
   .ext g;cases h;subst j g;exact⟨_,_,rfl,rfl⟩
   .cases h
  .cases h
 .cases h
theorem Ao(h:isIt d=false):∀Z m,dR C d Z m=(aq C d Z m).bind nu:=by
 intro Z m;cases d<;>first | (simp[isIt] at h;done) | rfl
theorem pR(a:∀e d,f e=some d->Tells X cl C e d)(h:(match f e with | some d=>if isIt d=true then none else some d | none=>none)=some d):PI X tg e (SI X cl (dR C d)):=by
 split at h
 .ext k j;split at h
  .cases h
  .ext g;cases h;exact Lo (a _ _ j).1 (Ao (~~~g))
 .cases h
theorem vq(o:Ok X cl C c)(a:∀e d,f e=some d->Tells X cl C e d)(h:cI f c tg e=some d):PI X tg e (SI X cl (dR C d)):=by
 unfold cI at h;split at h
 .ext x p u z pos;split at h
  .ext t;erw[Q5,RT,isEmpty_iff] at t;let⟨⟨⟨q,g⟩,B⟩,A⟩:=t;subst q;split at h
   .ext j;subst j;have l:=o.blt "range" 'k';split at h
    .split at h
     .ext k;erw[Q0] at h;let⟨I,r,rfl⟩:=h;exact Lp (o.glb g) l (a _ _ r).1 (aP k)
     .cases h
    .cases h
   .split at h
    .ext j;subst j;have l:=o.blt "enumerate" 'k';split at h
     .split at h
      .ext k;erw[Q0] at h;let⟨I,r,rfl⟩:=h;exact Lq (o.glb g) l (a _ _ r).1 (aP k)
      .cases h
     .cases h
    .
      exact pR a h
  .exact pR a h
 .exact pR a h
theorem vz(a:∀e d,f e=some d->Tells X cl C e d)(h:Ak f es=some ds):k9 X es (ST X cl (bM C ds)):=by
 unfold Ak at h;split at h
 .cases h;exact Ds
 .erw[Q0] at h;let⟨d,g,rfl⟩:=h;exact Du (a _ _ g).2
 .cases h
theorem lO{gs:List Comprehension}{g:G}(h:Fy f n c elt gs=some g):∀g',gs[0]?=some g'->g'.is_async=0/\∀(env:Env) x,foldedSetIterable g'.iter env x=pure x:=by
 intro g' a;cases gs with
 |nil=>simp at a
 |cons k gs=>
  simp at a;subst a;let⟨tg,it,ifs,l⟩:=k;unfold Fy at h;split at h
  .ext j;exact⟨j.1,λ env x=>pQ j.2 x⟩
  .cases h
theorem Aq(o:Ok X cl C c)(k:X.xe=λ _ _=>False)(j:∀e d,f e=some d->Tells X cl C e d){Δ:Addr}:∀{gs:List Comprehension} {g:G} {d0:Nat},Fy f n c elt gs=some g->(∀i,gens[d0+1+i]?=gs[i]?)->
  PB X (λ Q s=>dH X.prog X.w X.A (.ListComp elt gens scope pos) elt d0 (.ref Δ) X.env Q gens[d0+1]? s) (SB false X cl Δ (jh C g))
 | [],g,d0,h,a=>by
  erw[Fy,Q0] at h;let⟨d,l,rfl⟩:=h;exact H9 k (by simpa using a 0) (j _ _ l).1
 |⟨tg,it,ifs,as⟩::gs,g,d0,h,a=>by
  unfold Fy at h;split at h
  .ext u;split at h
   .ext t d ds g' l B z q;cases h;let⟨rfl,r⟩:=u;have x:=lO q;refine Lw k o.calm (by simpa using a 0) (λ I N=>?_) (vq o j B) (rq o n _ _ l) (vz j z) (Aq o k j (d0:=d0+1) q λ i=>?_)
    .have:=a 1;rw[N] at this;let⟨M,L⟩:=x I (~~~this.symm);exact⟨M,L _⟩
    .have:=a (i+1);rw[show d0+1+1+i=d0+1+(i+1) by lia,this];simp
   .cases h
  .cases h
theorem bx{env:Env}:∀{names:List (Str×NameKind)} {x:Str} {k:NameKind},names.lookup x=some k->
  (names.map λ (n,k)=>if (k==NameKind.free&&env.scope.kind==.function&&env.kindOf n==some .cell) then (n,NameKind.cell) else (n,k)).lookup x=some k\/
  (k=.free/\(names.map λ (n,k)=>if (k==NameKind.free&&env.scope.kind==.function&&env.kindOf n==some .cell) then (n,NameKind.cell) else (n,k)).lookup x=some .cell)
 | [],_,_,h=>by simp at h
 |(n,a)::r,x,k,h=>by
  have l:=@bx env r x k;show List.lookup x ((if (a==NameKind.free&&env.scope.kind==.function&&env.kindOf n==some .cell)=true then (n,NameKind.cell) else (n,a))::(r.map λ (n,k)=>if (k==NameKind.free&&env.scope.kind==.function&&env.kindOf n==some .cell) then (n,NameKind.cell) else (n,k)))=some k\/(k=.free/\List.lookup x ((if (a==NameKind.free&&env.scope.kind==.function&&env.kindOf n==some .cell)=true then (n,NameKind.cell) else (n,a))::(r.map λ (n,k)=>if (k==NameKind.free&&env.scope.kind==.function&&env.kindOf n==some .cell) then (n,NameKind.cell) else (n,k)))=some .cell);cases g:x==n with
  |true=>
   erw[Rl,g] at h;cases h
   by_cases j:(a==NameKind.free&&env.scope.kind==.function&&env.kindOf n==some .cell)=true
   .rw[Rf j];have q:a=.free:=by
     erw[Q5] at j;simpa using j.1.1
    exact .inr ⟨q,by erw[Rl,g]⟩
   .rw[Ri j];exact .inl (by erw[Rl,g])
  |false=>
   erw[Rl,g] at h;have:=l h;split<;>(erw[Rl,g];exact this)
theorem Ok.comp(o:Ok X cl C c)(t:tW c.N scope c.names=true):fW X.N (rj c.N scope.names) scope X.env.scope/\∀q h H₀ B pn,Ok (X.comp scope q h H₀ B pn) cl C {c with names:=scope.names}:=by
 unfold tW at t;erw[Q5,Sa,TN,Tw] at t;let⟨L,u⟩:=t;refine⟨⟨L,λ y l j=>?_,λ y l j=>?_,λ p A j=>?_,λ y l I=>?_⟩,λ q h H₀ B pn=>⟨o.N,o.nd,λ {x k} a r=>?_,λ {x k} a r=>?_,λ {x} a=>?_,λ {x} a=>?_,o.calm,⟨o.units.un,o.units.P,o.units.w,o.units.gd⟩,o.hand,o.blt,o.fn,o.gl,o.cs,o.fld,o.mth,o.ini,o.dic,o.isc⟩⟩
 .rcases (u y l).1.1 with z | z
  .exact absurd j z
  .exact z
 .rcases (u y l).1.2 with z | z
  .exact absurd j z
  .exact z
 .unfold rj;rw[o.N] at A;refine Sg.mpr ⟨p,S1.mpr ⟨A,by rcases j with j | j<;>simp[j]⟩,rfl⟩
 .rcases (u y l).2 with (z | z) | z
  .exact absurd I z
  .exact o.cel (.inl z)
  .exact o.cel (.inr z)
 .rcases bx (env:=X.env) a with z | ⟨g,z⟩
  .rcases r with rfl | rfl | rfl
   .exact .inl z
   .exact .inr (.inl z)
   .exact .inr (.inr z)
  .exact .inr (.inl z)
 .rcases r with rfl | rfl
  .rcases bx (env:=X.env) a with z | ⟨g,z⟩
   .exact⟨.inl z,.inr z⟩
   .cases g
  .rcases bx (env:=X.env) a with z | ⟨g,z⟩
   .exact⟨.inr z,.inl (~~~a)⟩
   .cases g
 .rcases a with a | a
  .rcases bx (env:=X.env) a with z | ⟨g,z⟩
   .exact .inl z
   .cases g
  .rcases bx (env:=X.env) a with z | ⟨g,z⟩
   .exact .inr z
   .exact .inl z
 .rcases bx (env:=X.env) a with z | ⟨g,z⟩
  .exact z
  .cases g
end
theorem LH{X:L2.Cx}{cl:Cl}{a st:Expr}{U:E}(ha:PE X a (SE X cl (aq C d)))(B:PE X st (SE X cl (aq C U))) :
  PE X (.Subscript a (.Slice none none (some st) p2) pos) (SE X cl (aq C (.fus .stp (.tup %[d,|U])))):=by
 refine PE.imp (HC ha B) ?_;rintro Y H Q ⟨J,Z,m,w,m',r,l,e,k⟩;erw[bT] at e;let⟨x,m1,g,e⟩:=R.ah e;erw[bZ] at g;let⟨ws,m2,g,L⟩:=R.ah g;split at L
 rotate_left
 .cases L
 cases L;erw[av,aF] at g;let⟨y1,S,f1,g⟩:=R.ah g;let⟨us,m4,g,I⟩:=R.ah g;cases I;let⟨y2,m5,f2,g⟩:=R.ah g;let⟨us,m6,g,I⟩:=R.ah g;cases I;cases g;erw[ck,zb] at e;refine⟨J,Z,m,y1,S,r,l,f1,fun u H1 v1 O A q1=>?_⟩;refine⟨u,Z,S,y2,_,A,l.mono r O,f2,fun q H2 v2 N j q2=>?_⟩;split at e
 .ext h;cases h;split at e
  .ext M hx;split at e
   .ext T;cases e;let⟨a',vs,rfl,hq,t⟩:=j.getL (q1.mono A N) hx;cases q2;refine⟨a',vs,_,rfl,rfl,hq,T,λ p hp=>?_⟩;have tt:∀{z:Int},z=1\/z=-1->aU X.K q H2 (if z=1 then M else M.reverse) (if z=1 then vs else vs.reverse):=λ {z} hz=>by
     rcases hz with rfl | rfl
     .exact t
     .exact t.reverse
    let⟨x3,r3⟩:=j.newL hp (tt T);exact k _ _ _ ((O.trans A N).trans j x3) r3 (.ref (j.last p))
   .cases e
  .cases e
 .cases e
theorem vA{X:L2.Cx}{cl:Cl}{c:Ci}(o:Ok X cl C c){a:List (Str×W)}(h:Dy c e=some a):∃x p,e=.Name x p/\TopK X.K X.w X.mg x a/\Gl X x/\(x==("__debug__":Str))=false:=by
 unfold Dy at h;split at h
 .ext x p;split at h
  .cases h
  .ext g;split at h
   .ext j;rw[o.cs] at h;exact⟨x,p,rfl,o.dic h,o.glb j,(aZ (~~~g)).1⟩
   .cases h
 .cases h
theorem rA:∀{a:List (Option Expr)} {ks:List Str},nZ a=some ks->a.all (·.isSome)=true
 | [],_,_=>rfl
 |e::r,ks,h=>by
  unfold nZ at h;split at h
  .erw[Q0] at h;let⟨g,j,rfl⟩:=h;rw[Ux,rA j];rfl
  .cases h
theorem Ar{X:L2.Cx}{cl:Cl}(l:∀e d,f e=some d->PE X e (SE X cl (aq C d))):∀{g:List (Option Expr)} {a:List Expr} {ks:List Str} {ds:Es},nZ g=some ks->kq f a=some ds->g.length=a.length->Jh X pos g a (vf X cl C ks ds)
 | [],[],ks,ds,j,h,_=>by cases j;cases h;exact CC
 | [],_::_,_,_,_,_,k=>by simp at k
 |_::_,[],_,_,_,_,k=>by simp at k
 |e::r,v::vs,ks,ds,j,h,k=>by
  unfold nZ at j;split at j
  .erw[Q0] at j;let⟨q,x,rfl⟩:=j;unfold kq at h;split at h
   .split at h
    .cases h
    .ext d u;split at h
     .cases h
     .ext z t;cases h;exact yN yo (l v d u) (Ar l x t (~~~k))
   .cases h
  .cases j
theorem FE{X:L2.Cx}{cl:Cl}{c:Ci}(o:Ok X cl C c){it:Expr}{gs:List Comprehension}{t:T}{q:E}{g:G}
  (l:∀h a H₀ k pn,Ok (X.comp scope h a H₀ k pn) cl C {c with names:=scope.names}) (z:fW X.N (rj c.N scope.names) scope X.env.scope) (B:∀j,gs[0]?=some j->j.is_async=0/\∀(env:Env) x,foldedSetIterable j.iter env x=pure x)
  (A:∀e d,cE n c e=some d->Tells X cl C e d) (r:∀h a H₀ k pn e d,cE n {c with names:=scope.names} e=some d->Tells (X.comp scope h a H₀ k pn) cl C e d)
  (O:cT n {c with names:=scope.names} tg=some t) (M:cI (cE n c) c tg it=some q) (L:Ak (cE n {c with names:=scope.names}) ifs=some ds) (I:Fy (cE n {c with names:=scope.names}) n {c with names:=scope.names} elt gs=some g) (u:isSet it=false) :
  CL X cl C elt tg it ifs gs scope pos (rj c.N scope.names) t q ds g:=
 ⟨o.calm,z,B,vq o A M,λ _ _ _ _ _=>rq (l _ _ _ _ _) n _ _ O,λ _ _ _ _ _=>vz (r _ _ _ _ _) L,
  λ _ _ _ _ _ R=>Aq (l _ _ _ _ _) rfl (r _ _ _ _ _) I λ i=>by simp[Nat.add_comm],λ x=>pQ u x⟩
theorem fN{cl:Cl}:∀(n:Nat) (X:L2.Cx) (c:Ci) (e:Expr) (d:E),Ok X cl C c->cE n c e=some d->Tells X cl C e d
 |0,_,_,_,_,_,h=>by cases h
 |n+1,X,c,e,d,o,h=>by
  have l:∀e d,cE n c e=some d->Tells X cl C e d:=λ e d h=>fN n X c e d o h;unfold cE at h;erw[Q0] at h;let⟨d,h,rfl⟩:=h;refine An ?_;split at h
  .
   let⟨q1,q2⟩:=Dz o h;exact au q1 (λ _=>rfl) q2
  .
   split at h
   .cases h;exact au E5 (λ _=>rfl) λ _ _=>rfl
   .cases h;exact au Lf (λ _=>rfl) λ _ _=>rfl
   .cases h;exact au E6 (λ _=>rfl) λ _ _=>rfl
   .cases h;exact au E7 (λ _=>rfl) λ _ _=>rfl
   .cases h
  .
   split at h
   .ext B d2 j u;cases h;exact au (E9 (l _ _ j).1 (l _ _ u).1) (λ _=>rfl) λ _ _=>rfl
   .cases h
  .
   split at h
   .erw[Q0] at h;let⟨d',j,rfl⟩:=h;exact au (Lg (l _ _ j).1) (λ _=>rfl) λ _ _=>rfl
   .erw[Q0] at h;let⟨d',j,rfl⟩:=h;exact⟨zD (l _ _ j).1,zE (l _ _ j).2⟩
   .cases h
  .
   let⟨q1,q2⟩:=vo l h;exact⟨q1,q2.pt⟩
  .
   split at h
   .split at h
    .cases h
    .ext S;split at h
     .ext kvs T;let⟨x,p,rfl,hT,L,hd⟩:=vA o T;unfold LF at h;split at h
      .erw[Q0] at h;let⟨B,j,rfl⟩:=h;exact⟨Ih hT L hd (l _ _ j).1,Ii hT L hd (l _ _ j).1⟩
      .cases h
     split at h
     .ext B d2 j u;cases h;exact⟨Fb o.units (l _ _ j).1 (l _ _ u).1 (~~~S),Fc o.units (l _ _ j).1 (l _ _ u).1 (~~~S)⟩
     .cases h
   .split at h
    .cases h
    .ext S;split at h
     .ext B d2 d3 j u U;cases h;have S:=(RE _).mp S;exact⟨C4 o.units (l _ _ j).1 (l _ _ u).1 (l _ _ U).1 (yx (jC o.units _) (jC o.units _) (l _ _ j).1 (l _ _ u).1 (l _ _ U).1 S),DB o.units (l _ _ j).1 (l _ _ u).1 (l _ _ U).1 S⟩
     .cases h
   .cases h
  .
   split at h
   .ext B d2 d3 j u U;cases h;exact⟨Li (l _ _ j).2 (l _ _ u).1 (l _ _ U).1,LG (l _ _ j).2 (l _ _ u).2 (l _ _ U).2⟩
   .cases h
  .
   erw[Q0] at h;let⟨ds,j,rfl⟩:=h;exact au (Ff (dY l j)) (λ _=>rfl) λ _ _=>rfl
  .erw[Q0] at h;let⟨ds,j,rfl⟩:=h;exact au (zF (dY l j)) (λ _=>rfl) λ _ _=>rfl
  .
   split at h
   .split at h
    .split at h
     .ext B d2 d3 j u U;cases h;exact au (Ll (l _ _ j).1 (DA l u) (DA l U)) (λ _=>rfl) λ _ _=>rfl
     .cases h
    .split at h
     .split at h
      .ext B d2 j u;cases h;exact au (LH (l _ _ j).1 (l _ _ u).1) (λ _=>rfl) λ _ _=>rfl
      .cases h
     .cases h
   .split at h
    .cases h
    .ext hs;split at h
     .ext kvs T;let⟨x,p,rfl,hT,L,hd⟩:=vA o T;erw[Q0] at h;let⟨B,j,rfl⟩:=h;exact au (Ij hT L hd (l _ _ j).1 (vm ((RE _).mp hs))) (λ _=>rfl) λ _ _=>rfl
     split at h
     .ext B d2 j u;cases h;exact au (Lk (l _ _ j).1 (l _ _ u).1 (vm ((RE _).mp hs))) (λ _=>rfl) λ _ _=>rfl
     .cases h
  .
   split at h
   .ext hc;split at h
    .ext ks T;erw[Q0] at h;let⟨ds,j,rfl⟩:=h;exact au (Ik (Ar (λ e d h=>(l e d h).1) T j hc.1) (rA T) hc.1 hc.2.2 hc.2.1) (λ _=>rfl) λ _ _=>rfl
    .cases h
   .cases h
  .
   ext f args kws pos;split at h
   .ext T;have T:kws=[]:=by simpa using T
    subst T;split at h
    .ext x p;split at h
     .cases h
     .ext sR;let⟨hs1,hs2,hs3⟩:=aZ (~~~sR);split at h
      .ext QA;have L:=o.glb QA;split at h
       .ext i np hf;split at h
        .split at h
         .ext hnp;cases h;let⟨k,fa,fd,ps,e1,e2,e3,e4,e5,e6⟩:=o.fn hf;exact au (Dv e6 e2 L e3 e4 e5 (by rw[e1];exact hnp) hs1) (λ _=>rfl) λ _ _=>rfl
         .cases h
        .ext a r;split at h
         .ext A;erw[Q0] at h;let⟨ds,j,rfl⟩:=h;let⟨k,fa,fd,ps,e1,e2,e3,e4,e5,e6⟩:=o.fn hf;let⟨z,B,ds1,z1,O,rfl⟩:=gi j;refine au (s_call e6 e2 L e3 e4 e5 (dY l j) (fun Z m ws m' hw=>?_) hs1 (aP z) (dm O)) (λ _=>rfl) λ _ _=>rfl;rw[rm hw,vn j,e1];exact A
         .cases h
       .split at h
        .cases h
        split at h
        .ext tZ;subst tZ;split at h
         .cases h;exact au (HJ o.units L (o.blt _ 'k')) (λ _=>rfl) λ _ _=>rfl
         .cases h
        split at h
        .ext a hl;split at h
         .ext dO;erw[Q5,RT] at dO;erw[Q0] at h;let⟨B,j,rfl⟩:=h;let⟨py,p2,rfl,rfl⟩:=xQ hl;exact au (Ig o.hand o.units.un L (o.blt _ 'k') (o.glb dO.1.2) (o.blt _ 'k') (l _ _ j).1 (aP dO.1.1)) (λ _=>rfl) λ _ _=>rfl
         .cases h
        split at h
        .ext b hb;split at h
         .cases h
         .ext a r;erw[Q0] at h;let⟨ds,j,rfl⟩:=h;let⟨z,B,ds1,z1,O,rfl⟩:=gi j;obtain⟨S,⟨id,y1,R⟩ | ⟨id,y1,R⟩⟩:=n6 hb
          .exact au (zS o.units o.calm o.hand y1 L (o.blt _ S) R (dY l j) hs3 hs1 (aP z) (dm O)) (λ _=>rfl) λ _ _=>rfl
          .exact au (zT o.units o.calm o.hand y1 L (o.blt _ S) R (dY l j) hs3 hs1 (aP z) (dm O)) (λ _=>rfl) λ _ _=>rfl
        .split at h
         .ext hx;subst hx;split at h
          .ext a t p2;split at h
           .cases h
           .ext Oq;let⟨hq1,hq2,hq3⟩:=aZ (~~~Oq);split at h
            .ext dO;erw[Q5,RT] at dO;split at h
             .ext tn B y1 R;cases h;let⟨z1,O,z3⟩:=Al y1;exact au (Lm O L (o.blt _ 'k') (o.glb dO.2) (o.blt _ z1) z3 (l _ _ R).1 hq3 hq1 (aP dO.1)) (λ _=>rfl) λ _ _=>rfl
             .cases h
            .cases h
          .cases h
         .cases h
      .cases h
    .ext ob mm apos;split at h
     .cases h
     .ext N;split at h
      .ext I;split at h
       .ext nm id B y1 R;split at h
        .ext A;erw[Q0] at h;let⟨ds,j,rfl⟩:=h;let⟨w0,w1,w2,w3⟩:=Am (X:=X) (cl:=cl) o.units y1;have q:=i7 (env:=X.env) (m:=mm) (by simpa using N:gh ob=false);cases args with
         |nil=>
          cases j;exact au (C9 rfl w0 w1 w2 w3 (l _ _ R).1 q I) (λ _=>rfl) λ _ _=>rfl
         |cons a r=>
          let⟨z,d2,ds1,z1,O,rfl⟩:=gi j;refine au (HH rfl w0 w1 w2 w3 (l _ _ R).1 (dY l j) q ?_ I (aP z) (dm O)) (λ _=>rfl) λ _ _=>rfl;rw[pP j];have:(a::r).length+0+0<30:=Rh A 'd';show (true&&true&&decide _)=true;exact RX this
        .cases h
       .ext B y1 R;split at h
        .ext A;erw[Q0] at h;let⟨ds,j,rfl⟩:=h;have q:=i7 (env:=X.env) (m:=mm) (by simpa using N:gh ob=false);refine au (LC (λ hx=>o.mth hx) (l _ _ R).1 (dY l j) q ?_ I ?_) (λ _=>rfl) λ _ _=>rfl
         .rw[pP j];have:args.length+0+0<30:=Rh A 'd';show (true&&true&&decide _)=true;exact RX this
         .cases args with
          |nil=>cases j;exact .inl ⟨rfl,rfl⟩
          |cons a r=>
           let⟨z,d2,ds1,z1,O,rfl⟩:=gi j;exact .inr ⟨a,r,rfl,aP z,dm O⟩
        .cases h
       .cases h
      .cases h
    .cases h
   .cases h
  .
   ext ob f p;split at h
   .cases h
   .ext N;erw[Q0] at h;let⟨B,j,rfl⟩:=h;erw[Tw,Uz,RE] at N;exact au (LB (λ hx=>o.fld hx) (l _ _ j).1 (i7 N.1)) (λ _=>rfl) λ _ _=>rfl
  .
   ext elt gens scope pos;split at h
   .cases h
   .ext tg it ifs as gs;split at h
    .ext dO;let⟨rfl,tZ,hco⟩:=dO;split at h
     .ext t B ds g j u U h4;cases h;let⟨ok,oc⟩:=o.comp hco;have Jl:∀cl' M H₀ fp pn e d,cE n {c with names:=scope.names} e=some d->Tells (X.comp scope cl' M H₀ fp pn) cl C e d:=λ cl' M H₀ fp pn e d h=>fN n _ _ e d (oc cl' M H₀ fp pn) h;refine au (Ib (FE o oc ok (lO h4) l Jl j u U h4 tZ) (eval_ListComp _ _ _ _)) (λ _=>rfl) λ _ _=>rfl
     .cases h
    .cases h
  .cases h
section
variable{env:Env}
theorem DC{i:Expr}(h:isSlice i=false)(v:Value):assign (.Subscript o i pos) env v=(do
   let a <-holding [v] (eval o env)
   let g <-holding [v,a] (eval i env)
   standAt pos
   holding [v,a,g] (setItem a g v)
   release [v,a,g] []):=by
 cases i<;>first | rfl | cases h
theorem DE{v:Expr}{l:Nat}(h:vj tg=false):swapsWithSole [tg] v l env=pure false:=by
 show swapsWith v (some tg) l env=pure false;cases v<;>first | rfl | (cases tg<;>first | rfl | cases h)
theorem DF{v:Expr}{f:Str}{l:Nat}:swapsWith v @(.Attribute o f p) l env=pure false:=by
 cases v<;>rfl
theorem jJ{v:Expr}(h:(jI tg&&jI v)=false):swappedStores [tg] v env=pure none:=by
 cases tg<;>first | rfl | (cases v<;>first | rfl | cases h)
theorem rB{x:Str}{l k:Pos}{q r:Nat}{a:Expr}(bk:env.blockKind=.function)(t:env.kindOf x=some .local)(R:env.kindOf y=some .local)(u:px.line=py.line)(g:x≠y)(B:noStar a=true)(A:noStar b=true)
  (N:[a,b].all (foldedForSure 8)=false) (M:[a,b].all (constantsAlone 8)=false):swappedStores [.Tuple [.Name x px,.Name y py] q l] (.Tuple [a,b] r k) env=pure (some [x,y]):=by
 have S:∀(f:Expr->Bool),(∀e,noStar e=true->f e=false)->[a,b].any f=false:=λ f h=>by simp[h a B,h b A]
 have j:∀(f:Expr->Option Str),f (.Name x px)=some x->f (.Name y py)=some y->[Expr.Name x px,Expr.Name y py].filterMap f=[x,y]:=λ f L I=>by simp[L,I]
 have O:[x,y].eraseDups=[x,y]:=by
  rw[eraseDups_cons];have:(y==x)=false:=by simpa using g.symm
  simp[this,eraseDups_cons]
 unfold swappedStores;erw[bk,N,M];refine(Ri 's').trans ?_;rw[S _ (λ e z=>by cases e<;>first | rfl | cases z)];refine(Ri 's').trans ?_;rw[j _ (by simp[t,show (Expr.Name x px).pos=px from rfl]) (by simp[R,show (Expr.Name x px).pos=px from rfl,show (Expr.Name y py).pos=py from rfl,u]),O];rfl
end
theorem xR{c:Ci}{v:Expr}(j:jH v=true)(h:cE n c v=some d):(∃elt gens scope pos,v=.ListComp elt gens scope pos)\/∃g a gens scope pos,v=.DictComp g a gens scope pos:=by
 cases n with
 |zero=>cases h
 |succ n=>
  cases v with
  |ListComp elt gens scope pos=>exact .inl ⟨_,_,_,_,rfl⟩
  |SetComp elt gens scope pos=>unfold cE at h;simp at h
  |DictComp k v gens scope pos=>exact .inr ⟨_,_,_,_,_,rfl⟩
  |_=>cases j
section
variable{X:L2.Cx}{cl:Cl}{C:D.Cx}{c:Ci}
theorem FF{f:Expr->Option A}(a:∀e t,f e=some t->PG X e (SG X cl (eV C t))):∀{es:List Expr} {ts:As},MM f es=some ts->
  su X es (HK X cl (fh C ts))/\(assignEach es X.env).length=ts.len/\(assignEach es X.env).findIdx? (·.1)=none
 | [],_,h=>by cases h;exact⟨z9,rfl,rfl⟩
 |e::es,ts,h=>by
  unfold MM at h;split at h
  .ext l;split at h
   .cases h
   .ext d r;split at h
    .cases h
    .ext ds q;cases h;let⟨k,j,g⟩:=FF a q;have e1:=gJ (env:=X.env) (es:=es) l;refine⟨u9 (a e d r) k (by rw[e1];rfl),?_,?_⟩
     .rw[e1,RD,j];rfl
     .rw[e1,findIdx?_cons];simp[g]
  .cases h
theorem vB(o:Ok X cl C c):∀(n:Nat) (e:Expr) (t:A),cA n c e=some t->PG X e (SG X cl (eV C t))
 |0,_,_,h=>by cases h
 |n+1,e,t,h=>by
  unfold cA at h;split at h
  .erw[Q0] at h;let⟨i,hi,rfl⟩:=h;let⟨g,a,r⟩:=fM o hi;exact Fl (Io o) g a r
  .erw[Q0] at h;let⟨ts,hi,rfl⟩:=h;let⟨l,k,j⟩:=FF (λ e t h=>vB o n e t h) hi;exact Fo o.calm l k j
  .split at h
   .cases h
   .ext q;split at h
    .ext x u g a;cases h;exact Lr o.units (fN n X c _ _ o g).1 (fN n X c _ _ o a).1 (DC ((RE _).mp q))
    .cases h
  .cases h
theorem gv{f:Stmt->Option S}(a:∀s d,f s=some d->PS X s (SS X cl (bu C d))):∀{es:List Stmt} {ds:Ss},sA f es=some ds->iD X es (SS X cl (aD C ds))
 | [],_,h=>by cases h;exact HW
 |e::es,ds,h=>by
  unfold sA at h;split at h
  .cases h
  .ext d j;split at h
   .cases h
   .ext ds g;cases h;exact Dc (a e d j) (gv a g)
theorem Au(o:Ok X cl C c){x:Str}(ht:gu c x=some i)(h:cE n c (.ListComp elt gens scope pos)=some d) :
  PS X (.Assign [.Name x p] (.ListComp elt gens scope pos) spos) (SS X cl (bu C (.asg (.pt (.var i)) d))):=by
 let⟨O,N,M⟩:=fM o ht;have e:swapsWith (.ListComp elt gens scope pos) @(.Name x p) spos.line X.env=pure (X.env.blockKind==.function&&X.env.kindOf x==some .local&&p.line==(Expr.ListComp elt gens scope pos).pos.line&&!(scope.names.any λ (n,k)=>n==x&&(k==.local||k==.cell))):=rfl;cases L:(X.env.blockKind==.function&&X.env.kindOf x==some .local&&p.line==(Expr.ListComp elt gens scope pos).pos.line&&!(scope.names.any λ (n,k)=>n==x&&(k==.local||k==.cell))) with
 |false=>
  rw[L] at e;exact pH (Io o) O N (fN n X c _ _ o h).1 e M
 |true=>
  rw[L] at e;cases n with
  |zero=>cases h
  |succ n=>
   have ih:∀e d,cE n c e=some d->Tells X cl C e d:=λ e d h=>fN n X c e d o h;unfold cE at h;erw[Q0] at h;let⟨d,h,rfl⟩:=h;have r:PS X (.Assign [.Name x p] (.ListComp elt gens scope pos) spos) (SS X cl (bu C (.asg (.pt (.var i)) d)))->PS X (.Assign [.Name x p] (.ListComp elt gens scope pos) spos) (SS X cl (bu C (.asg (.pt (.var i)) (wz c (.ListComp elt gens scope pos) d)))):=λ q=>by
    unfold wz;split
    .exact Ic q
    .exact q
   refine r ?_;split at h
   .cases h
   .ext tg it ifs as gs;split at h
    .ext dO;let⟨rfl,U,z⟩:=dO;split at h
     .ext t d1 ds g T S R B;cases h;let⟨ok,I⟩:=o.comp z;have Jl:∀l a j A u e d,cE n {c with names:=scope.names} e=some d->Tells (X.comp scope l a j A u) cl C e d:=λ l a j A u e d h=>fN n _ _ e d (I l a j A u) h;exact Dr (Io o) O N (FE o I ok (lO B) ih Jl T S R B U) e M
     .cases h
    .cases h
theorem DG{v a:Expr}{x:Str}(h:pairOf tg v=some (x,px,y,py,a,b)):∃k j q g,tg=.Tuple [.Name x px,.Name y py] k j/\v=.Tuple [a,b] q g:=by
 unfold pairOf at h;split at h
 .ext l r A z;split at h
  .split at h
   .ext u t;cases h;let⟨k,j,rfl⟩:=Aj A;let⟨q,g,rfl⟩:=Aj z;cases jG u;cases jG t;exact⟨_,_,_,_,rfl,rfl⟩
   .cases h
  .cases h
 .cases h
theorem DH(o:Ok X cl C c)(k:∀e d,cE n c e=some d->Tells X cl C e d){v:Expr}{d:S}(h:Il n c tg v=some d):PS X (.Assign [tg] v spos) (SS X cl (bu C d)):=by
 unfold Il at h;split at h
 .cases h
 .ext a;erw[Tw,RS,Uz,Bool.not_eq_false] at a;let⟨⟨r,q⟩,l⟩:=a;split at h
  .ext t u j g;cases h;exact HX (k _ _ g).1 (vB o n _ _ j) (DE ((RE _).mp q)) (jJ ((RE _).mp r)) (by rw[gJ l];rfl)
  .cases h
theorem DI(o:Ok X cl C c)(r:X.env.scope.names=c.names)(u:X.env.scope.kind=.function){v:Expr}{d:S}(h:Im n c tg v=some d):PS X (.Assign [tg] v spos) (SS X cl (bu C d)):=by
 have q:∀e d,cE n c e=some d->Tells X cl C e d:=λ e d h=>fN n X c e d o h;unfold Im at h;split at h
 .ext x p;split at h
  .ext i R l g;cases h;let⟨t,N,M⟩:=fM o l
   by_cases L:jH v=true
   .rcases xR L g with⟨_,_,_,_,rfl⟩ | ⟨_,_,_,_,_,rfl⟩
    .exact Au o l g
    .cases n with | zero=>cases g | succ n=>unfold cE at g;simp at g
   .exact pH (Io o) t N (q _ _ g).1 (gj ((RE _).mp L)) M
  .cases h
 .split at h
  .ext R d2 l g;cases h;exact Ie (λ hx=>o.fld hx) (q _ _ l).1 (q _ _ g).1 DF
  .cases h
 .
  split at h
  .ext x px y py a b k;let⟨kt,pt,k2,wu,rfl,rfl⟩:=DG k;split at h
   .ext O;erw[Q5,RT,bne_iff_ne,RS] at O;let⟨⟨⟨⟨⟨⟨⟨c1,c2⟩,c3⟩,c4⟩,U⟩,T⟩,c7⟩,c8⟩:=O;split at h
    .ext i j R d2 l g y3 y4;cases h;let⟨t,N,M⟩:=fM o l;let⟨A,g2,g3⟩:=fM o g;have z:i≠j:=by
      rintro rfl;rw[t] at A;exact c4 (R1 A)
     have I:X.env.scope.names.lookup x=some .local:=by rw[r];exact c2
     have B:X.env.scope.names.lookup y=some .local:=by rw[r];exact c3
     have bk:X.env.blockKind=.function:=by
      unfold Env.blockKind;rw[u];split<;>rfl
     exact HY o.calm (Io o) t A z I B (tP (q _ _ y3).1 (tP (q _ _ y4).1 Fe (aP T)) (aP U)) (rB bk I B c1 c4 U T c7 c8) rfl
    .cases h
   .
     cases h
  .
   exact DH o q h
theorem FG(o:Ok X cl C c)(a:X.env.scope.names=c.names)(g:X.env.scope.kind=.function)(B:PassesOwn (model X.prog X.w) X.A X.env X.xe)(I:∀e s,¬X.xe e s):∀(n:Nat) (s:Stmt) (d:S),cS n c s=some d->PS X s (SS X cl (bu C d))
 |0,_,_,h=>by cases h
 |n+1,s,d,h=>by
  have j:∀e d,cE n c e=some d->Tells X cl C e d:=λ e d h=>fN n X c e d o h;have z:∀s d,cS n c s=some d->PS X s (SS X cl (bu C d)):=λ s d h=>FG o a g B I n s d h;unfold cS at h;split at h
  .split at h
   .exact DI o a g h
   .cases h
  .split at h
   .cases h
   .ext M;erw[Q0] at h;let⟨u,r,rfl⟩:=h;exact Df (j _ _ r).1 (gj ((RE _).mp M))
  .split at h
   .erw[Q0] at h;let⟨u,r,rfl⟩:=h;exact tU (j _ _ r).1
   .cases h;exact pI
  .split at h
   .ext u x y q l k;cases h;exact Aa (j _ _ q).2 (gv z l) (gv z k)
   .cases h
  .split at h
   .split at h
    .cases h
    .ext L;split at h
     .ext t u x q l k;cases h;exact Ab B o.calm (vq o j l) (rq o n _ _ q) (gv z k) (λ x=>pQ ((RE _).mp L) x)
     .cases h
   .cases h
  .cases h;exact vc
  .cases h;exact HZ
  .cases h;exact Dg
  .cases h;exact iZ
  .cases h
end
def Av(K:ae)(J:List Addr)(H:Hp)(Q:VK)(E:XK):F->Prop
 |.nx _=>Q .non H
 |.rt w=>∀v,RW K J H w v->Q v H
 |.rz c none _=>E (.ref (ai K c)) none H
 |.rz c (some (f,w)) _=>∀y dx,RW K J H w y->H dx=none->E (.ref (ai K c)) (some dx) (upd H dx (.xd [(f,y)]))
 |_=>False
def Aw(K:ae)(cl:Cl)(np:Nat)(f:List W->Mem->R F):Sp:=λ vs H Q E=>vs.length=np/\∃J m ws fl m',Rel K cl J m H/\aU K J H ws vs/\f ws m=.ok fl m'/\∀J' H',Ext J H J' H'->Rel K cl J' m' H'->Av K J' H' Q E fl
section
variable{X:L2.Cx}{cl:Cl}{C:D.Cx}{pos:Pos}
theorem DJ{x f:Str}{a:Expr}{np g:Pos}{k:Nat}{B:FuncData}{ps:List Str}{bm:List Value}(L:XC X.K (ai X.K c) bm @(.ref fa))(t:PySem.W.typeIn X.K (.ref fa)=@(.type "function"))
  (Fi:cg X.prog X.w X.K X.mg X.base yg k fa B ps (EY (ai X.K c) f)) (O:bP (k+1) X.A) (hb:Binds X.K B ps []) (q:ps.length=2) (h:X.ex=[]) (T:Gl X x) (S:X.mg x=@(.ref (ai X.K c))) (U:PE X a (SE X cl (aq C d)))
  (u:(x==("__debug__":Str))=false) (j:starEach [a] X.env=(false,eval a X.env)::starEach [] X.env):PS X (.Raise @(.Call (.Name x np) [a] [] g) none pos) (SS X cl (bu C (.rais c (some f) d))):=by
 refine PS.imp (zw L t Fi O hb q h T S U u j) ?_;rintro D Y H ⟨J,Z,m,fl,m',r,l,e,k⟩;erw[tG] at e;let⟨w,m1,e1,e⟩:=R.ah e;cases e;exact⟨J,Z,m,w,_,r,l,e1,fun I H1 y z M N dx hd=>k _ _ z M Y y dx (l.mono r z) N hd⟩
theorem Ax{x:Str}{a:Expr}{np g:Pos}{S:List Value}(z:XC X.K (ai X.K c) S none)(L:X.A.handled=none)(h:X.ex=[])(M:Gl X x)(I:X.mg x=@(.ref (ai X.K c)))(N:PE X a (SE X cl (aq C d)))
  (q:(x==("__debug__":Str))=false) (j:starEach [a] X.env=(false,eval a X.env)::starEach [] X.env):PS X (.Raise @(.Call (.Name x np) [a] [] g) none pos) (SS X cl (bu C (.rais c none d))):=by
 refine PS.imp (xr z L h M I N q j) ?_;rintro D Y H ⟨J,Z,m,fl,m',r,l,e,k⟩;erw[tG] at e;let⟨w,U,O,e⟩:=R.ah e;cases e;exact⟨J,Z,m,w,_,r,l,O,fun u H1 y t B T=>k _ _ t B Y (l.mono r t)⟩
theorem kH{h:CM}{f:F}{a:List Addr}{j:Hp}(e:yh C h Z none fl m2=.ok f m')(t:Rel X.K cl a m2 j)(l:RL X.K a j Z Y)
  (u:∀J' H',Ext a j J' H'->Rel X.K cl J' m' H'->zZ X Dd J' H' f) (r:∀w,iU C h Z w m2=.ok f m'->∀v,RW X.K a j w v->Q v j):Av X.K a j Q (BH X Y) fl:=by
 cases fl with
 |nx g=>exact r .non e .non .non
 |rt w=>exact λ v q=>r w e v q
 |bk g=>cases e
 |ct g=>cases e
 |rz c z g=>
  cases e;have k:=u a j Ext.refl t;rcases z with _ | ⟨f,w⟩
  .exact k Y l
  .exact λ y dx q x=>k Y y dx l q x
theorem pS{h:CM}{f:F}{a:List Addr}{j:Hp}{w0:W}{v0:V}(e:yh C h Z (some w0) fl m2=.ok f m')(t:Rel X.K cl a m2 j)(l:RL X.K a j Z Y)
  (u:∀J' H',Ext a j J' H'->Rel X.K cl J' m' H'->zZ X Dd J' H' f) (r:iU C h Z w0 m2=.ok f m'->Q v0 j):Av X.K a j (λ v H=>v=.non/\Q v0 H) (BH X Y) fl:=by
 cases fl with
 |nx g=>exact⟨rfl,r e⟩
 |rt w=>
  intro v q;cases w<;>first | (cases q;exact⟨rfl,r e⟩) | cases e
 |bk g=>cases e
 |ct g=>cases e
 |rz c z g=>
  cases e;have k:=u a j Ext.refl t;rcases z with _ | ⟨f,w⟩
  .exact k Y l
  .exact λ y dx q x=>k Y y dx l q x
theorem i8{m1:Mem}(r:Rel X.K cl J m H)(l:RL X.K J H Z Y)(e1:aS C ds Z m=.ok ws m1)(e2:C.flow i ws m1=.ok fl m2)(z:ws.length=np)
  (h:∀a g,Ext J H a g->Rel X.K cl a m2 g->Av X.K a g Q (BH X Y) fl):lM X (Aw X.K cl np (C.flow i)) [] (SA X cl (aS C ds)) Y H Q:=
 ⟨J,Z,m,ws,m1,r,l,e1,fun j A vs u k q=>⟨by rw[R6,<-q.length];exact z,j,m1,ws,fl,m2,k,by rw[R6];exact q,e2,fun a g t x=>h a g (u.trans k t) x⟩⟩
theorem lP{m1:Mem}(r:Rel X.K cl J m H)(l:RL X.K J H Z Y)(e1:aS C ds Z m=.ok ws m1)(e2:C.flow i (.ref m1.length::ws) (m1++[.ins c []])=.ok fl m2)(U:(W.ref m1.length::ws).length=np)
  (h:∀a k x,Ext J H a k->Rel X.K cl a m2 k->RW X.K a k (.ref m1.length) (.ref x)->Av X.K a k (λ v H=>v=.non/\Q (.ref x) H) (BH X Y) fl):tO X (ai X.K c) (Aw X.K cl np (C.flow i)) [] (SA X cl (aS C ds)) Y H Q:=by
 refine⟨J,Z,m,ws,m1,r,l,e1,fun g H1 O N j S x dx T z u=>?_⟩;let⟨I,t⟩:=j.zU z (.own x);have K9:upd H1 dx (.own x) x=none:=by rw[ao u.symm];exact T
 let⟨B,L⟩:=t.CZ (ho:=.ins (ai X.K c) dx []) (o:=.ins c []) K9 λ _=>⟨dx,[],aC,.nil⟩;have M:aU X.K (g++[x]) _ (.ref m1.length::ws) (.ref x::O):=.cons (.ref (j.last x)) ((S.mono j I).mono t B);refine⟨?_,g++[x],m1++[.ins c []],.ref m1.length::ws,fl,m2,L,by rw[R6];exact M,e2,fun q H4 A R=>?_⟩
 .rw[R6,<-M.length];exact U
 .exact h q H4 x (((N.trans j I).trans t B).trans L A) R (.ref (A.get (j.last x)))
theorem Ip{a:Expr}(N:PE X a (lM X (Aw X.K cl np (C.flow i)) [] (SA X cl (aS C ds))))(L:∀ws m fl m',C.flow i ws m=.ok fl m'->ws.length=np) :
  ((swapsWith a none pos.line X.env=pure false)->PS X (.Expr a pos) (SS X cl (bu C (.xc .drop none i ds))))/\PS X (.Return (some a) pos) (SS X cl (bu C (.xc .ret none i ds)))/\
  ∀{tg:Expr} {da:A},PG X tg (SG X cl (eV C da))->swapsWithSole [tg] a pos.line X.env=pure false->swappedStores [tg] a X.env=pure none->(assignEach [tg] X.env).map (·.2)=[assign tg X.env]->PS X (.Assign [tg] a pos) (SS X cl (bu C (.xc (.asg da) none i ds))):=by
 refine⟨λ M=>?_,?_,λ {tg da} U M hw h1=>?_⟩
 .refine PS.imp (oJ N M) ?_;rintro D Y H ⟨J,Z,m,f,m',r,l,e,k⟩;erw[iV] at e;let⟨ws,O,B,e⟩:=R.ah e;let⟨fl,m2,j,e⟩:=R.ah e;refine i8 r l B j (L _ _ _ _ j) fun t S g h=>kH e h (l.mono r g) (fun J' H' u x=>k _ _ (g.trans h u) x) λ w z v q=>?_;cases z;exact k _ _ g h Y (l.mono r g)
 .refine PS.imp (sF N) ?_;rintro D Y H ⟨J,Z,m,f,m',r,l,e,k⟩;erw[iV] at e;let⟨ws,O,B,e⟩:=R.ah e;let⟨fl,m2,j,e⟩:=R.ah e;refine i8 r l B j (L _ _ _ _ j) fun t S g h=>kH e h (l.mono r g) (fun J' H' u x=>k _ _ (g.trans h u) x) λ w z v q=>?_;cases z;exact k _ _ g h v q
 .refine PS.imp (oK N U M hw h1) ?_;rintro D Y H ⟨J,Z,m,f,m',r,l,e,k⟩;erw[iV] at e;let⟨ws,O,B,e⟩:=R.ah e;let⟨fl,m2,j,e⟩:=R.ah e;refine i8 r l B j (L _ _ _ _ j) fun t S g h=>kH e h (l.mono r g) (fun J' H' u x=>k _ _ (g.trans h u) x) λ w z v q=>?_;let⟨Z3,m3,e3,z⟩:=R.ah z;cases z;exact⟨t,Z,m2,w,Z3,_,h,l.mono r g,q,e3,fun J' H' I u x T=>k _ _ (g.trans h u) x I T⟩
theorem Iq{a:Expr}{lo hi:Option Expr}{dl dh:Oe}{p3:Pos}(hc:PE X a (lM X (Aw X.K cl np (C.flow i)) [] (SA X cl (aS C ds))))(jE:∀ws m fl m',C.flow i ws m=.ok fl m'->ws.length=np)
  (hl:PO X lo (E4 X cl (qJ C dl))) (hh:PO X hi (E4 X cl (qJ C dh))) {da:A} (hg:PG X tg (SG X cl (eV C da))) (hs:swapsWithSole [tg] (.Subscript a (.Slice lo hi none p2) p3) pos.line X.env=pure false)
  (hw:swappedStores [tg] (.Subscript a (.Slice lo hi none p2) p3) X.env=pure none) (h1:(assignEach [tg] X.env).map (·.2)=[assign tg X.env]) :
  PS X (.Assign [tg] (.Subscript a (.Slice lo hi none p2) p3) pos) (SS X cl (bu C (.xc (.slc da dl dh) none i ds))):=by
 refine PS.imp (oK (qu (zG (cl:=cl)) hc hl hh) hg hs hw h1) ?_;rintro D Y H ⟨J,Z,m,f,m',r,l,e,k⟩;erw[iV] at e;let⟨ws,m1,e1,e⟩:=R.ah e;let⟨fl,m2,e2,e⟩:=R.ah e;refine i8 r l e1 e2 (jE _ _ _ _ e2) fun M H2 j h=>kH e h (l.mono r j) (fun J' H' S U=>k _ _ (j.trans h S) U) λ w g v q=>?_;let⟨y,m3,e3,g⟩:=R.ah g;let⟨z,m4,e4,g⟩:=R.ah g;let⟨u,m5,e5,g⟩:=R.ah g;let⟨Z3,m6,e6,g⟩:=R.ah g;cases g;have l2:=l.mono r j;refine⟨M,Z,m2,y,m3,h,l2,e3,fun L H3 O t=>?_⟩;have l3:=l2.mono h O;refine⟨L,Z,m3,z,m4,t,l3,e4,fun I H4 N T=>?_⟩;have l4:=l3.mono t N;refine⟨I,m4,w,u,m5,T,(q.mono h O).mono t N,e5,fun B H5 v5 x5 r5 q5=>?_⟩;exact⟨B,Z,m5,u,Z3,_,r5,l4.mono T x5,q5,e6,fun J' H' x S U l'=>k _ _ ((((j.trans h O).trans t N).trans T x5).trans r5 S) U x l'⟩
theorem Ir{a:Expr}(O:PE X a (tO X (ai X.K c) (Aw X.K cl np (C.flow i)) [] (SA X cl (aS C ds))))(M:∀ws m fl m',C.flow i ws m=.ok fl m'->ws.length=np) :
  ((swapsWith a none pos.line X.env=pure false)->PS X (.Expr a pos) (SS X cl (bu C (.xc .drop (some c) i ds))))/\PS X (.Return (some a) pos) (SS X cl (bu C (.xc .ret (some c) i ds)))/\
  ∀{tg:Expr} {da:A},PG X tg (SG X cl (eV C da))->swapsWithSole [tg] a pos.line X.env=pure false->swappedStores [tg] a X.env=pure none->(assignEach [tg] X.env).map (·.2)=[assign tg X.env]->PS X (.Assign [tg] a pos) (SS X cl (bu C (.xc (.asg da) (some c) i ds))):=by
 refine⟨λ N=>?_,?_,λ {tg da} hg N hw h1=>?_⟩
 .refine PS.imp (oJ O N) ?_;rintro D Y H ⟨J,Z,m,f,m',r,l,e,k⟩;erw[uP] at e;let⟨ws,T,I,e⟩:=R.ah e;let⟨fl,m2,j,e⟩:=R.ah e;refine lP r l I j (M _ _ _ _ j) fun t U x g h q=>pS (Q:=λ _ S=>D.nx Y S) (v0:=.ref x) e h (l.mono r g) (fun J' H' u z=>k _ _ (g.trans h u) z) λ B=>?_;cases B;exact k _ _ g h Y (l.mono r g)
 .refine PS.imp (sF O) ?_;rintro D Y H ⟨J,Z,m,f,m',r,l,e,k⟩;erw[uP] at e;let⟨ws,T,I,e⟩:=R.ah e;let⟨fl,m2,j,e⟩:=R.ah e;refine lP r l I j (M _ _ _ _ j) fun t U x g h q=>pS (Q:=D.rt) e h (l.mono r g) (fun J' H' u z=>k _ _ (g.trans h u) z) λ B=>?_;cases B;exact k _ _ g h _ q
 .refine PS.imp (oK O hg N hw h1) ?_;rintro D Y H ⟨J,Z,m,f,m',r,l,e,k⟩;erw[uP] at e;let⟨ws,T,I,e⟩:=R.ah e;let⟨fl,m2,j,e⟩:=R.ah e;refine lP r l I j (M _ _ _ _ j) fun t U x g h q=>pS (Q:=λ v S=>SG X cl (eV C da) v Y S D.nx) e h (l.mono r g) (fun J' H' u z=>k _ _ (g.trans h u) z) λ B=>?_;let⟨Z3,m3,e3,B⟩:=R.ah B;cases B;exact⟨t,Z,m2,_,Z3,_,h,l.mono r g,q,e3,fun J' H' L u z l'=>k _ _ (g.trans h u) z L l'⟩
end
section
variable{X:L2.Cx}{cl:Cl}{C:D.Cx}{pos:Pos}
theorem Rel.exc{a:Addr}{g:Obj}{h:Option Addr}{f:Str}(r:Rel K cl J m H)(j:H a=none)(l:uV (ai K c) h g)(q:aU K J H ws vs)(d:XD H h f vs) :
  Ext J H (J++[a]) (upd H a (gR a g))/\Rel K cl (J++[a]) (m++[.exc c f ws]) (upd H a (gR a g)):=by
 refine r.CZ (ho:=gR a g) (o:=.exc c f ws) j λ x=>?_;refine⟨g,h,vs,aC,l,q.mono r x,d.imp id λ ⟨dx,y,u,t,k⟩=>⟨dx,y,u,t,?_⟩⟩;rw[ao (aB k j)];exact k
theorem RL.gone(l:RL K J H Z Y):RL K J H (Z.set i none) (Y.set i none):=by
 refine⟨~~~l.len,λ {j w} h=>?_⟩
 by_cases z:i=j
 .subst z;rw[Vz] at h;simp at h
 .rw[RN z] at h ⊢;exact l.at_ h
def vC(i:Option Nat)(Y:L2.St):L2.St:=match i with
 |none=>Y
 |some i=>Y.set i none
theorem rC{j:L2.Cx}{i:Option Nat}{a:Ends}{f:F}(g:j.K=X.K)(e:gone i fl m2=.ok f m')(k:Rel X.K cl J m' H->zZ X Dd J H f)(r:Rel X.K cl J m2 H)(h:∀Z Y,RL X.K J H Z Y->RL X.K J H (tF i none Z) (vC i Y))
  (z:∀Y,a.nx Y H=Dd.nx (vC i Y) H) (x:∀Y,a.bk Y H=Dd.bk (vC i Y) H) (u:∀Y,a.ct Y H=Dd.ct (vC i Y) H) (t:a.rt=Dd.rt):zZ j a J H fl:=by
 cases fl with
 |nx Z=>cases e;intro Y l;rw[g] at l;rw[z];exact k r _ (h _ _ l)
 |bk Z=>cases e;intro Y l;rw[g] at l;rw[x];exact k r _ (h _ _ l)
 |ct Z=>cases e;intro Y l;rw[g] at l;rw[u];exact k r _ (h _ _ l)
 |rt w=>cases e;intro v q;rw[g] at q;rw[t];exact k r _ q
 |rz c w Z=>cases e
theorem Iu{body u:List Stmt}{B:Stmt}{cn n:Str}{np hpos:Pos}{P:Addr}{Ji:List Value}{jP:Option Value}{b h:Ss}{cs:List Str}(hx:X.ex=[])(hst:X.stack=X.env::X.outer)(hfl:X.env.frame=some X.env.locals)
  (hN:X.N.Nodup) (hi:X.N[i]?=some n) (hk:X.env.kindOf n=some .local) (p:XC X.K P Ji jP) (hg:Gl X cn) (hm:X.mg cn=@(.ref P)) (hdb:(cn==("__debug__":Str))=false)
  (hcs:∀c,cs.contains c=true->∃bm j,XC X.K (ai X.K c) bm j/\(Value.ref (ai X.K c)::bm).contains (.ref P)=true)
  (hb:∀pn xe,PassesOwn (model X.prog X.w) X.A X.env xe->iD (X.pD pn xe) body (SS (X.pD pn xe) cl (aD C b)))
  (hs:∀a pn,iD (X.qP (.ref a) pn BG) (B::u) (SS (X.qP (.ref a) pn BG) cl (aD C h))) :
  PS X (.Try body [.ExceptHandler @(.Name cn np) (some n) (B::u) hpos] [] [] pos) (SS X cl (bu C (.tr b cs (some i) h))):=by
 refine PS.imp (Hs (tb:=λ QY=>SS QY cl (aD C b)) hx hst hfl hb (N8 (ts:=λ QY=>SS QY cl (aD C h)) hx hN hi hk p hg hm hs hdb)) ?_;rintro D Y H ⟨J,Z,m,f,m',r,l,e,k⟩;erw[K6] at e;let⟨fl,x,e1,e⟩:=R.ah e;intro pn xe hE;refine⟨J,Z,m,fl,x,r,l,e1,fun T H1 M t=>?_⟩;cases fl with
 |nx L=>cases e;exact k _ _ M t
 |bk L=>cases e;exact k _ _ M t
 |ct L=>cases e;exact k _ _ M t
 |rt w=>cases e;exact k _ _ M t
 |rz c fw L=>
  simp only at e;split at e
  .ext hc;let⟨bm,j,xc,hin⟩:=hcs c hc;let⟨z,m2,S,e3⟩:=R.ah e;rcases fw with _ | ⟨g,w⟩
   .have S:aD C h (L.set i @(.ref x.length)) (x++[O.exc c "" []])=.ok z m2:=S;intro I l1;refine hE I (.ref (ai X.K c)) none H1 ⟨ai X.K c,bm,j,rfl,xc,hin,λ a pn' oa xo ha=>?_⟩;let⟨U,r2⟩:=t.exc (f:="") (ws:=[]) (vs:=[]) ha xo .nil (.inl ⟨rfl,rfl⟩);refine⟨T++[a],L.set i @(.ref x.length),x++[O.exc c "" []],z,m2,r2,(RL.mono t U l1).set (.ref (t.last a)),S,fun β3 H3 x3 r3=>?_⟩;exact rC (X:=X) rfl e3 (λ r4=>k _ _ ((M.trans t U).trans r2 x3) r4) r3 (fun Z Y l=>l.gone) (λ _=>rfl) (λ _=>rfl) (λ _=>rfl) rfl
   .have S:aD C h (L.set i @(.ref x.length)) (x++[O.exc c g [w]])=.ok z m2:=S;intro I y dx l1 q hd;let⟨x0,r0⟩:=t.zU hd (.xd [(g,y)]);refine hE I (.ref (ai X.K c)) (some dx) (upd H1 dx (.xd [(g,y)])) ⟨ai X.K c,bm,j,rfl,xc,hin,λ a pn' oa xo ha=>?_⟩;let⟨U,r2⟩:=r0.exc (f:=g) (ws:=[w]) (vs:=[y]) ha xo %[|RW.mono t x0 q] (.inr ⟨dx,y,rfl,rfl,aC⟩);refine⟨T++[a],L.set i (some (.ref x.length)),x++[O.exc c g [w]],z,m2,r2,(RL.mono r0 U (RL.mono t x0 l1)).set (.ref (r0.last a)),S,fun β3 H3 x3 r3=>?_⟩;exact rC (X:=X) rfl e3 (λ r4=>k _ _ (((M.trans t x0).trans r0 U).trans r2 x3) r4) r3 (fun Z Y l=>l.gone) (λ _=>rfl) (λ _=>rfl) (λ _=>rfl) rfl
  .cases e
end
end D
namespace L2
open PySem PySem.Spec PyProof.Rows List
def Ot(C:Addr)(f:Str)(e:TE):TE:=fun Y H Q=>e Y H λ y c=>∀b,c b=none->∀a d,upd c b (.xd [(f,y)]) a=none->uV C (some b) d->Q (.ref a) (upd (upd c b (.xd [(f,y)])) a (gR a d))
def LI(C:Addr)(d:TE):TE:=fun Y H Q=>d Y H λ _ c=>∀a b,c a=none->uV C none b->Q (.ref a) (upd c a (gR a b))
section
variable{X:Cx}{e:Expr}{f x:Str}{pos np:Pos}{tv:TE}{C:Addr}{bm:List Value}
theorem Iv{k:Nat}{o:Addr}{v:FuncData}{ps:List Str}(c:XC X.K C bm @(.ref o))(m:PySem.W.typeIn X.K (.ref o)=@(.type "function"))
  (F:cg X.prog X.w X.K X.mg X.base yg k o v ps (EY C f)) (J:bP (k+1) X.A) (P:Binds X.K v ps []) (l:ps.length=2) (j:X.ex=[]) (N:Gl X x) (M:X.mg x=@(.ref C)) (G:PE X e tv) (n:(x==("__debug__":Str))=false)
  (t:starEach [e] X.env=(false,eval e X.env)::starEach [] X.env):PE X (.Call (.Name x np) [e] [] pos) (Ot C f tv):=by
 intro S s Y H Q I h;refine RV (cV I N M ?_ n);have R:qm tv sP Y H λ d i=>match d with | [y]=>∀b,i b=none->∀a g,upd i b (.xd [(f,y)]) a=none->uV C (some b) g->Q (.ref a) (upd (upd i b (.xd [(f,y)])) a (gR a g)) | _=>False:=h
 refine Sh (h₀:=X.base) I.ok.mod.kin c.kp (bF (bI G cY t pos S s Y H _ I R) λ V Z ⟨d,i,p,r,q⟩=>⟨p.cQ,?_⟩) t rfl;obtain⟨y,rfl⟩:∃y,d=[y]:=by
  match d,q with
  | [y],_=>exact⟨y,rfl⟩
 let⟨u,rfl,D⟩:=vals1 r;refine uR (CX:=yg) (E:=E0) c m F J P l p D λ a b s' O U B _=>?_;let⟨g,z,L,T⟩:=tracked U (p.old j) B;exact⟨.ref a,_,T,rfl,q b O a g L z⟩
theorem rD(c:XC X.K C bm none)(n:X.ex=[]){s:List (Addr×Obj)}{Y:St}{h:Hp}{l:Shared}{us:List Value}(G:us.length<=1)(j:Inv X s Y h l){Q:VK}(q:∀a k,h a=none->uV C none k->Q (.ref a) (upd h a (gR a k))){Z:Value->Shared->Prop} :
  wpAny (model X.prog X.w) X.A (call (.ref C) us) (EP X s Y Q) Z l:=by
 let⟨nm,q',N,bs,sn,B,ab,R,dd,k0,k1,k2,k3,k5,Bn,m,E,S,mN,M,W,r,H,T⟩:=c.ex;let⟨I,g,d,t,D⟩:=l;let⟨L,J⟩:=T _ j.cQ;refine wpAny_call_exc_subU (bmB:=VE) (hrest:=by rw[S3];exact Rv G 'd') W r SY J (j.cQ _ _ M) L H λ O a i=>?_;let⟨z,P,g2,g3⟩:=i.there;have V:Inv X s Y h ⟨O,g,d,t,D⟩:=j.kept (t':=t) i.keeps;have F:h a=none:=by
  cases y:h a with
  |none=>rfl
  |some o=>
   let⟨ob,u⟩:=aX.EZ (j.hok _ _ y);rw[show I.get? a=none from i.new] at u;cases u
 let⟨k,v,p,U⟩:=tracked V (j.old n) ⟨.none,⟨_,_,P,rfl,rfl,rfl,rfl⟩,.inl rfl,i.new,F,λ T e=>(by cases e),λ b o q=>⟨o,i.keeps b o q⟩⟩;exact⟨.ref a,_,U,rfl,q a k p v⟩
theorem DK(c:XC X.K C bm none)(d:X.ex=[])(o:Gl X x)(n:X.mg x=@(.ref C))(m:PE X e tv)(g:(x==("__debug__":Str))=false)
  (k:starEach [e] X.env=(false,eval e X.env)::starEach [] X.env):PE X (.Call (.Name x np) [e] [] pos) (LI C tv):=by
 intro t s Y H Q I h;refine RV (cV I o n ?_ g);have p:qm tv sP Y H λ b i=>match b with | [_]=>∀a j,i a=none->uV C none j->Q (.ref a) (upd i a (gR a j)) | _=>False:=h
 refine Sh (h₀:=X.base) I.ok.mod.kin c.kp (bF (bI m cY k pos t s Y H _ I p) λ v w ⟨b,i,l,r,q⟩=>⟨l.cQ,?_⟩) k rfl;obtain⟨y,rfl⟩:∃y,b=[y]:=by
  match b,q with
  | [y],_=>exact⟨y,rfl⟩
 let⟨u,rfl,z⟩:=vals1 r;exact rD c d (Q7 _) l q
theorem DL(c:XC X.K C bm none)(b:X.ex=[])(j:Gl X x)(i:X.mg x=@(.ref C))(d:(x==("__debug__":Str))=false) :
  PE X (.Call (.Name x np) [] [] pos) (λ _ H Q=>∀a g,H a=none->uV C none g->Q (.ref a) (upd H a (gR a g))):=by
 intro k s Y H Q I h;refine RV (cV I j i ?_ d);exact Ul I.cQ c.kp (rD (us:=[]) c b 'd' I h)
end
end L2
namespace D
open PySem PySem.Spec PyProof.Rows L2 List
variable{H:Hp}{K:ae}{bm:List Value}{c f:Str}{cl:Cl}{d:E}{e:Expr}{es:List Expr}{i n:Nat}{m:Mem}{np p pos:Pos}{pn:List (Addr×Obj)}{s:Stmt}{v:V}{vs:List V}{w:W}{ws:List W}{xe:Value->Shared->Prop}{J γ:List Addr}
section
variable{X:L2.Cx}{cl:Cl}{C:D.Cx}{pos:Pos}
theorem Rel.Ou{x:V}(r:Rel K cl J m H)(q:RW K J H (.ref n) x)(e:m[n]?=@(.exc c f ws)) :
  ∃a g b vs,x=.ref a/\H a=some (gR a g)/\uV (ai K c) b g/\aU K J H ws vs/\XD H b f vs:=by
 cases q with
 |ref h=>
  let⟨g,b,vs,k,j,t,d⟩:=r.obj e h;exact⟨_,g,b,vs,rfl,k,j,t,d⟩
theorem FH{a:Expr}{cs:List Str}(M:∀c,cs.contains c=true->∃bm j,XC X.K (ai X.K c) bm j/\XG X.K (ai X.K c)/\PySem.W.findIn X.K (.ref (ai X.K c)) f=some none)
  (N:PE X a (SE X cl (aq C d))) (O:attributeBase a f X.env (eval a X.env)=eval a X.env):PE X (.Attribute a f pos) (SE X cl (aq C (.fus (.xfl f cs) d))):=by
 refine PE.imp (Ht N O) ?_;rintro Y H Q ⟨J,Z,m,w,m',r,l,e,k⟩;erw[bT] at e;let⟨x,m1,T,e⟩:=R.ah e;erw[ck,EH] at e;split at e
 .ext n;split at e
  .ext c g w1 S;split at e
   .ext h;cases e;refine⟨J,Z,m,_,_,r,l,T,fun o H1 v1 B b G=>?_⟩;let⟨a',I,od,vs,rfl,P,q,t,dd⟩:=b.Ou G S;let⟨v,rfl,F⟩:=fm t;let⟨bm,j,A,u,L⟩:=M c h.2;rcases dd with⟨_,z⟩ | ⟨U,y,d1,d2,d3⟩
    .cases z
    .cases d2;subst d1;exact⟨a',ai X.K c,U,I,bm,j,_,v,rfl,P,q,A,u,L,d3,by rw[h.1];simp[List.lookup],k _ _ _ B b F⟩
   .cases e
  .cases e
 .cases e
theorem LJ{a:Expr}{x:Str}{k:Nat}{u:Addr}{B:FuncData}{ps:List Str}(L:XC X.K (ai X.K c) bm @(.ref u))(q:PySem.W.typeIn X.K (.ref u)=@(.type "function"))
  (F:cg X.prog X.w X.K X.mg X.base yg k u B ps (EY (ai X.K c) f)) (U:bP (k+1) X.A) (hb:Binds X.K B ps []) (o:ps.length=2) (j:X.ex=[]) (hg:Gl X x) (hm:X.mg x=@(.ref (ai X.K c))) (T:PE X a (SE X cl (aq C d))) (t:(x==("__debug__":Str))=false)
  (he:starEach [a] X.env=(false,eval a X.env)::starEach [] X.env):PE X (.Call (.Name x np) [a] [] pos) (SE X cl (aq C (.fus (.mkx c (some f)) d))):=by
 refine PE.imp (Iv L q F U hb o j hg hm T t he) ?_;rintro Y H Q ⟨J,Z,m,w,m',r,l,e,k⟩;erw[bT] at e;let⟨z,S,e1,e⟩:=R.ah e;erw[ck,uM] at e;cases e;refine⟨J,Z,m,z,S,r,l,e1,fun G H1 b N g P dx hd a oa ha I=>?_⟩;let⟨y,h⟩:=g.zU hd (.xd [(f,b)]);let⟨M,O⟩:=h.exc (f:=f) (ws:=[z]) (vs:=[b]) ha I %[|RW.mono g y P] (.inr ⟨dx,b,rfl,rfl,aC⟩);exact k _ _ _ ((N.trans g y).trans h M) O (.ref (h.last a))
theorem Iw{a:Expr}{x:Str}(q:XC X.K (ai X.K c) bm none)(g:X.ex=[])(G:Gl X x)(F:X.mg x=@(.ref (ai X.K c)))(B:PE X a (SE X cl (aq C d)))(h:(x==("__debug__":Str))=false)
  (I:starEach [a] X.env=(false,eval a X.env)::starEach [] X.env):PE X (.Call (.Name x np) [a] [] pos) (SE X cl (aq C (.fus (.mkx c none) d))):=by
 refine PE.imp (DK q g G F B h I) ?_;rintro Y H Q ⟨J,Z,m,w,S,r,l,e,k⟩;erw[bT] at e;let⟨y,A,M,e⟩:=R.ah e;erw[ck,uM] at e;cases e;refine⟨J,Z,m,y,A,r,l,M,fun j T N u b O a P L o=>?_⟩;let⟨t,z⟩:=b.exc (f:="") (ws:=[]) (vs:=[]) L o .nil (.inl ⟨rfl,rfl⟩);exact k _ _ _ (u.trans b t) z (.ref (b.last a))
theorem Iz{x:Str}(j:XC X.K (ai X.K c) bm none)(b:X.ex=[])(u:Gl X x)(t:X.mg x=@(.ref (ai X.K c)))(g:(x==("__debug__":Str))=false):PE X (.Call (.Name x np) [] [] pos) (SE X cl (aq C (.fus (.mkx c none) (.cst .non)))):=by
 refine PE.imp (DL j b u t g) ?_;rintro Y H Q ⟨J,Z,m,w,G,r,l,e,k⟩;erw[bT] at e;let⟨A,F,z,e⟩:=R.ah e;cases z;erw[ck,uM] at e;cases e;intro a B y h;let⟨o,q⟩:=r.exc (f:="") (ws:=[]) (vs:=[]) y h .nil (.inl ⟨rfl,rfl⟩);exact k _ _ _ o q (.ref (r.last a))
theorem LK{a e2:Expr}{u:Value}{tab:List (Str×Bool)}(P:Gl X "isinstance")(N:X.mg "isinstance"=none)(T:PE X e2 (tC v))(M:∀u',RelV v u'->u'=u)
  (O:∀c b,tab.lookup c=some b->∃bm j,XC X.K (ai X.K c) bm j/\XG X.K (ai X.K c)/\PySem.W.kitOne X.K (.ref (ai X.K c)) u=some b) (S:PE X a (SE X cl (aq C d)))
  (o:starEach [a,e2] X.env=(false,eval a X.env)::starEach [e2] X.env) (g:starEach [e2] X.env=(false,eval e2 X.env)::starEach [] X.env):PE X (.Call (.Name "isinstance" p) [a,e2] [] pos) (SE X cl (aq C (.fus (.isx tab) d))):=by
 refine PE.imp (gA (zy) P N 'k' (bI S (bI T cY g) o) 'k' 'k' o (by rw[g];rfl)) ?_;rintro Y H Q ⟨J,Z,m,w,m',r,l,e,k⟩;erw[bT] at e;let⟨x,m1,e1,e⟩:=R.ah e;erw[ck,uL] at e;split at e
 .split at e
  .ext c f ws em;split at e
   .ext b eb;cases e;refine⟨J,Z,m,_,_,r,l,e1,fun q H1 v1 B h F=>?_⟩;let⟨a',I,G,vs,rfl,U,y,t,dd⟩:=h.Ou F em;let⟨bm,j,A,z,L⟩:=O c b eb;exact⟨a',ai X.K c,G,I,bm,j,v,u,b,rfl,U,y,A,z,M,L,k _ _ _ B h (.bl b)⟩
   .cases e
  .cases e
 .cases e
theorem IA{a:Expr}{q}{h:Pos}{us:List Value}{tab:List (Str×Bool)}(hg:Gl X "isinstance")(hm:X.mg "isinstance"=none)(h2:PA X es (λ _ H Q=>Q vs H))(T:vs.length<=sizeLine)(U:∀g,Vals vs g->g=us)
  (hk:∀c b,tab.lookup c=some b->∃bm j,XC X.K (ai X.K c) bm j/\XG X.K (ai X.K c)/\PySem.W.kitAny X.K (.ref (ai X.K c)) us=some b) (ha:PE X a (SE X cl (aq C d)))
  (he:starEach [a,.Tuple es q h] X.env=(false,eval a X.env)::starEach [.Tuple es q h] X.env):PE X (.Call (.Name "isinstance" p) [a,.Tuple es q h] [] pos) (SE X cl (aq C (.fus (.isx tab) d))):=by
 refine PE.imp (gA (xB) hg hm 'k' (bI ha (bI (yG h2) cY) he) 'k' 'k' he rfl) ?_;rintro Y H Q ⟨J,Z,m,w,m',r,l,e,k⟩;erw[bT] at e;let⟨x,m1,e1,e⟩:=R.ah e;erw[ck,uL] at e;split at e
 .split at e
  .ext c f ws em;split at e
   .ext b eb;cases e;refine⟨J,Z,m,_,_,r,l,e1,fun z H1 v1 I o N=>⟨T,λ t u=>?_⟩⟩;let⟨a',P,O,L,rfl,y,A,_,_⟩:=o.Ou N em;let⟨bm,j,F,B,S⟩:=hk c b eb;let⟨G,M⟩:=o.pG u vs;exact⟨a',ai X.K c,O,P,bm,j,t,vs,us,b,rfl,by rw[ao (aB y u)];exact y,A,F,B,aC,U,S,k _ _ _ (I.trans o G) M (.bl b)⟩
   .cases e
  .cases e
 .cases e
end
structure Cz where
 fn:List (Str×(Nat×Nat)):=[]
 ini:List (Str×Nat):=[]
 cls:List (Str×Option Str):=[]
 sub:List (Str×List Str):=[]
def Cz.tab(z:Cz)(ts:List Str):List (Str×Bool):=z.cls.map λ y=>(y.1,ts.any λ t=>((z.sub.lookup t).getD []).contains y.1)
def Cz.has(z:Cz)(f:Str):List Str:=(z.cls.filter λ y=>y.2==some f).map (·.1)
def MN(c:Ci)(z:Cz):Expr->Option Str
 |.Name t _=>if !special t&&c.names.lookup t==some .globalImplicit&&(z.sub.lookup t).isSome then some t else none
 |_=>none
def DM(c:Ci)(z:Cz):List Expr->Option (List Str)
 | []=>some []
 |e::r=>match MN c z e with
  |some t=>(DM c z r).map (t::·)
  |none=>none
def Ay:Expr->Option (Expr×Expr)
 |.Call (.Name x _) [a,t] [] _=>if x="isinstance" then some (a,t) else none
 |_=>none
def Az:Expr->Option (List Expr)
 |.Tuple es _ _=>some es
 |_=>none
def anyOf:Expr->Option Expr
 |.Call (.Name x _) [a] [] _=>if x="any" then some a else none
 |_=>none
def uE:Nat->Ci->Cz->Expr->Option E
 |0,_,_,_=>none
 |n+1,c,z,e=>match e with
  |.Name x _=>nY c x
  |.Constant k _ _=>match k with
   |.int i=>some (.cst (.int i))
   |.bool b=>some (.cst (.bl b))
   |.none=>some (.cst .non)
   |.str x=>some (.cst (.str x))
   |_=>none
  |.Tuple es _ _=>(kq (uE n c z) es).map .tup
  |.List es _=>(kq (uE n c z) es).map .lst
  |.BoolOp op vs _=>Jk (uE n c z) op vs
  |.UnaryOp op a _=>match op with
   |.Not=>(uE n c z a).map .not
   |_=>none
  |.Attribute o f _=>if gh o then none else (uE n c z o).map (.fus (.xfl f (z.has f)))
  |.Call f args g pos=>match Ay (.Call f args g pos) with
   |some (a,t)=>if noStar a&&noStar t&&c.names.lookup ("isinstance":Str)==some .globalImplicit then match Az t with
    |some es=>match DM c z es,uE n c z a with
     |some ts,some d=>if es.length<=100 then some (.fus (.isx (z.tab ts)) d) else none
     |_,_=>none
    |none=>match MN c z t,uE n c z a with
     |some t,some d=>some (.fus (.isx (z.tab [t])) d)
     |_,_=>none
    else none
   |none=>none
  |_=>none
def nameOf:Expr->Option Str
 |.Name x _=>some x
 |_=>none
def uS:Nat->Ci->Cz->Stmt->Option S
 |0,_,_,_=>none
 |n+1,c,z,s=>match s with
  |.Assign ts v _=>match ts with
   | [t]=>match nameOf t with
    |some x=>if jH v then none else match gu c x,uE n c z v with
     |some i,some d=>some (.asg (.pt (.var i)) d)
     |_,_=>none
    |none=>none
   |_=>none
  |.Return o _=>match o with
   |some v=>(uE n c z v).map .ret
   |none=>some .retN
  |.If t a b _=>match uE n c z t,sA (uS n c z) a,sA (uS n c z) b with
   |some d,some x,some y=>some (.ife d x y)
   |_,_,_=>none
  |.Pass _=>some .pass
  |_=>none
def IB:Expr->Option (Str×List Expr)
 |.Call (.Name x _) as [] _=>some (x,as)
 |_=>none
def AA(c:Ci)(z:Cz)(g:Expr->Option E)(e:Expr):Option E:=match IB e with
 |some (x,as)=>match z.cls.lookup x with
  |some b=>if !special x&&c.names.lookup x==some .globalImplicit then match as with
   | []=>match b with
    |none=>some (.fus (.mkx x none) (.cst .non))
    |some _=>none
   | [a]=>if noStar a then (g a).map (.fus (.mkx x b)) else none
   |_=>none else none
  |none=>none
 |none=>none
def vE:Nat->Ci->Cz->Expr->Option E
 |0,_,_,_=>none
 |n+1,c,z,e=>match cE n c e with
  |some d=>some d
  |none=>match e with
   |.List es _=>(kq (vE n c z) es).map .lst
   |.BoolOp op vs _=>Jk (vE n c z) op vs
   |.UnaryOp op a _=>match op with
    |.Not=>(vE n c z a).map .not
    |_=>none
   |.BinOp a op b _=>match vE n c z a,vE n c z b with
    |some d,some d'=>some (.bin op d d')
    |_,_=>none
   |.Call f args g pos=>match anyOf (.Call f args g pos) with
    |some a=>if noStar a&&c.names.lookup ("any":Str)==some .globalImplicit then (kq (vE n c z) [a]).map (.blt .any) else none
    |none=>
     match AA c z (vE n c z) (.Call f args g pos) with
     |some d=>some d
     |none=>
     uE (n+1) c z (.Call f args g pos)
   |.Compare a ops bs _=>match ops,bs with
    | [op],[b]=>if behindInMarks op b then none else match vE n c z a,vE n c z b with
     |some d,some d'=>some (.cmp op d d')
     |_,_=>none
    |_,_=>none
   |.Attribute o f _=>if gh o then none else (vE n c z o).map (.fus (.xfl f (z.has f)))
   |_=>none
def MO(a b:Option S):Option S:=match a with
 |some d=>some d
 |none=>b
def IC(n:Nat)(c:Ci)(z:Cz)(t v:Expr):Option S:=match nameOf t with
 |some x=>if jH v then none else match gu c x,vE n c z v with
  |some i,some d=>some (.asg (.pt (.var i)) d)
  |_,_=>none
 |none=>none
def lQ:Expr->Option (Str×Expr×List Expr)
 |.Call f es ks _=>match Fx f with
  |some (x,_)=>match es,ks with
   |a::r,[]=>some (x,a,r)
   |_,_=>none
  |none=>none
 |_=>none
def BK(n:Nat)(c:Ci)(z:Cz)(e:Expr):Option (Option Str×Nat×Es):=match lQ e with
 |some (x,a,r)=>if !special x&&c.names.lookup x==some .globalImplicit&&!c.fz.contains e.pos then match z.fn.lookup x with
   |some (i,np)=>if (a::r).length=np then (kq (cE n c) (a::r)).map λ d=>(none,i,d) else none
   |none=>match z.ini.lookup x with
    |some i=>(kq (cE n c) (a::r)).map λ d=>(some x,i,d)
    |none=>none
  else none
 |none=>none
def raiseOf(e f:Option Expr):Option (Str×Expr):=match e,f with
 |some c,none=>match lQ c with
  |some (x,a,r)=>match r with
   | []=>some (x,a)
   |_=>none
  |none=>none
 |_,_=>none
def handOf:List ExceptHandler->Option (Str×Option Str×Stmt×List Stmt)
 | [.ExceptHandler (some e) y (s::r) _]=>match Fx e with
  |some (x,_)=>some (x,y,s,r)
  |none=>none
 |_=>none
def ID:S->Bool
 |.ife _ _ _=>false
 |.for_ _ _ _=>false
 |.while_ _ _=>false
 |.rais _ _ _=>false
 |.xc _ _ _ _=>false
 |.tr _ _ _ _=>false
 |_=>true
def xS(n:Nat)(c:Ci)(s:Stmt):Option S:=match cS n c s with
 |some d=>if ID d then some d else none
 |none=>none
def AB(n:Nat)(c:Ci)(z:Cz)(x:Str)(a:Expr):Option S:=match z.cls.lookup x with
 |some b=>if !special x&&c.names.lookup x==some .globalImplicit&&noStar a then (cE n c a).map (.rais x b) else none
 |none=>some .never
def LL(c:Ci)(z:Cz)(x:Str)(y:Option Str)(b h:Ss):Option S:=match z.cls.lookup x,z.sub.lookup x with
 |some _,some cs=>if !special x&&c.names.lookup x==some .globalImplicit then match y with
   |none=>none
   |some v=>if c.names.lookup v=some .local then (ko v c.N).map λ i=>.tr b cs (some i) h else none
  else none
 |_,_=>none
def FI(n:Nat)(c:Ci)(z:Cz)(t v:Expr):Option S:=match BK n c z v with
 |some (mk,i,ds)=>if !noStar t||jI t then none else (cA n c t).map λ t=>.xc (.asg t) mk i ds
 |none=>none
def AD:Expr->Option (Expr×Option Expr×Option Expr)
 |.Subscript a (.Slice lo hi none _) _=>some (a,lo,hi)
 |_=>none
def AE(n:Nat)(c:Ci)(z:Cz)(t v:Expr):Option S:=match AD v with
 |some (a,lo,hi)=>match BK n c z a with
  |some (none,i,ds)=>if !noStar t then none else match cA n c t,cO (uE n c z) lo,cO (uE n c z) hi with
   |some t,some l,some h=>some (.xc (.slc t l h) none i ds)
   |_,_,_=>none
  |_=>none
 |none=>none
def cX:Nat->Ci->Cz->Stmt->Option S
 |0,_,_,_=>none
 |n+1,c,z,s=>match s with
  |.Raise e f _=>match raiseOf e f with
   |some (x,a)=>AB n c z x a
   |none=>some .never
  |.Try body hs g fin _=>match g with
   | []=>match fin with
    | []=>match handOf hs with
     |some (x,y,s,r)=>match sA (cX n c z) body,sA (uS n c z) (s::r) with
      |some b,some h=>LL c z x y b h
      |_,_=>none
     |none=>none
    |_=>none
   |_=>none
  |.If t a b _=>match vE (n+1) c z t,sA (cX n c z) a,sA (cX n c z) b with
   |some d,some x,some y=>some (.ife d x y)
   |_,_,_=>none
  |.For j it body g _=>match g with
   | []=>if isSet it then none else match cT n c j,cI (cE n c) c j it,sA (cX n c z) body with
    |some t,some d,some x=>some (.for_ t d x)
    |_,_,_=>none
   |_=>none
  |.Expr v pos=>match BK n c z v with
   |some (mk,i,ds)=>some (.xc .drop mk i ds)
   |none=>xS (n+1) c (.Expr v pos)
  |.Return o pos=>match o with
   |some v=>match BK n c z v with
    |some (mk,i,ds)=>some (.xc .ret mk i ds)
    |none=>MO (xS (n+1) c (.Return (some v) pos)) ((vE n c z v).map .ret)
   |none=>some .retN
  |.Assign ts v pos=>match ts with
   | [t]=>match BK n c z v with
    |some _=>FI n c z t v
    |none=>match AE n c z t v with
     |some d=>some d
     |none=>
     MO (xS (n+1) c (.Assign [t] v pos)) (IC n c z t v)
   |_=>none
  |s=>xS (n+1) c s
def qB(K:ae)(t:Str):Value:=if t="ValueError" then .type "ValueError" else .ref (ai K t)
def IE(K:ae)(t:Str):V:=if t="ValueError" then .ty "ValueError" else .ref (ai K t)
theorem AF{t:Str}{u:Value}(h:RelV (IE K t) u):u=qB K t:=by
 unfold IE at h;unfold qB;split
 .ext e;rw[Rf e] at h;exact h
 .ext e;rw[Ri e] at h;exact h
theorem vD{t:Str}:RelV (IE K t) (qB K t):=by
 unfold IE qB;split<;>exact rfl
structure ZU(X:L2.Cx)(z:Cz):Prop where
 sub:∀{t:Str} {cs:List Str},z.sub.lookup t=some cs->(X.mg t=some (qB X.K t)\/X.mg t=none/\bootBuiltins t=@(qB X.K t))/\∀{c fo},z.cls.lookup c=some fo->PySem.W.kitOne X.K (.ref (ai X.K c)) (qB X.K t)=@(cs.contains c)
 cls:∀{c:Str} {fo:Option Str},(c,fo)∈z.cls->∃bm j,XC X.K (ai X.K c) bm j/\XG X.K (ai X.K c)/\∀f,fo=some f->PySem.W.findIn X.K (.ref (ai X.K c)) f=some none
structure AG(X:L2.Cx)(cl:Cl)(C:D.Cx)(z:Cz):Prop where
 fn:∀{x:Str} {i np:Nat},z.fn.lookup x=some (i,np)->∃(k:Nat) (fa:Addr) (fd:FuncData) (ps:List Str),ps.length=np/\bP k X.A/\X.mg x=some (.ref fa)/\PySem.W.keepIn X.K (.ref fa)=true/\Binds X.K fd ps []/\cg X.prog X.w X.K X.mg X.base (lK X.prog X.w) k fa fd ps (Aw X.K cl ps.length (C.flow i))/\∀ws m fl m',C.flow i ws m=.ok fl m'->ws.length=ps.length
 ini:∀{x:Str} {i:Nat},z.ini.lookup x=some i->∃(k:Nat) (fa:Addr) (fd:FuncData) (ps:List Str),bP (k+1) X.A/\Mk X.K (ai X.K x) fa/\X.mg x=some (.ref (ai X.K x))/\Binds X.K fd ps []/\cg X.prog X.w X.K X.mg X.base (lK X.prog X.w) k fa fd ps (Aw X.K cl ps.length (C.flow i))/\∀ws m fl m',C.flow i ws m=.ok fl m'->ws.length=ps.length
 cls:∀{x:Str} {fo:Option Str},z.cls.lookup x=some fo->X.mg x=some (.ref (ai X.K x))/\(fo=none->∃bm,XC X.K (ai X.K x) bm none)/\∀f,fo=some f->∃(bm:List Value) (k:Nat) (fa:Addr) (fd:FuncData) (ps:List Str),XC X.K (ai X.K x) bm @(.ref fa)/\PySem.W.typeIn X.K (.ref fa)=some (.type "function")/\cg X.prog X.w X.K X.mg X.base yg k fa fd ps (EY (ai X.K x) f)/\bP (k+1) X.A/\Binds X.K fd ps []/\ps.length=2
 hnd:∀{x:Str} {fo:Option Str} {cs:List Str},z.cls.lookup x=some fo->z.sub.lookup x=some cs->∀c,cs.contains c=true->∃bm j,XC X.K (ai X.K c) bm j/\(Value.ref (ai X.K c)::bm).contains (.ref (ai X.K x))=true
 u:ZU X z
theorem ZU.of{X a:L2.Cx}{z:Cz}(o:ZU X z)(b:a.K=X.K)(g:a.mg=X.mg):ZU a z:=⟨by rw[b,g];exact o.sub,by rw[b];exact o.cls⟩
structure FJ(X:L2.Cx)(cl:Cl)(c:Ci):Prop where
 N:X.N=c.N
 nd:c.N.Nodup
 vis:∀{x:Str} {k:NameKind},c.names.lookup x=some k->(k=.local\/k=.cell\/k=.free)->Eo X.env.scope x
 loc:∀{x:Str} {k:NameKind},c.names.lookup x=some k->(k=.local\/k=.cell)->L2.Loc X.env.scope x/\(X.fn x=true\/X.env.scope.names.lookup x=some .local)
 glb:∀{x:Str},c.names.lookup x=some .globalImplicit->Gl X x
 blt:∀x∈jF,X.mg x=none
 gl:∀{x:Str} {w:W},c.gl.lookup x=some w->∃u v,X.mg x=some u/\RelV v u/\∀J H,RW X.K J H w v
section
variable{X:L2.Cx}{cl:Cl}{C:D.Cx}{c:Ci}{z:Cz}
theorem LM(o:FJ X cl c){x:Str}(h:nY c x=some d):PE X (.Name x pos) (SE X cl (aq C d))/\∀Z m,bq C d Z m=(aq C d Z m).bind λ w m=>D.truthy m w:=by
 have j:∀{i},ko x c.N=some i->X.N[i]?=some x:=λ h=>by rw[o.N];exact i6 h
 unfold nY at h;split at h
 .cases h
 .ext q;let⟨g,k,r⟩:=aZ (~~~q);split at h
  .ext a;erw[Q0] at h;let⟨i,b,rfl⟩:=h;exact⟨nQ (j b) (o.vis a (.inl rfl)) g k,λ _ _=>rfl⟩
  .ext a;erw[Q0] at h;let⟨i,b,rfl⟩:=h;exact⟨nQ (j b) (o.vis a (.inr (.inl rfl))) g k,λ _ _=>rfl⟩
  .ext a;erw[Q0] at h;let⟨i,b,rfl⟩:=h;exact⟨nQ (j b) (o.vis a (.inr (.inr rfl))) g k,λ _ _=>rfl⟩
  .ext a;erw[Q0] at h;let⟨w,l,rfl⟩:=h;exact⟨E8 (o.glb a) (o.gl l) g,λ _ _=>rfl⟩
  .cases h
theorem AH(o:FJ X cl c){x:Str}(h:gu c x=some i):X.N[i]?=some x/\L2.Loc X.env.scope x/\(X.fn x=true\/X.env.scope.names.lookup x=some .local):=by
 have b:∀{i},ko x c.N=some i->X.N[i]?=some x:=λ h=>by rw[o.N];exact i6 h
 unfold gu at h;split at h
 .ext a;exact⟨b h,o.loc a (.inl rfl)⟩
 .ext a;exact⟨b h,o.loc a (.inr rfl)⟩
 .cases h
theorem AI{a t:Expr}(h:Ay e=some (a,t)):∃p pos,e=.Call (.Name "isinstance" p) [a,t] [] pos:=by
 unfold Ay at h;split at h
 .split at h
  .ext b;cases h;subst b;exact⟨_,_,rfl⟩
  .cases h
 .cases h
theorem AJ(h:Az e=some es):∃x p,e=.Tuple es x p:=by
 unfold Az at h;split at h
 .cases h;exact⟨_,_,rfl⟩
 .cases h
theorem n8{x:Str}(h:nameOf e=some x):∃p,e=.Name x p:=by
 unfold nameOf at h;split at h
 .cases h;exact⟨_,rfl⟩
 .cases h
theorem AL(o:FJ X cl c)(u:ZU X z){t:Str}(h:MN c z e=some t):PE X e (tC (IE X.K t))/\noStar e=true/\∃cs,z.sub.lookup t=some cs:=by
 unfold MN at h;split at h
 .split at h
  .ext a;cases h;erw[Q5,RS,RT] at a;let⟨b,l,k⟩:=aZ a.1.1;let⟨cs,e⟩:=S6.mp a.2;refine⟨?_,rfl,cs,e⟩;rcases (u.sub e).1 with q | ⟨j,g⟩
   .exact iJ (o.glb a.1.2) q vD b
   .exact uv (o.glb a.1.2) j g vD k b
  .cases h
 .cases h
theorem vF(o:FJ X cl c)(u:ZU X z):∀{es:List Expr} {ts:List Str},DM c z es=some ts->PA X es (λ _ H Q=>Q (ts.map (IE X.K)) H)/\es.length=ts.length/\∀t∈ts,∃cs,z.sub.lookup t=some cs
 | [],_,h=>by cases h;exact⟨cY,rfl,λ t r=>by cases r⟩
 |e::es,ts,h=>by
  unfold DM at h;split at h
  .ext t y;erw[Q0] at h;let⟨ts,x,rfl⟩:=h;let⟨j,g,b⟩:=AL o u y;let⟨q,l,k⟩:=vF o u x;refine⟨bI j q (aP g),by rw[RD,RD,l],λ s a=>?_⟩;rcases Rk.mp a with rfl | a
   .exact b
   .exact k s a
  .cases h
theorem IF{ts:List Str}{x:Str}{b:Bool}(h:(z.tab ts).lookup x=some b):(∃g,z.cls.lookup x=some g)/\b=ts.any λ t=>((z.sub.lookup t).getD []).contains x:=by
 unfold Cz.tab at h;generalize z.cls=l at h ⊢
 induction l with
 |nil=>cases h
 |cons y r a=>
  rw[RU,Rl] at h;rw[Rl];cases e:x==y.1 with
  |true=>
   rw[e] at h;cases h;cases eq_of_beq e;exact⟨⟨_,rfl⟩,rfl⟩
  |false=>
   rw[e] at h;exact a h
theorem n9(u:ZU X z){x:Str}{j:Option Str}(a:z.cls.lookup x=some j):∀{ts:List Str},(∀t∈ts,∃cs,z.sub.lookup t=some cs)->PySem.W.kitAny X.K (.ref (ai X.K x)) (ts.map (qB X.K))=@(ts.any λ t=>((z.sub.lookup t).getD []).contains x)
 | [],_=>rfl
 |t::ts,h=>by
  let⟨cs,e⟩:=h t (.head _);have b:=n9 u a (ts:=ts) λ s g=>h s (.tail _ g);rw[RU,TZ,PySem.W.kitAny,(u.sub e).2 a,e,UQ];cases cs.contains x with
  |true=>rfl
  |false=>rw[Bool.false_or];exact b
theorem vG:∀{ts:List Str} {us:List Value},Vals (ts.map (IE K)) us->us=ts.map (qB K)
 | [],_,h=>by cases h;rfl
 |t::ts,_,h=>by
  cases h with
  |cons a b=>rw[RU,AF a,vG b]
theorem AM{x:Str}(h:(z.has f).contains x=true):∃y∈z.cls,y=(x,some f):=by
 unfold Cz.has at h;let⟨y,j,g⟩:=Sg.mp (Tg.mp h);let⟨b,a⟩:=S1.mp j;exact⟨y,b,by cases y;cases g;cases eq_of_beq a;rfl⟩
end
section
variable{X:L2.Cx}{cl:Cl}{C:D.Cx}{c:Ci}{z:Cz}
theorem vH(o:FJ X cl c)(u:ZU X z):∀(n:Nat) (e:Expr) (d:E),uE n c z e=some d->Tells X cl C e d
 |0,_,_,h=>by cases h
 |n+1,e,d,h=>by
  have l:∀e d,uE n c z e=some d->Tells X cl C e d:=λ e d h=>vH o u n e d h;unfold uE at h;split at h
  .let⟨k,g⟩:=LM (C:=C) o h;exact au k (λ _=>rfl) g
  .split at h
   .cases h;exact au E5 (λ _=>rfl) λ _ _=>rfl
   .cases h;exact au Lf (λ _=>rfl) λ _ _=>rfl
   .cases h;exact au E6 (λ _=>rfl) λ _ _=>rfl
   .cases h;exact au E7 (λ _=>rfl) λ _ _=>rfl
   .cases h
  .erw[Q0] at h;let⟨d',r,rfl⟩:=h;exact au (Ff (dY l r)) (λ _=>rfl) λ _ _=>rfl
  .erw[Q0] at h;let⟨d',r,rfl⟩:=h;exact au (zF (dY l r)) (λ _=>rfl) λ _ _=>rfl
  .let⟨k,g⟩:=vo l h;exact⟨k,g.pt⟩
  .split at h
   .erw[Q0] at h;let⟨d',r,rfl⟩:=h;exact⟨zD (l _ _ r).1,zE (l _ _ r).2⟩
   .cases h
  .split at h
   .cases h
   .ext O;erw[Q0] at h;let⟨d',r,rfl⟩:=h;refine au (FH (λ x B=>?_) (l _ _ r).1 (i7 ((RE _).mp O))) (λ _=>rfl) λ _ _=>rfl;let⟨y,Z,rfl⟩:=AM B;let⟨bm,j,k,g,A⟩:=u.cls Z;exact⟨bm,j,k,g,A _ rfl⟩
  .split at h
   .ext a t hq;let⟨p,pos,e⟩:=AI hq;cases e;split at h
    .ext T;erw[Q5,RT] at T;let⟨⟨U,c2⟩,c3⟩:=T;have S:=o.glb c3;have Q:=o.blt "isinstance" 'k';have R:∀x b ts,(z.tab ts).lookup x=some b->(∀t∈ts,∃cs,z.sub.lookup t=some cs)->∃bm j,XC X.K (ai X.K x) bm j/\XG X.K (ai X.K x)/\PySem.W.kitAny X.K (.ref (ai X.K x)) (ts.map (qB X.K))=some b:=λ x b ts N O=>by
      let⟨⟨fo,q⟩,rfl⟩:=IF N;let⟨bm,j,k,g,_⟩:=u.cls (RY q);exact⟨bm,j,k,g,n9 u q O⟩
     split at h
     .ext es he;let⟨kx,tp,rfl⟩:=AJ he;split at h
      .ext ts d1 G F;split at h
       rotate_left
       .cases h
       ext hl;cases h;let⟨L,P,I⟩:=vF o u G;exact au (IA S Q L (by rw[Rn,<-P];exact Rv hl 'k') (λ Y M=>vG M) (λ x b B=>R x b ts B I) (l _ _ F).1 (aP U)) (λ _=>rfl) λ _ _=>rfl
      .cases h
     .split at h
      .ext t1 d1 G F;cases h;let⟨L,P,I⟩:=AL o u G;refine au (LK S Q L (λ u' M=>AF M) (λ x b B=>?_) (l _ _ F).1 (aP U) (aP c2)) (λ _=>rfl) λ _ _=>rfl;let⟨bm,j,k,g,A⟩:=R x b [t1] B (λ t N=>by cases TJ.mp N;exact I);refine⟨bm,j,k,g,?_⟩;rw[RU,PySem.W.kitAny] at A;split at A
       .ext e;rw[e];exact A
       .ext e;rw[e];exact A
       .cases A
      .cases h
    .cases h
   .cases h
  .cases h
theorem FL(o:FJ X cl c)(u:ZU X z):∀(n:Nat) (s:Stmt) (d:S),uS n c z s=some d->PS X s (SS X cl (bu C d))
 |0,_,_,h=>by cases h
 |n+1,s,d,h=>by
  have g:∀e d,uE n c z e=some d->Tells X cl C e d:=vH o u n;have l:∀s d,uS n c z s=some d->PS X s (SS X cl (bu C d)):=FL o u n;unfold uS at h;split at h
  .split at h
   .split at h
    .ext x r;let⟨p,rfl⟩:=n8 r;split at h
     .cases h
     .ext t;split at h
      .ext i k b a;cases h;let⟨j,B,A⟩:=AH o b;exact pH (by rw[o.N];exact o.nd) j B (g _ _ a).1 (gj ((RE _).mp t)) A
      .cases h
    .cases h
   .cases h
  .split at h
   .erw[Q0] at h;let⟨k,j,rfl⟩:=h;exact tU (g _ _ j).1
   .cases h;exact pI
  .split at h
   .ext k x y b a q;cases h;exact Aa (g _ _ b).2 (gv l a) (gv l q)
   .cases h
  .cases h;exact vc
  .cases h
end
section
variable{X:L2.Cx}{cl:Cl}
theorem PA.dD{t:TA}(h:PA X.dD es t):PA X es t:=λ pos b s Y H Q I a=>
 Rm (h pos b s Y H Q (I.g9 _) a) (λ _ _ ⟨vs,j,g,r,q⟩=>⟨vs,j,g.cW,r,q⟩) λ _ _ z=>False.elim z
theorem PG.dD{t:TG}(h:PG X.dD e t):PG X e t:=λ g s Y H v u Q I r b=>
 Rm (h g s Y H v u Q (I.g9 _) r b) (λ _ _ ⟨a,k,j,q⟩=>⟨a,k,j.cW,q⟩) λ _ _ z=>False.elim z
theorem PS.dD{st:Stmt}{t:TS}(h:PS X.dD st t):PS X st t:=λ b s Y H D I a=>
 Rm (h b s Y H D (I.g9 _) a) (λ _ _ q=>q.cW) λ _ _ z=>False.elim z
theorem PI.dD{a:Expr}{t:TI}(h:PI X.dD a e t):PI X a e t:=λ y s Y H R I j=>
 Rm (h y s Y H R (I.g9 _) j) (λ _ _ q=>Rm q (λ _ _ ⟨g,k,b,A,C,x,B,u,r,o,l⟩=>⟨g,k,b,A,C,x,B.cW,u,r,o,l⟩) λ _ _ z=>False.elim z) λ _ _ z=>False.elim z
theorem AN{a:Loc->Mem->R W}(h:PE X.dD e (SE X.dD cl a)):PE X e (SE X cl a):=PE.imp h.dD λ _ _ _ ⟨J,Z,m,w,b,r,l,e,k⟩=>⟨J,Z,m,w,b,r,l,e,k⟩
theorem LN{a:Loc->Mem->R Bool}(h:PT X.dD e (ST X.dD cl a)):PT X e (ST X cl a):=PT.imp h.dD λ _ _ _ ⟨J,Z,m,w,b,r,l,e,k⟩=>⟨J,Z,m,w,b,r,l,e,k⟩
theorem AO{e:List Expr}{a:Loc->Mem->R (List W)}(h:PA X.dD e (SA X.dD cl a)):PA X e (SA X cl a):=PA.imp (PA.dD h) λ _ _ _ ⟨J,Z,m,w,b,r,l,e,k⟩=>⟨J,Z,m,w,b,r,l,e,k⟩
theorem AQ{b:W->Loc->Mem->R Loc}(h:PG X.dD e (SG X.dD cl b)):PG X e (SG X cl b):=PG.imp (PG.dD h) λ _ _ _ _ ⟨J,Z,m,w,a,g,r,l,q,e,k⟩=>⟨J,Z,m,w,a,g,r,l,q,e,k⟩
theorem LO{a:Expr}{b:Loc->Mem->R Src}(h:PI X.dD a e (SI X.dD cl b)):PI X a e (SI X cl b):=PI.imp (PI.dD h) λ _ _ _ ⟨J,Z,m,w,g,r,l,e,k⟩=>⟨J,Z,m,w,g,r,l,e,k⟩
theorem DN{C:D.Cx}{d:S}(h:ID d=true){Z g:Loc}{j:Mem}{x:Str}{k:Option (Str×W)}(e:bu C d Z m=.ok (.rz x k g) j):False:=by
 cases d with
 |asg t d=>erw[gr] at e;let⟨_,_,_,e⟩:=R.ah e;let⟨_,_,_,e⟩:=R.ah e;cases e
 |aug i op d=>
  erw[zm] at e;split at e
  .let⟨_,_,_,e⟩:=R.ah e;let⟨_,_,_,e⟩:=R.ah e;cases e
  .cases e
 |expr d=>erw[lJ] at e;let⟨_,_,_,e⟩:=R.ah e;cases e
 |ret d=>erw[qK] at e;let⟨_,_,_,e⟩:=R.ah e;cases e
 |retN=>erw[o9] at e;cases e
 |pass=>erw[pq] at e;cases e
 |brk=>erw[uO] at e;cases e
 |cont=>erw[pA] at e;cases e
 |never=>erw[kG] at e;cases e
 |fas a f b=>erw[qN] at e;let⟨_,_,_,e⟩:=R.ah e;let⟨_,_,_,e⟩:=R.ah e;let⟨_,_,_,e⟩:=R.ah e;cases e
 |_=>cases h
theorem LP{C:D.Cx}{d:S}(o:ID d=true)(h:PS X.dD s (SS X.dD cl (bu C d))):PS X s (SS X cl (bu C d)):=PS.imp (PS.dD h) λ D Y H ⟨J,Z,m,f,j,r,l,e,k⟩=>by
 refine⟨J,Z,m,f,j,r,l,e,fun t u b g=>?_⟩;have q:=k t u b g;cases f with
 |rz x y a=>exact(DN o e).elim
 |_=>exact q
end
section
variable{X:L2.Cx}{cl:Cl}{C:D.Cx}{c:Ci}{z:Cz}
theorem Ok.pD(o:Ok X.dD cl C c):Ok (X.pD pn xe).dD cl C c:=
 ⟨o.N,o.nd,λ a b=>o.vis a b,λ a b=>o.loc a b,λ a=>o.cel a,λ a=>o.glb a,o.calm,⟨o.units.un,o.units.P,o.units.w,o.units.gd⟩,o.hand,o.blt,λ a=>o.fn a,λ a=>o.gl a,o.cs,λ a=>o.fld a,λ a=>o.mth a,λ a=>o.ini a,λ a=>o.dic a,λ a=>o.isc a⟩
theorem AG.pD(o:AG X cl C z):AG (X.pD pn xe) cl C z:=⟨o.fn,o.ini,o.cls,o.hnd,o.u.of rfl rfl⟩
theorem Ok.qP(o:Ok X.dD cl C c){e:Value}:FJ (X.qP e pn xe) cl c:=
 ⟨o.N,o.nd,λ a b=>o.vis a b,λ a b=>o.loc a b,λ a=>o.glb a,o.blt,λ a=>o.gl a⟩
theorem gW{a:Expr}{x:Str}{r:List Expr}(h:lQ e=some (x,a,r)):∃p pos,e=.Call (.Name x p) (a::r) [] pos:=by
 unfold lQ at h;split at h
 .split at h
  .ext b;split at h
   .cases h;cases jG b;exact⟨_,_,rfl⟩
   .cases h
  .cases h
 .cases h
theorem t6{e f:Option Expr}{x:Str}{a:Expr}(h:raiseOf e f=some (x,a)):∃np b,e=some (.Call (.Name x np) [a] [] b)/\f=none:=by
 unfold raiseOf at h;split at h
 .split at h
  .ext g;split at h
   .cases h;let⟨p,q,rfl⟩:=gW g;exact⟨_,_,rfl,rfl⟩
   .cases h
  .cases h
 .cases h
theorem xT{a:List ExceptHandler}{x:Str}{y:Option Str}{r:List Stmt}(h:handOf a=some (x,y,s,r)):∃np b,a=[.ExceptHandler @(.Name x np) y (s::r) b]:=by
 unfold handOf at h;split at h
 .split at h
  .ext g;cases h;cases jG g;exact⟨_,_,rfl⟩
  .cases h
 .cases h
theorem xU{env:Env}{t f:Expr}{ks:List Keyword}{l:Nat}:swapsWithSole [t] (.Call f es ks p) l env=pure false:=by
 show swapsWith (.Call f es ks p) (some t) l env=pure false;exact gj rfl
theorem AR{a:Expr}(h:anyOf e=some a):∃p pos,e=.Call (.Name "any" p) [a] [] pos:=by
 unfold anyOf at h;split at h
 .split at h
  .ext b;cases h;subst b;exact⟨_,_,rfl⟩
  .cases h
 .cases h
theorem Ok.u(o:Ok X.dD cl C c):FJ X cl c:=⟨o.N,o.nd,λ a b=>o.vis a b,λ a b=>o.loc a b,λ a=>o.glb a,o.blt,λ a=>o.gl a⟩
theorem DO{x:Str}{a:List Expr}(h:IB e=some (x,a)):∃p pos,e=.Call (.Name x p) a [] pos:=by
 unfold IB at h;split at h
 .cases h;exact⟨_,_,rfl⟩
 .cases h
theorem AS(o:Ok X.dD cl C c)(L:AG X cl C z)(q:X.ex=[]){g:Expr->Option E}(F:∀e d,g e=some d->Tells X cl C e d){f:Expr}{args:List Expr}{b:List Keyword}(h:AA c z g (.Call f args b pos)=some d):Tells X cl C (.Call f args b pos) d:=by
 unfold AA at h;split at h
 .ext x as N;let⟨p,pos,e⟩:=DO N;cases e;split at h
  .ext Q O;split at h
   .ext y;erw[Q5,RS,RT] at y;let⟨A,U,T⟩:=aZ y.1;have t:Gl X x:=o.glb y.2;let⟨l,B,I⟩:=L.cls O;split at h
    .split at h
     .cases h;let⟨bm,a⟩:=B rfl;exact au (Iz a q t l A) (λ _=>rfl) λ _ _=>rfl
     .cases h
    .split at h
     .ext j;erw[Q0] at h;let⟨d1,G,rfl⟩:=h;cases Q with
      |none=>
       let⟨bm,a⟩:=B rfl;exact au (Iw a q t l (F _ _ G).1 A (aP j)) (λ _=>rfl) λ _ _=>rfl
      |some f=>
       let⟨bm,k,Z,Y,S,a,u,R,M,P,r⟩:=I f rfl;exact au (LJ a u R M P r q t l (F _ _ G).1 A (aP j)) (λ _=>rfl) λ _ _=>rfl
     .cases h
    .cases h
   .cases h
  .cases h
 .cases h
theorem vI(o:Ok X.dD cl C c)(t:AG X cl C z)(A:X.ex=[]):∀(n:Nat) (e:Expr) (d:E),vE n c z e=some d->Tells X cl C e d
 |0,_,_,h=>by cases h
 |n+1,e,d,h=>by
  have g:∀e d,vE n c z e=some d->Tells X cl C e d:=λ e d h=>vI o t A n e d h;unfold vE at h;split at h
  .ext I b;cases h;let⟨l,k⟩:=fN n X.dD c _ _ o b;exact⟨AN l,LN k⟩
  .split at h
   .erw[Q0] at h;let⟨d',b,rfl⟩:=h;exact au (zF (dY g b)) (λ _=>rfl) λ _ _=>rfl
   .let⟨l,k⟩:=vo g h;exact⟨l,k.pt⟩
   .split at h
    .erw[Q0] at h;let⟨d',b,rfl⟩:=h;exact⟨zD (g _ _ b).1,zE (g _ _ b).2⟩
    .cases h
   .split at h
    .ext I S b B;cases h;exact au (E9 (g _ _ b).1 (g _ _ B).1) (λ _=>rfl) λ _ _=>rfl
    .cases h
   .split at h
    .ext a R;let⟨p,pos,e⟩:=AR R;cases e;split at h
     .ext r;erw[Q5,RT] at r;erw[Q0] at h;let⟨d',b,rfl⟩:=h;obtain⟨q,⟨N,G,F⟩ | ⟨N,G,F⟩⟩:=n6 (show pN.lookup ("any":Str)=some .any by decide +kernel)
      .exact au (zS ⟨o.units.un,o.units.P,o.units.w,o.units.gd⟩ o.calm o.hand G (o.glb r.2) (o.blt _ q) F (dY g b) 'k' 'k' (aP r.1) rfl) (λ _=>rfl) λ _ _=>rfl
      .exact au (zT ⟨o.units.un,o.units.P,o.units.w,o.units.gd⟩ o.calm o.hand G (o.glb r.2) (o.blt _ q) F (dY g b) 'k' 'k' (aP r.1) rfl) (λ _=>rfl) λ _ _=>rfl
     .cases h
    .split at h
     .ext I b;cases h;exact AS o t A g b
     .
      exact vH o.u t.u _ _ _ h
   .split at h
    .split at h
     .cases h
     .ext q;split at h
      .ext I S b B;cases h;have L:UN X cl:=⟨o.units.un,o.units.P,o.units.w,o.units.gd⟩;exact⟨Fb L (g _ _ b).1 (g _ _ B).1 (~~~q),Fc L (g _ _ b).1 (g _ _ B).1 (~~~q)⟩
      .cases h
    .cases h
   .split at h
    .cases h
    .ext Q;erw[Q0] at h;let⟨d',b,rfl⟩:=h;refine au (FH (λ x A=>?_) (g _ _ b).1 (i7 ((RE _).mp Q))) (λ _=>rfl) λ _ _=>rfl;let⟨y,O,rfl⟩:=AM A;let⟨bm,j,l,k,M⟩:=t.u.cls O;exact⟨bm,j,l,k,M _ rfl⟩
   .cases h
theorem AU{a b:Option S}{d:S}(h:MO a b=some d):a=some d\/b=some d:=by
 unfold MO at h;split at h
 .exact .inl h
 .exact .inr h
theorem DP(o:Ok X.dD cl C c)(g:AG X cl C z)(j:X.ex=[]){t v:Expr}{d:S}(h:IC n c z t v=some d):PS X (.Assign [t] v pos) (SS X cl (bu C d)):=by
 unfold IC at h;split at h
 .ext x k;let⟨p,rfl⟩:=n8 k;split at h
  .cases h
  .ext l;split at h
   .ext i A b a;cases h;let⟨y,r,q⟩:=AH o.u b;exact pH (by rw[o.u.N];exact o.nd) y r (vI o g j n _ _ a).1 (gj ((RE _).mp l)) q
   .cases h
 .cases h
theorem AV(o:Ok X.dD cl C c)(O:AG X cl C z)(Q:X.ex=[]){l:Option Str}{t:Es}(h:BK n c z e=some (l,i,t)) :
  PS X (.Expr e pos) (SS X cl (bu C (.xc .drop l i t)))/\PS X (.Return (some e) pos) (SS X cl (bu C (.xc .ret l i t)))/\
  ∀{g:Expr} {T:A},PG X g (SG X cl (eV C T))->swapsWithSole [g] e pos.line X.env=pure false->swappedStores [g] e X.env=pure none->(assignEach [g] X.env).map (·.2)=[assign g X.env]->PS X (.Assign [g] e pos) (SS X cl (bu C (.xc (.asg T) l i t))):=by
 have P:∀e d,cE n c e=some d->Tells X.dD cl C e d:=λ e d h=>fN n X.dD c e d o h;unfold BK at h;split at h
 .ext x a r Z;let⟨p,b,rfl⟩:=gW Z;split at h
  .ext B;erw[Q5,RS,RT] at B;let⟨S,h2,h3⟩:=aZ B.1.1;have R:Gl X x:=o.glb B.1.2;split at h
   .ext Y np hf;split at h
    .ext jE;erw[Q0] at h;let⟨d,j,e⟩:=h;cases e;let⟨k,fa,fd,U,e1,N,M,L,I,G,F⟩:=O.fn hf;let⟨y,d1,d2,_,u,_⟩:=gi j;have q:=Ip (pos:=pos) (qT (pos:=b) (p:=p) Q G N R M L I .nil (AO (dY P j)) S (aP y) (dm u)) F;exact⟨q.1 rfl,q.2.1,q.2.2⟩
    .cases h
   .split at h
    .ext Y hi;erw[Q0] at h;let⟨d,j,e⟩:=h;cases e;let⟨k,fa,fd,U,N,M,L,I,G,F⟩:=O.ini hi;let⟨y,d1,d2,_,u,_⟩:=gi j;have q:=Ir (pos:=pos) (zA (pos:=b) (p:=p) Q M G N R L I .nil (AO (dY P j)) S (aP y) (dm u)) F;exact⟨q.1 rfl,q.2.1,q.2.2⟩
    .cases h
  .cases h
 .cases h
theorem AW{a:Expr}{lo hi:Option Expr}(h:AD e=some (a,lo,hi)):∃p q,e=.Subscript a (.Slice lo hi none p) q:=by
 unfold AD at h;split at h
 .cases h;exact⟨_,_,rfl⟩
 .cases h
theorem LQ(o:Ok X.dD cl C c)(u:AG X cl C z)(B:X.ex=[]){l:Es}(h:BK n c z e=some (none,i,l)) :
  ∃np,PE X e (lM X (Aw X.K cl np (C.flow i)) [] (SA X cl (aS C l)))/\∀ws m fl y,C.flow i ws m=.ok fl y->ws.length=np:=by
 have A:∀e d,cE n c e=some d->Tells X.dD cl C e d:=λ e d h=>fN n X.dD c e d o h;unfold BK at h;split at h
 .ext x a r F;let⟨p,b,rfl⟩:=gW F;split at h
  .ext j;erw[Q5,RS,RT] at j;let⟨L,Z,Y⟩:=aZ j.1.1;have G:Gl X x:=o.glb j.1.2;split at h
   .ext U np I;split at h
    .ext T;erw[Q0] at h;let⟨d,g,e⟩:=h;cases e;let⟨k,fa,fd,S,e1,R,Q,P,O,N,M⟩:=u.fn I;let⟨t,d1,d2,_,q,_⟩:=gi g;exact⟨_,qT (pos:=b) (p:=p) B N R G Q P O .nil (AO (dY A g)) L (aP t) (dm q),M⟩
    .cases h
   .split at h
    .erw[Q0] at h;let⟨d,g,e⟩:=h;cases e
    .cases h
  .cases h
 .cases h
theorem AX(o:Ok X.dD cl C c)(b:AG X cl C z)(x:X.ex=[]){t v:Expr}{d:S}(h:AE n c z t v=some d):PS X (.Assign [t] v pos) (SS X cl (bu C d)):=by
 unfold AE at h;split at h
 .ext a r B A;let⟨p,q,rfl⟩:=AW A;split at h
  .ext i O y;split at h
   .cases h
   .ext F;split at h
    .ext L M N l k j;cases h;let⟨np,I,G⟩:=LQ o b x y;have g:∀e d,uE n c z e=some d->Tells X cl C e d:=vH o.u b.u n;refine Iq I G (DA g k) (DA g j) (AQ (vB o n _ _ l)) ?_ (jJ (by simp[jI])) (by rw[gJ (~~~F)];rfl);exact(show swapsWith (.Subscript a (.Slice r B none p) q) (some t) pos.line X.env=pure false from gj rfl)
    .cases h
  .cases h
 .cases h
theorem kI(o:Ok X.dD cl C c)(a:X.env.scope.names=c.names)(b:X.env.scope.kind=.function){d:S}(h:xS n c s=some d):PS X s (SS X cl (bu C d)):=by
 unfold xS at h;split at h
 .ext k j;split at h
  .ext g;cases h;exact LP g (FG o a b PassesOwn.never (λ _ _ z=>z) n s d j)
  .cases h
 .cases h
theorem AY:∀(n:Nat) (X:L2.Cx) (s:Stmt) (d:S),Ok X.dD cl C c->AG X cl C z->X.env.scope.names=c.names->X.env.scope.kind=.function->X.ex=[]->X.stack=X.env::X.outer->X.env.frame=some X.env.locals->PassesOwn (model X.prog X.w) X.A X.env X.xe->cX n c z s=some d->PS X s (SS X cl (bu C d))
 |0,_,_,_,_,_,_,_,_,_,_,_,h=>by cases h
 |n+1,X,s,d,o,l,g,B,F,L,M,hp,h=>by
  have ih:∀e d,cE n c e=some d->Tells X.dD cl C e d:=λ e d h=>fN n X.dD c e d o h;have BJ:∀s d,cX n c z s=some d->PS X s (SS X cl (bu C d)):=λ s d h=>AY n X s d o l g B F L M hp h;unfold cX at h;split at h
  .split at h
   .ext x a I;let⟨np,T,rfl,rfl⟩:=t6 I;unfold AB at h;split at h
    .ext fo R;split at h
     .ext q;erw[Q5,RS,RT] at q;let⟨P,h2,h3⟩:=aZ q.1.1;erw[Q0] at h;let⟨d1,hd,rfl⟩:=h;let⟨U,q2,q3⟩:=l.cls R;cases fo with
      |none=>
       let⟨bm,Q⟩:=q2 rfl;exact Ax Q o.hand F (o.glb q.1.2) U (AN (ih _ _ hd).1) P (aP q.2)
      |some f=>
       let⟨bm,k,fa,fd,ps,Q,hfn,Fi,G,hb,hps⟩:=q3 f rfl;exact DJ Q hfn Fi G hb hps F (o.glb q.1.2) U (AN (ih _ _ hd).1) P (aP q.2)
     .cases h
    .cases h;exact iZ
   .cases h;exact iZ
  .split at h
   .split at h
    .split at h
     .ext x y s0 r0 I;let⟨np,hpos,rfl⟩:=xT I;split at h
      .ext b hh hb hu;unfold LL at h;split at h
       .ext fo cs R hsb;split at h
        .ext q;erw[Q5,RS,RT] at q;let⟨P,h2,h3⟩:=aZ q.1;let⟨U,q2,q3⟩:=l.cls R;let⟨bm,j,Q,_⟩:=l.u.cls (RY R);have O:∀pn xe,PassesOwn (model X.prog X.w) X.A X.env xe->iD (X.pD pn xe) _ (SS (X.pD pn xe) cl (aD C b)):=λ pn xe hpo=>gv (λ s d h=>AY n (X.pD pn xe) s d o.pD l.pD g B F L M hpo h) hb;have Ov:∀a pn,iD (X.qP (.ref a) pn BG) (s0::r0) (SS (X.qP (.ref a) pn BG) cl (aD C hh)):=λ a pn=>gv (FL (o.qP) (l.u.of rfl rfl) n) hu;split at h
         .cases h
         .ext v;split at h
          .ext hv;erw[Q0] at h;let⟨i,hi,rfl⟩:=h;exact Iu F L M (show X.N.Nodup from Io (X:=X.dD) o) (o.slot hi) (by show X.env.scope.names.lookup v=_;rw[g];exact hv) Q (o.glb q.2) U P (l.hnd R hsb) O Ov
          .cases h
        .cases h
       .cases h
      .cases h
     .cases h
    .cases h
   .cases h
  .split at h
   .ext d1 x y y1 Z Y;cases h;exact Aa (vI o l F (n+1) _ _ y1).2 (gv BJ Z) (gv BJ Y)
   .cases h
  .split at h
   .split at h
    .cases h
    .ext hs;split at h
     .ext t d1 x y1 Z Y;cases h;exact Ab hp o.calm (LO (vq o ih Z)) (AQ (rq o n _ _ y1)) (gv BJ Y) (λ x=>pQ ((RE _).mp hs) x)
     .cases h
   .cases h
  .split at h
   .ext mk i ds G;cases h;exact(AV o l F G).1
   .exact kI o g B h
  .split at h
   .split at h
    .ext mk i ds G;cases h;exact(AV o l F G).2.1
    .rcases AU h with h | h
     .exact kI o g B h
     .erw[Q0] at h;let⟨d1,P,rfl⟩:=h;exact tU (vI o l F n _ _ P).1
   .cases h;exact pI
  .split at h
   .split at h
    .ext t _ _ _;unfold FI at h;split at h
     .ext mk i ds G;split at h
      .cases h
      .ext q;erw[Tw,RS,Uz,Bool.not_eq_false] at q;erw[Q0] at h;let⟨t1,ht,rfl⟩:=h;obtain⟨x,a,r,I⟩:∃x a r,lQ _=some (x,a,r):=by
        unfold BK at G;split at G
        .ext x a r I;exact⟨x,a,r,I⟩
        .cases G
       let⟨p,T,rfl⟩:=gW I;refine(AV o l F G).2.2 (AQ (vB o n _ _ ht)) ?_ (jJ (by rw[(RE _).mp q.2];rfl)) (by rw[gJ q.1];rfl);exact xU
     .cases h
    .split at h
     .ext I;cases h;exact AX o l F I
     .
      rcases AU h with h | h
      .exact kI o g B h
      .exact DP o l F h
   .cases h
  .exact kI o g B h
end
mutual
def aM:W->Bool
 |.tup xs=>aA xs
 |.fz xs=>aA xs
 |.obj _ _ vs=>aA vs
 |.ref _=>false
 |.non=>true
 |.bl _=>true
 |.int _=>true
 |.str _=>true
def aA:List W->Bool
 | []=>true
 |x::r=>aM x&&aA r
end
mutual
def Jm(k:Nat):W->W
 |.tup xs=>.tup (rE k xs)
 |.fz xs=>.fz (rE k xs)
 |.obj c ks vs=>.obj c ks (rE k vs)
 |.ref n=>.ref (k+n)
 |.non=>.non
 |.bl b=>.bl b
 |.int i=>.int i
 |.str x=>.str x
def rE(k:Nat):List W->List W
 | []=>[]
 |x::r=>Jm k x::rE k r
end
def DQ(k:Nat):List (Str×W)->List (Str×W)
 | []=>[]
 |(f,x)::r=>(f,Jm k x)::DQ k r
def Ow(k:Nat):O->O
 |.lst xs=>.lst (rE k xs)
 |.ins c fs=>.ins c (DQ k fs)
 |.set ks=>.set ks
 |.dic fs=>.dic (DQ k fs)
 |.exc c f ws=>.exc c f (rE k ws)
def aT(f:List W->Mem->R W)(ws:List W)(m:Mem):R W:=
 if aA ws then match f ws [] with
  |.ok w a=>if aM w then .ok w m else .ok (Jm m.length w) (m++a.map (Ow m.length))
  |.no=>.no
 else f ws m
set_option genInjectivity false in
structure Pg where
 fns:List Fn
 cs:Cs
 fuel:Nat
 z:Cz:={}
def bL(p:Pg):Nat->Nat->List W->Mem->R F
 |0,_,_,_=>.no
 |n+1,f,ws,m=>match p.fns[f]? with
  |none=>.no
  |some d=>if ws.length=d.np then aD ⟨λ f=>aT (λ ws m=>(bL p n f ws m).bind outF),p.fuel,p.cs,λ f=>bL p n f⟩ d.body (fj d.nl ws) m else .no
def runN(p:Pg)(n f:Nat)(ws:List W)(m:Mem):R W:=(bL p n f ws m).bind outF
theorem runN_succ(p:Pg)(n f:Nat)(ws:List W)(m:Mem):runN p (n+1) f ws m=match p.fns[f]? with
  |none=>.no
  |some d=>if ws.length=d.np then (aD ⟨λ f=>aT (runN p n f),p.fuel,p.cs,λ f=>bL p n f⟩ d.body (fj d.nl ws) m).bind outF else .no:=by
 unfold runN;rw[bL];cases p.fns[f]? with
 |none=>rfl
 |some d=>
  dsimp only;split
  .rfl
  .rfl
theorem RW.pure{g:List Addr}(q:RW K J H w v):aM w=true->RW K g H w v:=
 RW.rec (motive_1:=λ w v _=>aM w=true->RW K g H w v) (motive_2:=λ w v _=>aA w=true->aU K g H w v) (λ _=>.non) (λ b _=>.bl b) (λ b _=>.int b) (λ b _=>.str b) (λ h _ i e=>.tup h (i e)) (λ h _ i e=>.fz h (i e)) (λ h z _ i e=>.obj h z (i e)) (λ q e=>nomatch (show false=true from e)) (λ _=>.nil) (λ _ _ a b e=>.cons (a (Rg.mp e).1) (b (Rg.mp e).2)) q
theorem aU.pure{h:List Addr}{w:List W}{v:List V}(q:aU K J H w v)(e:aA w=true):aU K h H w v:=by
 induction w generalizing v with
 |nil=>cases q;exact .nil
 |cons x w g=>cases q with | cons a b=>exact .cons (a.pure (Rg.mp e).1) (g b (Rg.mp e).2)
theorem RW.shift(q:RW K γ H w v):RW K (J++γ) H (Jm J.length w) v:=
 RW.rec (motive_1:=λ w v _=>RW K (J++γ) H (Jm J.length w) v) (motive_2:=λ w v _=>aU K (J++γ) H (rE J.length w) v) .non .bl .int .str (λ h _ i=>.tup h i) (λ h _ i=>.fz h i) (λ h e _ i=>.obj h e i) (λ q=>.ref (by rw[Rp (by omega),SJ];exact q)) .nil (λ _ _ a b=>.cons a b) q
theorem aU.shift{w:List W}{v:List V}(q:aU K γ H w v):aU K (J++γ) H (rE J.length w) v:=by
 induction w generalizing v with
 |nil=>cases q;exact .nil
 |cons x w g=>cases q with | cons a b=>exact .cons a.shift (g b)
theorem fL.shift{w:List (Str×W)}{v:List (Str×V)}(q:fL K γ H w v):fL K (J++γ) H (DQ J.length w) v:=by
 induction q with
 |nil=>exact .nil
 |cons a b g=>exact .cons a.shift g
theorem RO.shift{a:Addr}{o:O}(q:RO K cl γ H a o):RO K cl (J++γ) H a (Ow J.length o):=by
 cases o with
 |lst ws=>let⟨vs,e,t⟩:=q;exact⟨vs,e,t.shift⟩
 |ins c fs=>let⟨k,b,e,t⟩:=q;exact⟨k,b,e,t.shift⟩
 |dic fs=>let⟨b,e,t⟩:=q;exact⟨b,e,t.shift⟩
 |exc c f ws=>let⟨j,h,vs,e,g,t,d⟩:=q;exact⟨j,h,vs,e,g,t.shift,d⟩
 |set l=>exact q
theorem xV{np:Nat}{f:List W->Mem->R W}{Q:VK}{E:XK}(h:u5 K cl np (aT f) vs H Q E):u5 K cl np f vs H Q E:=by
 let⟨G,J,m,ws,w,N,r,t,e,k⟩:=h;unfold aT at e;split at e
 .ext P;split at e
  .ext L M U;refine⟨G,[],[],ws,L,M,⟨rfl,VF,λ {n o a} h=>by simp at h⟩,t.pure P,U,fun I z v x A q=>?_⟩;have B:∀{a:Addr} {o:HO},H a=some o->z a=some o:=λ h=>x.keep h 's' 's';have C:Ext J H J z:=⟨⟨[],by simp,by simp⟩,λ h _ _=>B h⟩;have D:Rel K cl J m z:=⟨r.len,r.nd,λ j l=>by
    have q:=r.obj j l;let⟨u,e,_⟩:=q.ex;exact q.mono r C ((B e).trans e.symm)⟩
   split at e
   .ext O;cases e;exact k J z v C D (q.pure O)
   .cases e;let⟨γ,y,g⟩:=x.pre;rw[Vs] at y;subst y;rw[<-r.len] at k;refine k (J++I) z v ⟨⟨I,rfl,g⟩,λ h _ _=>B h⟩ ⟨by simp[r.len,A.len],?_,λ {n o a} j l=>?_⟩ q.shift
    .rw[T4];refine⟨r.nd,A.nd,λ a T b S=>?_⟩;rintro rfl;let⟨u,e,_⟩:=r.ex T;rw[g a S] at e;cases e
    .by_cases F:n<J.length
     .rw[Rc (by rw[<-r.len];exact F)] at j;rw[Rc F] at l;exact(D.obj j l).sub λ {n a} h=>by rw[Rc (Q4.mp h).1];exact h
     .rw[Rp (by rw[<-r.len];lia),Td] at j;rw[Rp 'o'] at l;erw[Q0] at j;let⟨X,j,rfl⟩:=j;rw[<-r.len] at j;exact(A.obj j l).shift
  .cases e
 .exact⟨G,J,m,ws,w,N,r,t,e,k⟩
theorem xW{f:List W->Mem->R W}{b:Mem}(h:aT f ws m=.ok w b):∃m1 w1 m2 a,f a m1=.ok w1 m2/\ws=a:=by
 unfold aT at h;split at h
 .split at h
  .exact⟨_,_,_,_,by assumption,rfl⟩
  .cases h
 .exact⟨_,_,_,_,h,rfl⟩
section
variable{P:Program}{w:World}{K:ae}{mg:Str->Option Value}{base:Heap}{fns:List (Str×(Nat×Nat))}{gl:List (Str×W)}{fz:List Pos}{p:Pg}
def Ox:Option S->Option S
 |some d=>some d
 |none=>some .never
theorem IG{o:Option S}{d:S}(h:Ox o=some d):o=some d\/d=.never:=by
 cases o with
 |none=>cases h;exact .inr rfl
 |some x=>exact .inl h
abbrev cB(p:Pg)(c:Ci):Stmt->Option S:=λ s=>Ox (cX 60 c p.z s)
def FD(K:ae)(p:Pg)(fns:List (Str×(Nat×Nat)))(gl:List (Str×W))(fz:List Pos)(i:Nat)(x:Str)(f:Addr)(h:FuncData)(ps:List Str):Prop:=
 ∃(b:Str) (g:Stmt) (N:List Str) (a:Ss),ED K x b g f h/\fV N ps (aJ g)/\sA (cB p ⟨N,(aJ g).names,fns,gl,p.cs,fz⟩) (cH g)=some a/\p.fns[i]?=some ⟨ps.length,N.length,a⟩/\Binds K h ps []
structure FA(K:ae)(w:World)(mg:Str->Option Value)(p:Pg)(fns:List (Str×(Nat×Nat)))(gl:List (Str×W))(fz:List Pos):Prop where
 blt:∀x∈jF,mg x=none
 glo:∀{x:Str} {w:W},gl.lookup x=some w->∃u v,mg x=some u/\RelV v u/\∀J H,RW K J H w v
 fn:∀{x:Str} {i np:Nat},fns.lookup x=some (i,np)->∃f fd ps,ps.length=np/\FD K p fns gl fz i x f fd ps/\mg x=@(.ref f)
 mth:∀{c x:Str} {i:Nat},p.cs.mths.lookup (c,x)=some i->∃f fd ps,FD K p fns gl fz i x f fd ps/\wH K (ai K c)/\Meth K (ai K c) x f
 ini:∀{c:Str} {i:Nat},p.cs.ini.lookup c=some i->∃f fd ps,FD K p fns gl fz i "__init__" f fd ps/\Mk K (ai K c) f/\mg c=@(.ref (ai K c))
 fld:∀{c x:Str},p.cs.flds.contains (c,x)=true->wH K (ai K c)/\gz K (ai K c) x
 dic:∀{x:Str} {kvs:List (Str×W)},p.cs.dic.lookup x=some kvs->TopK K w mg x kvs
 isc:∀{x:Str},p.cs.isc.contains x=true->mg x=some (.ref (ai K x))/\HA K (ai K x)
structure FZ(K:ae)(mg:Str->Option Value)(p:Pg)(fns:List (Str×(Nat×Nat))):Prop where
 fn:∀{x:Str} {v:Nat×Nat},p.z.fn.lookup x=some v->fns.lookup x=some v
 ini:∀{x:Str} {i:Nat},p.z.ini.lookup x=some i->p.cs.ini.lookup x=some i
 cls:∀{x:Str} {fo:Option Str},p.z.cls.lookup x=some fo->mg x=some (.ref (ai K x))/\(fo=none->∃bm,XC K (ai K x) bm none)/\∀f,fo=some f->∃(bm:List Value) (fa:Addr) (fd:FuncData) (ps:List Str),XC K (ai K x) bm @(.ref fa)/\PySem.W.typeIn K (.ref fa)=some (.type "function")/\(∀P w base,cg P w K mg base yg 1 fa fd ps (EY (ai K x) f))/\Binds K fd ps []/\ps.length=2
 hnd:∀{x:Str} {fo:Option Str} {cs:List Str},p.z.cls.lookup x=some fo->p.z.sub.lookup x=some cs->∀c,cs.contains c=true->∃bm j,XC K (ai K c) bm j/\(Value.ref (ai K c)::bm).contains (.ref (ai K x))=true
 sub:∀{t:Str} {cs:List Str},p.z.sub.lookup t=some cs->(mg t=some (qB K t)\/mg t=none/\bootBuiltins t=@(qB K t))/\∀{c fo},p.z.cls.lookup c=some fo->PySem.W.kitOne K (.ref (ai K c)) (qB K t)=@(cs.contains c)
 exc:∀{c:Str} {fo:Option Str},(c,fo)∈p.z.cls->∃bm j,XC K (ai K c) bm j/\XG K (ai K c)/\∀f,fo=some f->PySem.W.findIn K (.ref (ai K c)) f=some none
theorem RL.start{N:List Str}(t:aU K J H ws vs):RL K J H (fj N.length ws) (L2.start N vs):=by
 refine⟨?_,λ {i w} h=>?_⟩
 .unfold fj L2.start;simp[t.length]
 .unfold fj at h
  by_cases a:i<ws.length
  .rw[Rc (~~~a),Td] at h;erw[Q0] at h;let⟨j,g,b⟩:=h;cases b;let⟨v,e,q⟩:=t.get g;refine⟨v,?_,q⟩;unfold L2.start;rw[Rc (by rw[Rn,<-t.length];exact a),Td,e];rfl
  .rw[Rp (~~~a),getElem?_replicate] at h;split at h<;>cases h
theorem vJ{np:Nat}{Q:VK}{E:XK}(h:u5 K cl np (runN p n i) vs H Q E):Aw K cl np (bL p n i) vs H Q E:=by
 let⟨j,J,m,ws,w,o,r,t,e,k⟩:=h;let⟨x,A,l,a⟩:=R.ah (show (bL p n i ws m).bind outF=.ok w o from e);cases x with
 |nx Z=>cases a;exact⟨j,J,m,ws,_,_,r,t,l,fun y z b g=>k _ _ _ b g .non⟩
 |rt u=>cases a;exact⟨j,J,m,ws,_,_,r,t,l,fun y z b g v q=>k _ _ _ b g q⟩
 |rz c B Z=>cases a
 |bk Z=>cases a
 |ct Z=>cases a
theorem t7(B:FA K w mg p fns gl fz)(U:FZ K mg p fns):∀(n:Nat) {i:Nat} {x:Str} {f:Addr} {b:FuncData} {ps:List Str},FD K p fns gl fz i x f b ps->cg P w K mg base (lK P w) (2*n+1) f b ps (Aw K ⟨P,w⟩ ps.length (bL p n i))
 |0,i,x,f,b,ps,h=>⟨λ vs H Q E q=>q.1,λ A outer s H args us vs Q E G he Pe hv hs=>by
   let⟨_,_,_,_,_,_,_,_,e,_⟩:=hs;cases e⟩
 |n+1,i,x,f,b,ps,h=>by
  let⟨qual,st,N,body,F,S,hb,hi,hB⟩:=h;refine F.Qs (k:=2*n+2) S (λ vs H Q E h=>h.1) (λ cdv A outer s H vs Q E G h=>?_);let⟨hl,J,m,ws,fl,X,r,t,e,k⟩:=h;have Oz:∀{L:Nat} {x':Str} {f':Addr} {l:FuncData} {a:List Str},FD K p fns gl fz L x' f' l a->∀ws m fl X,bL p n L ws m=.ok fl X->ws.length=a.length:=λ O ws m fl X T=>by
   let⟨_,_,_,_,_,_,_,hi',_⟩:=O;cases n with
   |zero=>cases (show (R.no:R D.F)=.ok _ _ from T)
   |succ n=>
    erw[bL,hi'] at T;split at T
    .assumption
    .cases T
  have jE:∀{L:Nat} {x':Str} {f':Addr} {l:FuncData} {a:List Str},FD K p fns gl fz L x' f' l a->∀ws m w X,aT (runN p n L) ws m=.ok w X->ws.length=a.length:=λ O ws m w X T=>by
   let⟨m1,w1,m2,E3,T,hlw⟩:=xW T;let⟨fl,m3,e1,_⟩:=R.ah (show (bL p n _ E3 m1).bind outF=.ok w1 m2 from T);rw[hlw];exact Oz O _ _ _ _ e1
  have go:∀{L:Nat} {x':Str} {f':Addr} {l:FuncData} {a:List Str},FD K p fns gl fz L x' f' l a->cg P w K mg base (lK P w) (2*n+1) f' l a (Aw K ⟨P,w⟩ a.length (bL p n L))/\cg P w K mg base (yi P w) (2*n+1) f' l a (u5 K ⟨P,w⟩ a.length (aT (runN p n L))):=λ O=>
   ⟨t7 B U n O,(t7 B U n O).imp λ _ _ _ _ q=>vJ (xV q)⟩
  have o:Ok (iL (lK P w) P w K mg base N qual (aJ st) f cdv A outer s H E).dD ⟨P,w⟩ ⟨λ f=>aT (runN p n f),p.fuel,p.cs,λ f=>bL p n f⟩ ⟨N,(aJ st).names,fns,gl,p.cs,fz⟩:=by
   refine⟨rfl,S.nd,λ {x k} I hv=>?_,λ {x k} I hv=>?_,λ {x} I=>I,λ {x} I=>I,rfl,⟨G.units,rfl,rfl,G.gd⟩,G.hd,B.blt,λ {x i np} C=>?_,B.glo,rfl,B.fld,λ {c x i} C=>?_,λ {c i} C=>?_,B.dic,B.isc⟩
   .rcases hv with rfl | rfl | rfl
    .exact .inl I
    .exact .inr (.inl I)
    .exact .inr (.inr I)
   .rcases hv with rfl | rfl
    .exact⟨.inl I,.inl rfl⟩
    .exact⟨.inr I,.inl rfl⟩
   .let⟨u,b,ps,h1,g,M⟩:=B.fn C;have hkp:PySem.W.keepIn K (.ref u)=true:=let ⟨_,_,_,_,F,_,_,_,_⟩:=g;F.kp;have j:Binds K b ps []:=let ⟨_,_,_,_,_,_,_,_,z⟩:=g;z;exact⟨2*n+1,u,b,ps,h1,G.mono 'o',M,hkp,j,(go g).2⟩
   .let⟨u,b,ps,g,M,h4⟩:=B.mth C;have j:Binds K b ps []:=let ⟨_,_,_,_,_,_,_,_,z⟩:=g;z;exact⟨2*n+1,u,b,ps,G.mono 'o',M,h4,j,(go g).2,jE g⟩
   .let⟨u,b,ps,g,M,h4⟩:=B.ini C;have j:Binds K b ps []:=let ⟨_,_,_,_,_,_,_,_,z⟩:=g;z;exact⟨2*n+1,u,b,ps,G,M,h4,j,(go g).2,jE g⟩
  have oz:AG (iL (lK P w) P w K mg base N qual (aJ st) f cdv A outer s H E) ⟨P,w⟩ ⟨λ f=>aT (runN p n f),p.fuel,p.cs,λ f=>bL p n f⟩ p.z:=by
   refine⟨λ {x i np} C=>?_,λ {x i} C=>?_,λ {x fo} C=>?_,U.hnd,U.sub,U.exc⟩
   .let⟨u,b,ps,h1,g,M⟩:=B.fn (U.fn C);have hkp:PySem.W.keepIn K (.ref u)=true:=let ⟨_,_,_,_,F,_,_,_,_⟩:=g;F.kp;have j:Binds K b ps []:=let ⟨_,_,_,_,_,_,_,_,z⟩:=g;z;exact⟨2*n+1,u,b,ps,h1,G.mono 'o',M,hkp,j,(go g).1,Oz g⟩
   .let⟨u,b,ps,g,M,h4⟩:=B.ini (U.ini C);have j:Binds K b ps []:=let ⟨_,_,_,_,_,_,_,_,z⟩:=g;z;exact⟨2*n+1,u,b,ps,G,M,h4,j,(go g).1,Oz g⟩
   .let⟨q1,q2,q3⟩:=U.cls C;refine⟨q1,q2,λ f hf=>?_⟩;let⟨bm,u,b,ps,y1,y2,y3,y4,y5⟩:=q3 f hf;exact⟨bm,1,u,b,ps,y1,y2,y3 P w base,G.mono 'o',y4,y5⟩
  refine⟨_,gv (λ s d h=>by
   rcases IG (show Ox (cX 60 _ p.z s)=some d from h) with h1 | rfl
   .exact AY 60 _ s d o oz rfl S.kind rfl rfl rfl CV h1
   .exact iZ) hb,?_⟩
  erw[bL,hi] at e;split at e
  .refine⟨J,fj N.length ws,m,fl,X,r,RL.start t,e,fun β1 H1 x1 r1=>?_⟩;have q:=k β1 H1 x1 r1;cases fl with
   |nx Z=>exact fun Y _=>q
   |rt w=>exact q
   |rz c fw Z=>
    rcases fw with _ | ⟨f,w⟩
    .exact fun Y _=>uT q
    .exact fun Y y dx _ qq O=>uT (q y dx qq O)
   |bk Z=>exact q.elim
   |ct Z=>exact q.elim
  .cases e
theorem sound(g:FA K w mg p fns gl fz)(b:FZ K mg p fns)(n:Nat){x:Str}{f:Addr}{a:FuncData}{ps:List Str}(h:FD K p fns gl fz i x f a ps):cg P w K mg base (yi P w) (2*n+1) f a ps (u5 K ⟨P,w⟩ ps.length (runN p n i)):=
 (t7 g b n h).imp λ _ _ _ _ q=>vJ q
end
theorem AZ{l:PySem.W.OpenLaw}{q:Program}{b:List Str}{M:(Str->Option Value)->Heap->Prop}{A:World->Heap->Prop}{d:DefRec}{K:Params->ae}{p:Pg}{x:Str}
  (C:l.most=some 63) (r:d.params.defaults=[]) (G:∀(w:World) (h:Heap),A w h->(K w.params).In h)
  (F:∀(w:World) (g:Str->Option Value) (y:Addr) (h:Heap),(K w.params).In h->h.Ns mainGlobals g->g d.name=some (.ref y)->
   ∃t:FuncData,(∀(s:Shared) (u:Value),BindsTo s t ⟨[u],[]⟩ [(x,u)])/\
    ∀base:Heap,(K w.params).In base->base.Ns mainGlobals g->cg l.prog w (K w.params) g base (yi l.prog w) 81 y t [x] (u5 (K w.params) ⟨l.prog,w⟩ 1 (runN p 40 i)))
  (N:∀ns:List Int,ns.length<=63->∃j,runN p 40 i [.fz (ns.map .int)] []=.ok (.bl true) j) :
  PySem.W.WalkO q b M A l.row.toRowW d [] (λ f vs=>PySem.call f vs):=by
 refine L2.CG (n:=63) (k:=81) (x:=x) (CX:=λ w=>yi l.prog w) (sp:=λ w=>u5 (K w.params) ⟨l.prog,w⟩ 1 (runN p 40 i)) C 'd' r ⟨rfl,by decide,by decide,rfl⟩ G F (λ w H a ns D L I=>?_) λ _ _ _ _ _ z=>Qv z;let⟨j,e⟩:=N ns D;have B:qU (K w.params) H a (ns.map V.int):=by
  rcases I with (h | ⟨o,h⟩) | h
  .rcases L a with z | ⟨o,xs,z⟩
   .rw[h] at z;cases z
   .rw[h] at z;cases z
  .exact .inl ⟨o,h⟩
  .exact .inr h
 refine⟨rfl,[],[],[.fz (ns.map .int)],.bl true,j,⟨rfl,VF,λ {n o a} h=>by simp at h⟩,.cons (.fz B (aU.ints ns)) .nil,e,fun O P v _ _ q=>?_⟩;cases q;rfl
end D
namespace D
open PySem List
variable{C:Cx}{b r:Ss}{c:Str}{e it:E}{es:Es}{f:List W->Mem->R W}{fw:Option (Str×W)}{i n:Nat}{m m0 m1 m2:Mem}{o:O}{p:Pg}{s:Src}{w:W}{ws xs:List W}{α:Type}{Z Z1:Loc}
theorem rF{J:Type}[BEq α][LawfulBEq α]{x:α}{b:J}{l:List (α×J)}(h:l.lookup x=some b):(x,b)∈l:=by
 induction l with
 |nil=>simp at h
 |cons p l a=>
  let⟨y,c⟩:=p;rw[Rl] at h;split at h
  .ext d;cases h;rw[eq_of_beq d];exact RG
  .exact Ro _ (a h)
abbrev Cn(p:Pg)(n:Nat):D.Cx:=⟨λ f=>aT (D.runN p n f),p.fuel,p.cs,λ f=>D.bL p n f⟩
section
variable{get:Mem->Nat->Nx}{t:T}{test:Loc->Mem->R Bool}{body:Loc->Mem->List W->R (List W×Loc)}{kJ:Loc->Mem->R F}{k i:Nat}{Z Z1 Z2:Loc}{m m1 m2:Mem}{acc t9:List W}{x w:W}
theorem xX(h:get m i=.fin):cR get t test body k i Z m acc=.ok (acc,Z) m:=by unfold cR;rw[h]
theorem A9(h:get m i=.it x)(g:aK t x Z=some Z1)(a:test Z1 m=.ok true m1)(d:body Z1 m1 acc=.ok (t9,Z2) m2):cR get t test body (k+1) i Z m acc=cR get t test body k (i+1) Z2 m2 t9:=by
 rw[cR,h];erw[g,a,R.bind,RQ,d]
theorem ua(h:get m i=.it x)(d:aK t x Z=some Z1)(a:test Z1 m=.ok false m1):cR get t test body (k+1) i Z m acc=cR get t test body k (i+1) Z1 m1 acc:=by
 rw[cR,h];erw[d,a,R.bind,RA,Rz]
theorem i9(h:get m i=.fin):er get t kJ k i Z m=.ok (.nx Z) m:=by unfold er;rw[h]
theorem gX(h:get m i=.it x)(d:aK t x Z=some Z1)(a:kJ Z1 m=.ok (.nx Z2) m2):er get t kJ (k+1) i Z m=er get t kJ k (i+1) Z2 m2:=by
 rw[er,h];erw[d,R.bind,a]
theorem vK(h:get m i=.it x)(d:aK t x Z=some Z1)(a:kJ Z1 m=.ok (.ct Z2) m2):er get t kJ (k+1) i Z m=er get t kJ k (i+1) Z2 m2:=by
 rw[er,h];erw[d,R.bind,a]
theorem rG(I:Nat->Loc->Mem->Prop)(j:∀i Z m,i<n->I i Z m->∃x Z1 Z2 m2,get m i=.it x/\aK t x Z=some Z1/\(kJ Z1 m=.ok (.nx Z2) m2\/kJ Z1 m=.ok (.ct Z2) m2)/\I (i+1) Z2 m2)(l:∀Z m,I n Z m->get m n=.fin) :
  ∀(k i:Nat) (Z:Loc) (m:Mem),i+k=n->I i Z m->∃a g,er get t kJ k i Z m=.ok (.nx a) g/\I n a g
 |0,i,Z,m,hi,h=>by
  have e:i=n:=by lia
  subst e;exact⟨Z,m,i9 (l Z m h),h⟩
 |k+1,i,Z,m,hi,h=>by
  let⟨x,Z1,Z2,m2,u,q,d,y⟩:=j i Z m 'o' h;let⟨a,g,e,v⟩:=rG I j l k (i+1) Z2 m2 'o' y;refine⟨a,g,?_,v⟩;rcases d with d | d
  .rw[gX u q d,e]
  .rw[vK u q d,e]
theorem fO(I:Nat->Loc->Mem->List W->Prop)
  (j:∀i Z m acc,i<n->I i Z m acc->∃x Z1,get m i=.it x/\aK t x Z=some Z1/\((∃m1 t9 Z2 m2,test Z1 m=.ok true m1/\body Z1 m1 acc=.ok (t9,Z2) m2/\I (i+1) Z2 m2 t9)\/∃m1,test Z1 m=.ok false m1/\I (i+1) Z1 m1 acc))
  (l:∀Z m acc,I n Z m acc->get m n=.fin) :
  ∀(k i:Nat) (Z:Loc) (m:Mem) (acc:List W),i+k=n->I i Z m acc->∃d a g,cR get t test body k i Z m acc=.ok (d,a) g/\I n a g d
 |0,i,Z,m,acc,hi,h=>by
  have e:i=n:=by lia
  subst e;exact⟨acc,Z,m,xX (l Z m acc h),h⟩
 |k+1,i,Z,m,acc,hi,h=>by
  obtain⟨x,Z1,A,z,⟨m1,t9,Z2,m2,v,B,u⟩ | ⟨m1,v,u⟩⟩:=j i Z m acc 'o' h
  .let⟨y,a,g,e,q⟩:=fO I j l k (i+1) Z2 m2 t9 'o' u;exact⟨y,a,g,by rw[A9 A z v B,e],q⟩
  .let⟨y,a,g,e,q⟩:=fO I j l k (i+1) Z1 m1 acc 'o' u;exact⟨y,a,g,by rw[ua A z v,e],q⟩
end
theorem aj{s:S}(h:bu C s Z m=.ok (.nx Z1) m1):aD C (.cons s r) Z m=aD C r Z1 m1:=by erw[gb,h,R.bind]
theorem aL{s:S}(h:bu C s Z m=.ok (.rt w) m1):aD C (.cons s r) Z m=.ok (.rt w) m1:=by erw[gb,h,R.bind]
theorem br{s:S}(h:bu C s Z m=.ok (.rz c fw Z1) m1):aD C (.cons s r) Z m=.ok (.rz c fw Z1) m1:=by erw[gb,h,R.bind]
theorem cK{f:Nat}{d:Fn}(g:p.fns[f]?=some d)(a:ws.length=d.np):D.bL p (n+1) f ws m=aD (Cn p n) d.body (fj d.nl ws) m:=by
 rw[D.bL,g];dsimp only;rw[Rf a];rfl
def iI(P:Nat->Bool):Nat->Nat->Option Nat
 |0,_=>none
 |k+1,i=>if P i then some i else iI P k (i+1)
theorem rH{P:Nat->Bool}:∀{k i:Nat},iI P k i=none->∀j,i<=j->j<i+k->P j=false
 |0,_,_=>λ j d a=>by lia
 |k+1,i,h=>λ j d a=>by
  unfold iI at h;split at h
  .cases h
  .ext e
   by_cases y:j=i
   .subst y;simpa using e
   .exact rH h j 'o' 'o'
theorem ja{P:Nat->Bool}:∀{k i:Nat},(∀j,i<=j->j<i+k->P j=false)->iI P k i=none
 |0,_,_=>rfl
 |k+1,i,h=>by
  unfold iI;rw[h i (Q7 _) 'o',Ri 'd'];exact ja λ j d a=>h j 'o' 'o'
def FN:F->Prop
 |.rt _=>True
 |.rz _ _ _=>True
 |_=>False
theorem oh{get:Mem->Nat->Nx}{t:T}{kJ:Loc->Mem->R F}(P:Nat->Bool)(I:Nat->Loc->Mem->Prop)(O:Nat->F->Mem->Prop)(A:∀i f m,O i f m->FN f)
  (v:∀i Z m,i<n->I i Z m->∃x Z1,get m i=.it x/\aK t x Z=some Z1/\(P i=true->∃f m2,kJ Z1 m=.ok f m2/\O i f m2)/\(P i=false->∃d m2,(kJ Z1 m=.ok (.nx d) m2\/kJ Z1 m=.ok (.ct d) m2)/\I (i+1) d m2)) (y:∀Z m,I n Z m->get m n=.fin) :
  ∀(k i:Nat) (Z:Loc) (m:Mem),i+k=n->I i Z m->match iI P k i with
   |none=>∃g l,er get t kJ k i Z m=.ok (.nx g) l/\I n g l
   |some j=>∃f l,er get t kJ k i Z m=.ok f l/\O j f l
 |0,i,Z,m,hi,h=>by
  have e:i=n:=by lia
  subst e;exact⟨Z,m,i9 (y Z m h),h⟩
 |k+1,i,Z,m,hi,h=>by
  let⟨x,Z1,u,q,a,G⟩:=v i Z m 'o' h;unfold iI;cases z:P i with
  |true=>
   let⟨f,m2,e,o⟩:=a z;rw[Rf rfl];refine⟨f,m2,?_,o⟩;have:=A _ _ _ o;rw[er,u];erw[q,R.bind,e];cases f<;>first | rfl | exact this.elim
  |false=>
   let⟨d,m2,a,D⟩:=G z;have B:=oh P I O A v y k (i+1) d m2 'o' D;have e:er get t kJ (k+1) i Z m=er get t kJ k (i+1) d m2:=by
    rcases a with a | a
    .exact gX u q a
    .exact vK u q a
   rw[Ri 'd',e];exact B
theorem bC{f:Nat}{d:Fn}(g:p.fns[f]?=some d)(a:ws.length=d.np)(h:aD (Cn p n) d.body (fj d.nl ws) m=.ok (.rt w) m1):D.runN p (n+1) f ws m=.ok w m1:=by
 rw[D.runN_succ,g];erw[a,RQ,h,R.bind,outF]
theorem II(h:aq C e Z m=.ok w m1):bu C (.asg (.pt (.var i)) e) Z m=.ok (.nx (Z.set i (some w))) m1:=by erw[gr,h,R.bind,eV,aK]
theorem aQ(h:aq C e Z m=.ok w m1)(a:Z.set i (some w)=Z1):bu C (.asg (.pt (.var i)) e) Z m=.ok (.nx Z1) m1:=by rw[II h,a]
theorem uc{xs:List α}(h:xs.Nodup)(hi:i<xs.length):xs[i]∉xs.take i:=λ a=>by
 rw[<-UR i xs] at h;exact(Tj.mp h).2.2 _ a _ (RP (i:=0) (by rw[getElem?_drop,VA,Rj hi])) rfl
theorem bz(h:aq C e Z m=.ok w m1):bu C (.ret e) Z m=.ok (.rt w) m1:=by erw[qK,h,R.bind]
theorem jb(h:aq C e Z m=.ok w m1):bu C (.expr e) Z m=.ok (.nx Z) m1:=by erw[lJ,h,R.bind]
theorem jK{o:E}{f:Str}{a:Mem}{x:W}(h:aq C e Z m=.ok w m1)(g:aq C o Z m1=.ok x m2)(d:nq C.cs x f w m2=.ok () a):bu C (.fas o f e) Z m=.ok (.nx Z) a:=by erw[qN,h,g,d,R.bind]
theorem fP{t:E}{a:Ss}(h:bq C t Z m=.ok true m1):bu C (.ife t a b) Z m=aD C a Z m1:=by erw[qL,h,R.bind,RQ]
theorem eE{t:E}{a:Ss}(h:bq C t Z m=.ok false m1):bu C (.ife t a b) Z m=aD C b Z m1:=by erw[qL,h,R.bind,RA,Rz]
theorem aI:aD C .nil Z m=.ok (.nx Z) m:=rfl
theorem lR{t:T}{f:F}(h:dR C it Z m=.ok s m1)(a:er s.get t (fun Z m=>aD C b Z m) (s.len m1) 0 Z m1=.ok f m2):bu C (.for_ t it b) Z m=.ok f m2:=by erw[pe,h,R.bind,a]
theorem kK{t:T}(l:dR C it Z m=.ok s m1)(j:s.len m1=n)(I:Nat->Loc->Mem->Prop)(v:I 0 Z m1)
  (h:∀i Z m,i<n->I i Z m->∃x Z1 g m2,s.get m i=.it x/\aK t x Z=some Z1/\(aD C b Z1 m=.ok (.nx g) m2\/aD C b Z1 m=.ok (.ct g) m2)/\I (i+1) g m2) (k:∀Z m,I n Z m->s.get m n=.fin) :
  ∃a d,bu C (.for_ t it b) Z m=.ok (.nx a) d/\I n a d:=by
 let⟨a,d,u,q⟩:=rG (get:=s.get) (t:=t) (kJ:=fun Z m=>aD C b Z m) I h k n 0 Z m1 'o' v;exact⟨a,d,lR l (by rw[j];exact u),q⟩
theorem gK{t:T}(u:dR C it Z m=.ok s m1)(q:s.len m1=n)(P:Nat->Bool)(I:Nat->Loc->Mem->Prop)(O:Nat->F->Mem->Prop)(z:∀i f m,O i f m->FN f)(A:I 0 Z m1)
  (v:∀i Z m,i<n->I i Z m->∃x Z1,s.get m i=.it x/\aK t x Z=some Z1/\(P i=true->∃f m2,aD C b Z1 m=.ok f m2/\O i f m2)/\(P i=false->∃l m2,(aD C b Z1 m=.ok (.nx l) m2\/aD C b Z1 m=.ok (.ct l) m2)/\I (i+1) l m2)) (y:∀Z m,I n Z m->s.get m n=.fin) :
  match iI P n 0 with
   |none=>∃a d,bu C (.for_ t it b) Z m=.ok (.nx a) d/\I n a d
   |some j=>∃f d,bu C (.for_ t it b) Z m=.ok f d/\O j f d:=by
 have h:=oh (get:=s.get) (t:=t) (kJ:=fun Z m=>aD C b Z m) P I O z v y n 0 Z m1 'o' A;cases e:iI P n 0 with
 |none=>
  rw[e] at h;let⟨a,d,k,g⟩:=h;exact⟨a,d,lR u (by rw[q];exact k),g⟩
 |some j=>
  rw[e] at h;let⟨f,d,k,g⟩:=h;exact⟨f,d,lR u (by rw[q];exact k),g⟩
theorem eW{f:Str}(h:aq C e Z m=.ok w m1):bu C (.rais c (some f) e) Z m=.ok (.rz c (some (f,w)) Z) m1:=by erw[tG,h,R.bind,S2]
theorem Ba(h:aS (Cn p n) es Z m=.ok ws m1)(a:D.bL p n i ws m1=.ok (.nx Z1) m2):bu (Cn p n) (.xc .drop none i es) Z m=.ok (.nx Z) m2:=by erw[iV,h,a,R.bind,yh,outF,iU]
theorem pT{hw:CM}(h:aS (Cn p n) es Z m=.ok ws m1)(a:D.bL p n i ws m1=.ok (.rz c fw Z1) m2):bu (Cn p n) (.xc hw none i es) Z m=.ok (.rz c fw Z) m2:=by erw[iV,h,a,R.bind,yh]
theorem Bb{hw:CM}(h:aS (Cn p n) es Z m=.ok ws m1)(a:D.bL p n i (.ref m1.length::ws) (m1++[.ins c []])=.ok (.nx Z1) m2):bu (Cn p n) (.xc hw (some c) i es) Z m=iU (Cn p n) hw Z (.ref m1.length) m2:=by erw[uP,h,a,R.bind,yh,outF]
theorem LR{h:Ss}{cs:List Str}{i:Option Nat}{fl:F}(e:aD C b Z m=.ok (.rz c fw Z1) m1)(a:cs.contains c=true)(e2:aD C h (tF i @(.ref m1.length) Z1) (m1++[Hj c fw])=.ok fl m2):bu C (.tr b cs i h) Z m=gone i fl m2:=by
 erw[K6,e,R.bind,a,RQ,e2]
theorem kL{t:T}{js:List Nat}{ifs:Es}{g:G}{a:Loc}(h:dR C it Z m=.ok s m1)(j:cR s.get t (fun Z m=>bM C ifs Z m) (fun Z m d=>jh C g Z m d) (s.len m1) 0 (fR js Z) m1 []=.ok (ws,a) m2):aq C (.comp (.gen t js it ifs g)) Z m=.ok (.ref m2.length) (m2++[.lst ws]):=by
 erw[gF,nO,h,R.bind,j,new]
theorem Bc(a:aq C e Z m=.ok (.int n) m1)(h:n<=1000000):dR C (.rng e) Z m=.ok (.rng 0 n) m1:=by
 erw[uN,a,R.bind];rw[Rf 'o',S4]
theorem eF{lo:Int}(h:i<n):Src.get (.rng lo n) m i=.it (.int (lo+i)):=by erw[Src.get,h,RQ]
theorem eX{lo:Int}(h:¬i<n):Src.get (.rng lo n) m i=.fin:=by erw[Src.get,h,Rz]
theorem bg(h:i<xs.length):Src.get (.tup xs) m i=.it xs[i]:=by erw[Src.get,Rj h]
theorem aR(h:¬i<xs.length):Src.get (.tup xs) m i=.fin:=by erw[Src.get,getElem?_eq_none (UO h)]
theorem eG(h:s.get m i=.it w):Src.get (.enm s) m i=.it (.tup [.int i,w]):=by erw[Src.get,h]
theorem dP(h:s.get m i=.fin):Src.get (.enm s) m i=.fin:=by erw[Src.get,h]
theorem gk(h:m[n]?=@(.lst xs))(i:Nat):Src.get (.lst n) m i=Src.get (.tup xs) m i:=by erw[Src.get,getL,h]
theorem oi:∀ns:List Int,aA (ns.map W.int)=true
 | []=>rfl
 |n::r=>by simp[aA,aM,oi r]
theorem bG:∀ns:List Str,aA (ns.map W.str)=true
 | []=>rfl
 |n::r=>by simp[aA,aM,bG r]
theorem eK:∀{xs:List W},aA xs=true↔∀x∈xs,aM x=true
 | []=>by simp[aA]
 |x::r=>by simp[aA,eK (xs:=r)]
theorem vL{f:α->W}(h:∀a,aM (f a)=true)(xs:List α):aA (xs.map f)=true:=eK.mpr λ x d=>by
 let⟨a,_,rfl⟩:=Sg.mp d;exact h a
theorem FO{ys:List W}:aA (xs++ys)=(aA xs&&aA ys):=by
 induction xs with
 |nil=>simp[aA]
 |cons x r a=>simp[aA,a,Bool.and_assoc]
mutual
theorem rJ(g:Nat->Option W):∀{w:W},aM w=true->mz g w=some w
 |.non,_=>rfl
 |.bl _,_=>rfl
 |.int _,_=>rfl
 |.str _,_=>rfl
 |.tup xs,h=>by erw[mz,bV g (by simpa only[aM] using h:aA xs=true)];rfl
 |.fz xs,h=>by erw[mz,bV g (by simpa only[aM] using h:aA xs=true)];rfl
 |.obj c ks vs,h=>by erw[mz,bV g (by simpa only[aM] using h:aA vs=true)];rfl
 |.ref _,h=>by simp[aM] at h
theorem bV(g:Nat->Option W):∀{w:List W},aA w=true->fX g w=some w
 | [],_=>rfl
 |x::r,h=>by
  erw[aA,Q5] at h;erw[fX,rJ g h.1,bV g h.2]
end
theorem Bd(k:Nat):aM w=true->iQ k w=true:=
 W.rec (motive_1:=λ w=>aM w=true->iQ k w=true) (motive_2:=λ w=>aA w=true->dB k w=true) (λ _=>rfl) (λ _ _=>rfl) (λ _ _=>rfl) (λ _ _=>rfl) (λ _ i e=>i e) (λ _ i e=>i e) (λ _ _ _ i e=>i e) (λ _ e=>nomatch (show false=true from e)) (λ _=>rfl) (λ _ _ a b e=>Rg.mpr ⟨a (Rg.mp e).1,b (Rg.mp e).2⟩) w
theorem bw(k:Nat){w:List W}(e:aA w=true):dB k w=true:=by
 induction w with
 |nil=>rfl
 |cons x r a=>exact Rg.mpr ⟨Bd k (Rg.mp e).1,a (Rg.mp e).2⟩
theorem Be{k l:Nat}(d:k<=l):iQ k w=true->iQ l w=true:=
 W.rec (motive_1:=λ w=>iQ k w=true->iQ l w=true) (motive_2:=λ w=>dB k w=true->dB l w=true) (λ _=>rfl) (λ _ _=>rfl) (λ _ _=>rfl) (λ _ _=>rfl) (λ _ i e=>i e) (λ _ i e=>i e) (λ _ _ _ i e=>i e) (λ _ e=>RX (Rh (SH e) d)) (λ _=>rfl) (λ _ _ a b e=>Rg.mpr ⟨a (Rg.mp e).1,b (Rg.mp e).2⟩) w
theorem gY{k l:Nat}(d:k<=l){w:List W}(e:dB k w=true):dB l w=true:=by
 induction w with
 |nil=>rfl
 |cons x r a=>exact Rg.mpr ⟨Be d (Rg.mp e).1,a (Rg.mp e).2⟩
theorem jL{k l:Nat}(a:k<=l)(h:dF k o=true):dF l o=true:=by
 cases o with
 |lst xs=>exact gY a h
 |ins c fs=>exact gY a h
 |dic fs=>exact gY a h
 |exc c f ws=>exact gY a h
 |set d=>rfl
def Cm(m:Mem):Prop:=xh m.length m=true
theorem Cm.nil:Cm []:=rfl
theorem rK{k:Nat}:xh k m=true↔∀o∈m,dF k o=true:=by simp[xh,TN]
theorem Cm.set{p:Nat}(h:Cm m)(ho:dF m.length o=true):Cm (m.set p o):=by
 unfold Cm at h ⊢;rw[UZ,rK] at *;intro x a;rcases mem_or_eq_of_mem_set a with a | rfl
 .exact h x a
 .exact ho
theorem Cm.app{l:Mem}(h:Cm m)(d:∀o∈l,dF (m.length+l.length) o=true):Cm (m++l):=by
 unfold Cm at h ⊢;rw[rK] at *;intro x a;rw[Ru];rcases RC.mp a with a | a
 .exact jL 'o' (h x a)
 .exact d x a
theorem Cm.push(h:Cm m)(ho:dF m.length o=true):Cm (m++[o]):=h.app λ x a=>by
 rw[RZ] at a;subst a;exact jL 's' ho
theorem ud{l:Mem}{w1:W}(h:aq C e Z m=.ok w (m0++l))(a:m0.length=m.length)(g:Cm m0)(hw:mz (CP (m0++l) m0.length 8) w=some w1):aq C (.frz e) Z m=.ok w1 m0:=by
 have d:(m0++l).take m.length=m0:=by rw[<-a,take_left'];rfl
 have j:m.length<=(m0++l).length/\xh m.length ((m0++l).take m.length)=true:=⟨by rw[Ru];lia,by rw[d,<-a];exact g⟩;erw[iS,h,ze];rw[Rf j,<-a,hw];erw[a,d]
theorem vM{l:Mem}{j:Nat}(h:aq C e Z m=.ok (.ref j) (m0++l))(k:m0.length=m.length)(g:Cm m0)(q:m0.length<=j)(a:(m0++l)[j]?=@(.lst xs))(d:aA xs=true):aq C (.frz e) Z m=.ok (.fz xs) m0:=by
 refine ud h k g ?_;erw[mz,CP,a,bV _ d,S2];rw[Ri 'o']
theorem bD(h:aq C e Z m=.ok (.ref m0.length) (m0++[.lst xs]))(g:m0.length=m.length)(d:Cm m0)(a:aA xs=true):aq C (.frz e) Z m=.ok (.fz xs) m0:=
 vM h g d (Q7 _) 's' a
theorem vN(h:aq C e Z m=.ok w m0)(g:m0.length=m.length)(d:Cm m0)(a:aM w=true):aq C (.frz e) Z m=.ok w m0:=
 ud (l:=[]) (by rw[R6];exact h) g d (rJ _ a)
theorem bB(h:aA ws=false):aT f ws m=f ws m:=by simp[aT,h]
theorem bR(h:aA ws=true)(e:f ws []=.ok w m1)(hw:aM w=true):aT f ws m=.ok w m:=by simp[aT,h,e,hw]
theorem xY(h:aA ws=true)(e:f ws []=.ok w m1)(hw:aM w=false):aT f ws m=.ok (Jm m.length w) (m++m1.map (Ow m.length)):=by simp[aT,h,e,hw]
theorem set_same{p:Nat}(h:m[p]?=some o):m.set p o=m:=by
 apply ext_getElem?;intro j
 by_cases e:p=j
 .subst e;rw[RH (Q4.mp h).1,h]
 .rw[RN e]
theorem DR(l:List α):l.filter (λ _=>true)=l:=List.filter_eq_self.mpr λ _ _=>rfl
theorem vO{get:Mem->Nat->Nx}{t:T}{ifs:Es}{B:W->Loc}{p:W->Bool}{g:W->W}(u:∀j (h:j<xs.length),get m j=.it xs[j])(M:get m xs.length=.fin)
  (K:∀x∈xs,aK t x Z=@(B x)) (D:∀x∈xs,∀y∈xs,aK t y (B x)=@(B y)) (F:∀x∈xs,bM C ifs (B x) m=.ok (p x) m) (G:∀x∈xs,p x=true->aq C e (B x) m=.ok (g x) m) (P:xs.length<=lim) :
  ∃d,cR get t (fun Z m=>bM C ifs Z m) (fun Z m a=>jh C (.elt e) Z m a) xs.length 0 Z m []=.ok ((xs.filter p).map g,d) m:=by
 let⟨a,d,N,L,Q,J,I⟩:=fO (get:=get) (t:=t) (test:=fun Z m=>bM C ifs Z m) (body:=fun Z m a=>jh C (.elt e) Z m a) (n:=xs.length)
  (λ j Z1 m1 a=>(∀x∈xs,aK t x Z1=@(B x))/\m1=m/\a=((xs.take j).filter p).map g) (λ j Z1 m1 a A=>by
   rintro⟨H,rfl,rfl⟩;have k:=RK A;have l:xs.take (j+1)=xs.take j++[xs[j]]:=by rw[VC,Rj A];rfl
   refine⟨xs[j],B xs[j],u j A,H _ k,?_⟩;have v:=F _ k;cases q:p xs[j] with
   |true=>
    rw[q] at v;refine .inl ⟨m1,((xs.take (j+1)).filter p).map g,B xs[j],m1,v,?_,D _ k,rfl,rfl⟩;have z:(((xs.take j).filter p).map g).length<lim:=by
     rw[Rn];have:=length_filter_le p (xs.take j);rw[Sb] at this;lia
    erw[nO,G _ k q,R.bind];rw[Rf z,l,filter_append,T9];simp[q]
   |false=>
    rw[q] at v;refine .inr ⟨m1,v,D _ k,rfl,?_⟩;rw[l,filter_append];simp[q]) (fun Z1 m1 a h=>by rw[h.2.1];exact M) xs.length 0 Z m [] 'o' ⟨K,rfl,by simp⟩
 subst J I;exact⟨d,by rw[L,Vg]⟩
theorem Bg(h:bS m w=some xs):∃s,srcOf m w=some s/\(∀i,s.get m i=Src.get (.tup xs) m i)/\s.len m=xs.length:=by
 cases w with
 |tup a=>erw[bS] at h;cases h;exact⟨.tup xs,rfl,λ _=>rfl,rfl⟩
 |fz a=>erw[bS,getL] at h;cases h;exact⟨.tup xs,rfl,λ _=>rfl,rfl⟩
 |ref n=>
  erw[bS,getL] at h;split at h
  .ext a e;cases h;exact⟨.lst n,by simp[srcOf,getL,e],λ i=>gk e i,by simp[Src.len,getL,e]⟩
  .cases h
 |_=>simp[bS,getL] at h
theorem gm(h:getL m w=some xs):bS m w=some xs:=by
 cases w with
 |tup a=>cases h
 |_=>exact h
theorem bX(h:bS m w=some xs):bA .len [w] m=.ok (.int xs.length) m:=by
 cases w with
 |str z=>simp[bS,getL] at h
 |_=>erw[bA,h]
theorem DS{xs:List α}(h:i<xs.length):L2.uF xs (i:Int)=some xs[i]:=by
 have d:(0:Int)<=i:=by lia
 have a:(i:Int)<xs.length:=by lia
 erw[L2.uF,L2.BE,d,a,RQ,Option.bind_some,S4,Rj h]
theorem bY(h:bS m w=some xs)(hi:i<xs.length):aY w (.int i) m=.ok xs[i] m:=by
 cases w with
 |str z=>simp[bS,getL] at h
 |_=>erw[aY,h,DS hi]
theorem IJ(h:bS m w=some xs):∃s,nu w m=.ok s m/\(∀i,s.get m i=Src.get (.tup xs) m i)/\s.len m=xs.length:=by
 let⟨s,g,d,a⟩:=Bg h;refine⟨s,?_,d,a⟩;have:zf m w=some s:=by
  cases w with
  |str z=>simp[bS,getL] at h
  |_=>exact g
 erw[nu,this]
theorem pU{b:Bool}(a:bq C e Z m=(aq C e Z m).bind λ w m=>D.truthy m w)(h:aq C e Z m=.ok (.bl b) m1):bq C e Z m=.ok b m1:=by rw[a,h];rfl
theorem bK(f:Nat)(es:Es):aq (Cn p n) (.call f es) Z m=(aS (Cn p n) es Z m).bind λ ws m=>aT (D.runN p n f) ws m:=rfl
theorem pV(o:E)(f:Str)(es:Es):aq (Cn p n) (.mth o f es) Z m=(aq (Cn p n) o Z m).bind λ x m=>match nk p.cs x f m with
  |some i=>(aS (Cn p n) es Z m).bind λ ws m=>aT (D.runN p n i) (x::ws) m
  |none=>.no:=rfl
theorem lT(a:E)(f:Str):aq (Cn p n) (.fld a f) Z m=(aq (Cn p n) a Z m).bind λ x m=>jY p.cs x f m:=rfl
end D
namespace D
open PySem PySem.Spec PyProof.Rows L2 List
variable{C:Addr}{h:Heap}{i:Nat}{o:Option (Option Value)}{α:Type}
abbrev Tb:Type:=Str×Stmt
def Tb.x(t:Tb):Str:=match t.2 with
 |.FunctionDef n _ _ _ _ _ _ _ _ _=>n
 |_=>""
def Tb.ps(t:Tb):List Str:=(gQ t.2).args.map (·.arg)
def Tb.nm(t:Tb):List (Str×NameKind):=(aJ t.2).names
def Tb.N(t:Tb):List Str:=
 let a:=t.ps++(t.nm.filter λ p=>(p.2==.local||p.2==.cell)&&!t.ps.contains p.1).map (·.1)
 a++((aJ t.2).more.filterMap λ p=>if p.1=("fast":Str) then (match p.2 with
  |.str x=>some x
  |_=>none) else none).filter λ x=>!a.contains x
def LS:ScopeKind->Bool
 |.function=>true
 |_=>false
def Tb.sc(t:Tb):Bool:=LS (aJ t.2).kind&&!(aJ t.2).isCoroutine&&!(aJ t.2).isGenerator&&decide t.N.Nodup&&t.N.take t.ps.length==t.ps&&t.ps.all (λ x=>t.nm.lookup x==some .local||t.nm.lookup x==some .cell)&&t.nm.all λ y=>y.2 != .free
section
variable(K:ae)(p:Pg)(fns:List (Str×(Nat×Nat)))(gl:List (Str×W))(fz:List Pos)(T:List Tb)
def Tb.a(t:Tb):Addr:=match (if t.1=("":Str) then PySem.W.nsIn K mainGlobals t.x else PySem.W.findIn K (.ref (ai K t.1)) t.x) with
 |some (some (.ref f))=>f
 |_=>0
def Tb.get(t:Tb)(f:FuncData->α)(d:α):α:=match K.lookup (t.a K) with
 |some o=>match o.data with
  |.func g=>f g
  |_=>d
 |none=>d
def Tb.fd(t:Tb):FuncData:=PySem.W.fnOf t.x (t.get K (·.qualname) "") (gQ t.2) (cH t.2) (aJ t.2) .none .none .none (t.get K (·.pyModule) .none) none (t.get K (·.code) .none) .none
def Bh(o:Option (Option Value))(f:Addr):Bool:=match o with
 |some (some (.ref g))=>g==f
 |_=>false
def IK(o:Option (Option Value)):Bool:=match o with
 |some none=>true
 |_=>false
def isA(o:Option (Option Value)):Bool:=match o with
 |some (some (.builtin b))=>b=="object.__setattr__"
 |_=>false
def PM(o:Option (Option Value))(w:W):Bool:=match o with
 |some (some (.int i _))=>(match w with
  |.int j=>i==j
  |_=>false)
 |some (some (.str i _))=>(match w with
  |.str j=>i==j
  |_=>false)
 |_=>false
def LU(C:Addr):Bool:=PySem.W.plainGet K C Str.empty&&PySem.W.hasDictIn K C&&PySem.W.plainOver K C&&isA (PySem.W.findIn K (.ref C) "__setattr__")
def Jo(o:Option (Option Value))(s:String):Bool:=match o with
 |some (some (.builtin x))=>x==s
 |_=>false
def IL(C:Addr):Bool:=LU K C&&Jo (PySem.W.findIn K (.ref C) "__class__") "object.__class__"&&Jo (PySem.W.specialIn K (.builtin "object.__class__") "__get__") "getset_descriptor.__get__"&&PySem.W.takesIn K (.builtin "object.__class__")==some true&&PySem.W.mroIn K C (.type "object")==some true
def IM:Value->Tok
 |.int _ t=>t
 |.str _ t=>t
 |_=>0
def QB(w:W)(t:Tok):Value:=match w with
 |.int i=>.int i t
 |.str x=>.str x t
 |_=>.none
def vV:W->V
 |.int i=>.int i
 |.str x=>.str x
 |_=>.non
def Bj:List Value->List W->Bool
 | [],[]=>true
 |.str x _::r,.str y::s=>x==y&&Bj r s
 |_,_=>false
def isGT(v:Option (Option Value))(w:W):Bool:=match v with
 |some (some (.ref a))=>match w with
  |.tup ws=>match K.lookup a with
   |some o=>match o.data with
    |.seq its _=>o.cls==.type "tuple"&&o.dict.isNone&&decide (its.size<=100)&&Bj its.toList ws
    |_=>false
   |none=>false
  |_=>false
 |_=>false
def OC:W->Bool
 |.int _=>true
 |.str _=>true
 |_=>false
def OD(x:Str):Array DictEntry×Nat:=match K.lookup (ai K x) with
 |some o=>match o.data with
  |.dict a n=>(a,n)
  |_=>(#[],0)
 |none=>(#[],0)
def rL(P:Params):List (Str×W)->List DictEntry->List DictEntry
 |kv::r,e::es=>⟨PyData.keyHash P kv.1,.str kv.1 (IM e.key),QB kv.2 (IM e.val)⟩::rL P r es
 |_,_=>[]
def LV(P:Params)(y:Str×List (Str×W)):Obj:=⟨.type "dict",none,.dict (rL P y.2 (OD K y.1).1.toList).toArray (OD K y.1).2,#[]⟩
def LW(i:Nat)(x:Str)(q:Tb->Bool):Bool:=match T[i]? with
 |some t=>t.x==x&&q t
 |none=>false
def IP(C:Addr):Bool:=match K.lookup C with
 |some o=>match o.data with
  |.cls cd=>o.cls==.type "type"&&cd.mro.head?==some (.ref C)&&decide (o.slots.toList.length=6)&&o.slots.toList[4]?==some @(.builtin "ValueError.__new__")&&!cd.hasDel&&cd.hasDict&&PySem.W.tailIn K VE cd.mro.tail&&PySem.W.nsOkIn K cd.ns&&PySem.W.keepIn K (.ref C)&&isA (PySem.W.findIn K (.ref C) "__setattr__")
  |_=>false
 |none=>false
def vP(C:Addr):Option (Option Value):=match PySem.W.clsIn K C with
 |some cd=>PySem.W.nsIn K cd.ns "__init__"
 |none=>none
def DT(C:Addr):List Value:=match PySem.W.clsIn K C with
 |some cd=>cd.mro.tail
 |none=>[]
def IQ:Expr->Option (Expr×Str)
 |.Attribute e g _=>some (e,g)
 |_=>none
theorem DU{e a:Expr}{g:Str}(h:IQ e=some (a,g)):∃p,e=.Attribute a g p:=by
 unfold IQ at h;split at h
 .cases h;exact⟨_,rfl⟩
 .cases h
def IT:List Stmt->Option (Expr×Expr)
 | [.Assign [t] v _]=>some (t,v)
 |_=>none
theorem DV{l:List Stmt}{t v:Expr}(h:IT l=some (t,v)):∃p,l=[.Assign [t] v p]:=by
 unfold IT at h;split at h
 .cases h;exact⟨_,rfl⟩
 .cases h
def Bk(t:Tb)(f:Str):Bool:=match IT (cH t.2) with
 |some (a,v)=>match IQ a with
  |some (o,g)=>match Fx o,Fx v with
   |some (s,_),some (v,_)=>t.ps==[s,v]&&t.N==[s,v]&&g==f&&!special s&&!special v
   |_,_=>false
  |none=>false
 |none=>false
def PN(y:Str×Option Str):Bool:=IP K (ai K y.1)&&Bh (PySem.W.nsIn K mainGlobals y.1) (ai K y.1)&&Jo (PySem.W.findIn K (.ref (ai K y.1)) "__getattribute__") "BaseException.__getattribute__"&&IK (PySem.W.findIn K (.ref (ai K y.1)) "__getattr__")&&Jo (PySem.W.findIn K (.ref (ai K y.1)) "__class__") "object.__class__"&&match y.2 with
 |none=>vP K (ai K y.1)==some none
 |some f=>T.any λ t=>Bh (vP K (ai K y.1)) (t.a K)&&PySem.W.typeIn K (.ref (t.a K))==some (.type "function")&&IK (PySem.W.findIn K (.ref (ai K y.1)) f)&&Bk t f
def LX:Bool:=p.z.fn.all (λ y=>fns.lookup y.1==some y.2)&&p.z.ini.all (λ y=>p.cs.ini.lookup y.1==some y.2)&&p.z.cls.all (PN K T) &&
 (p.z.cls.all λ y=>((p.z.sub.lookup y.1).getD []).all λ c=>(p.z.cls.lookup c).isSome&&(Value.ref (ai K c)::DT K (ai K c)).contains (.ref (ai K y.1))) &&
 p.z.sub.all λ y=>(if y.1="ValueError" then IK (PySem.W.nsIn K mainGlobals y.1) else Bh (PySem.W.nsIn K mainGlobals y.1) (ai K y.1))&&p.z.cls.all λ d=>PySem.W.kitOne K (.ref (ai K d.1)) (qB K y.1)==@(y.2.contains d.1)
def Jp:Bool:=
 LX K p fns T &&
 (jF.all λ x=>IK (PySem.W.nsIn K mainGlobals x))&&(gl.all λ y=>PM (PySem.W.nsIn K mainGlobals y.1) y.2
 || isGT K (PySem.W.nsIn K mainGlobals y.1) y.2
 ) &&
 (fns.all λ y=>LW T y.2.1 y.1 λ t=>t.ps.length==y.2.2&&Bh (PySem.W.nsIn K mainGlobals y.1) (t.a K)) &&
 (p.cs.mths.all λ y=>LU K (ai K y.1.1)&&LW T y.2 y.1.2 λ t=>Bh (PySem.W.findIn K (.ref (ai K y.1.1)) y.1.2) (t.a K)&&PySem.W.isFn K (.ref (t.a K))) &&
 (p.cs.ini.all λ y=>PySem.W.makesIn K (ai K y.1)&&PySem.W.keepIn K (.ref (ai K y.1))&&Bh (PySem.W.nsIn K mainGlobals y.1) (ai K y.1)&&LW T y.2 "__init__" λ t=>Bh (PySem.W.findIn K (.ref (ai K y.1)) "__init__") (t.a K)&&PySem.W.isFn K (.ref (t.a K))) &&
 (p.cs.flds.all λ y=>LU K (ai K y.1)&&IK (PySem.W.findIn K (.ref (ai K y.1)) y.2)) &&
 (p.cs.dic.all λ y=>Bh (PySem.W.nsIn K mainGlobals y.1) (ai K y.1)&&y.2.all (λ b=>OC b.2)&&y.2.length==(OD K y.1).1.toList.length&&!(ai K y.1==sysModules)) &&
 (p.cs.isc.all λ x=>Bh (PySem.W.nsIn K mainGlobals x) (ai K x)&&IL K (ai K x)) &&
 T.all λ t=>PySem.W.keepIn K (.ref (t.a K))&&PySem.W.codeIn K (t.fd K).code (t.fd K).qualname
structure Stat:Prop where
 c:T.map (λ t=>(sA (cB p ⟨t.N,t.nm,fns,gl,p.cs,fz⟩) (cH t.2)).map (Fn.mk t.ps.length t.N.length))=p.fns.map some
 s:T.all Tb.sc=true
 b:T.map (λ t q pm cd (f:Nat->Value)=>bindArgs (PySem.W.fnOf t.x q (gQ t.2) (cH t.2) (aJ t.2) .none .none .none pm none cd .none) ⟨(List.range t.ps.length).map f,[]⟩)=T.map λ t q pm cd f=>pure (t.ps.zip ((List.range t.ps.length).map f))
end
variable{K:ae}{p:Pg}{fns:List (Str×(Nat×Nat))}{gl:List (Str×W)}{fz:List Pos}{T:List Tb}
theorem ue{J:Type}{f g:α->J}{l:List α}(h:l.map f=l.map g){x:α}(a:l[i]?=some x):f x=g x:=by
 have e:=TR (λ l=>l[i]?) h;simpa[a] using e
theorem eL{f:Addr}(h:Bh o f=true):o=some @(.ref f):=by
 unfold Bh at h;split at h
 .rw[eq_of_beq h]
 .cases h
theorem lU(h:IK o=true):o=some none:=by
 unfold IK at h;split at h
 .rfl
 .cases h
theorem Bl(h:isA o=true):o=some @(.builtin "object.__setattr__"):=by
 unfold isA at h;split at h
 .rw[eq_of_beq h]
 .cases h
theorem uf(h:LU K C=true):wH K C:=by
 erw[LU,Q5] at h;exact⟨h.1.1.1,h.1.1.2,h.1.2,Bl h.2⟩
theorem pW{s:String}(h:Jo o s=true):o=some @(.builtin s):=by
 unfold Jo at h;split at h
 .rw[eq_of_beq h]
 .cases h
theorem DW(h:IL K C=true):HA K C:=by
 erw[IL,Q5] at h;exact⟨uf h.1.1.1.1,pW h.1.1.1.2,pW h.1.1.2,eq_of_beq h.1.2,eq_of_beq h.2⟩
theorem pX{x:Str}{q:Tb->Bool}(h:LW T i x q=true):∃t,T[i]?=some t/\t.x=x/\q t=true:=by
 unfold LW at h;split at h
 .ext t e;rw[Q5] at h;exact⟨t,e,eq_of_beq h.1,h.2⟩
 .cases h
theorem Bm(us:List Value):(List.range us.length).map (λ i=>us.getD i .none)=us:=by
 apply ext_getElem
 .simp
 .intro i b a;simp[List.getD,a]
theorem FP(S:Stat p fns gl fz T){t:Tb}(a:T[i]?=some t){us:List Value}(c:us.length=t.ps.length):bindArgs (t.fd K) ⟨us,[]⟩=pure (t.ps.zip us):=by
 have z:=congrFun (congrFun (congrFun (congrFun (ue S.b a) (t.get K (·.qualname) "")) (t.get K (·.pyModule) .none)) (t.get K (·.code) .none)) (λ i=>us.getD i .none);rw[<-c,Bm] at z;exact z
theorem FQ(S:Stat p fns gl fz T)(j:T.map (λ t=>(K.lookup (t.a K)).map Obj.data)=T.map λ t=>some (.func (t.fd K)))(g:T.all (λ t=>PySem.W.keepIn K (.ref (t.a K))&&PySem.W.codeIn K (t.fd K).code (t.fd K).qualname)=true)
 {t:Tb} (b:T[i]?=some t):(∃q,ED K t.x q t.2 (t.a K) (t.fd K))/\fV t.N t.ps (aJ t.2)/\Binds K (t.fd K) t.ps []:=by
 have c:=RP b;have k:=RI.mp g t c;rw[Q5] at k;have e:=ue j b;rw[Q0] at e;let⟨o,m,l⟩:=e;let⟨u,r,v,d⟩:=o;cases l;have F:=GY (st:=t.2) m k.2 k.1;have s:=RI.mp S.s t c;erw[Tb.sc,Q5,RS,Sa,TN,Tw,RT,bne_iff_ne] at s;refine⟨⟨_,F⟩,⟨?_,s.1.1.1.1.1.2,s.1.1.1.1.2,s.1.1.1.2,s.1.1.2,s.1.2,s.2⟩,Binds.all λ n f=>?_⟩
 .have z:=s.1.1.1.1.1.1;unfold LS at z;split at z
  .assumption
  .cases z
 .exact FP S b f
theorem vQ(S:Stat p fns gl fz T)(m:T.map (λ t=>(K.lookup (t.a K)).map Obj.data)=T.map λ t=>some (.func (t.fd K)))(k:T.all (λ t=>PySem.W.keepIn K (.ref (t.a K))&&PySem.W.codeIn K (t.fd K).code (t.fd K).qualname)=true)
 {t:Tb} (e:T[i]?=some t):FD K p fns gl fz i t.x (t.a K) (t.fd K) t.ps:=by
 let⟨⟨q,F⟩,j,s⟩:=FQ S m k e;have c:(sA (cB p ⟨t.N,t.nm,fns,gl,p.cs,fz⟩) (cH t.2)).map (Fn.mk t.ps.length t.N.length)=p.fns[i]?:=by
  have z:=TR (λ l=>l[i]?) S.c;erw[Td,e,S2] at z;cases f:p.fns[i]? with
  |none=>rw[f] at z;cases z
  |some d=>rw[f] at z;exact R1 z
 have g:i<p.fns.length:=by
  have z:=TR List.length S.c;erw[Rn] at z;have:=(Q4.mp e).1;lia
 rw[Rj g,Q0] at c;let⟨b,r,n⟩:=c;exact⟨q,t.2,t.N,b,F,j,r,by rw[Rj g,<-n],s⟩
theorem rM{P:Params}:∀(a:List (Str×W)) (es:List DictEntry),PySem.W.KeysLit P (rL P a es)
 | [],_=>by unfold rL;rw[T5];trivial
 |_::_,[]=>by unfold rL;rw[T5];trivial
 |kv::r,e::es=>by
  unfold rL;rw[T5];exact⟨⟨_,_,rfl,rfl⟩,rM r es⟩
theorem rN{P:Params}{x:Str}:∀(a:List (Str×W)) (es:List DictEntry),a.length=es.length->a.all (λ b=>OC b.2)=true->eN ((a.map λ b=>(b.1,vV b.2)).lookup x) (((rL P a es).find? λ e=>Value.isStrOf x e.key).map (·.val))
 | [],[],_,_=>trivial
 | [],_::_,h,_=>by simp at h
 |_::_,[],h,_=>by simp at h
 |(k,w)::r,e::es,h,hc=>by
  rw[Ux,Q5] at hc;have d:=rN (P:=P) (x:=x) r es (~~~h) hc.2;unfold rL;rw[RU,Rl,Tz];have e1:Value.isStrOf x (Value.str k (IM e.key))=(k==x):=rfl;erw[e1]
  by_cases c:k=x
  .subst c;erw[BEq.rfl,S2];cases w<;>first | exact⟨_,rfl⟩ | cases hc.1
  .have g:(x==k)=false:=by simpa using λ e=>c e.symm
   have f:(k==x)=false:=by simpa using c
   rw[g,f];exact d
theorem FT{J:List Addr}{H:Hp}:∀(a:List (Str×W)),a.all (λ b=>OC b.2)=true->fL K J H a (a.map λ b=>(b.1,vV b.2))
 | [],_=>.nil
 |(k,w)::r,hc=>by
  rw[Ux,Q5] at hc;refine .cons ?_ (FT r hc.2);cases w<;>first | exact .int _ | exact .str _ | cases hc.1
theorem rO{K:ae}{J:List Addr}{H:Hp}:∀{its:List Value} {ws:List W},Bj its ws=true->Vals (ws.map vV) its/\aU K J H ws (ws.map vV)
 | [],[],_=>⟨.nil,.nil⟩
 | [],_::_,h=>by cases h
 |v::r,[],h=>by cases v<;>cases h
 |v::r,w::s,h=>by
  cases v with
  |str x tk=>
   cases w with
   |str y=>
    let⟨d,c⟩:=Rg.mp h;cases eq_of_beq d;let⟨b,a⟩:=rO (K:=K) (J:=J) (H:=H) c;exact⟨.cons ⟨_,rfl⟩ b,.cons (.str _) a⟩
   |_=>cases h
  |_=>cases h
theorem DX{c:Str->Option Value}{x:Str}{w:W}(X:K.In h)(G:h.Ns mainGlobals c)(z:isGT K (PySem.W.nsIn K mainGlobals x) w=true):∃u v,c x=some u/\RelV v u/\∀J H,RW K J H w v:=by
 unfold isGT at z;split at z
 .ext a e;split at z
  .ext r;split at z
   .ext o m;split at z
    .ext b n q;erw[Q5,Sa] at z;let⟨⟨⟨g,j⟩,f⟩,d⟩:=z;refine⟨.ref a,.ref a,SD X G e,rfl,fun J H=>?_⟩;let⟨l,k⟩:=rO (K:=K) (J:=J) (H:=H) d;exact .tup (.inr ⟨o,b,n,⟨m,Option.isNone_iff_eq_none.mp j⟩,eq_of_beq g,q,Rv f 'k',l⟩) k
    .cases z
   .cases z
  .cases z
 .cases z
theorem LY{w:World}(q:p.cs.dic.map (λ y=>K.lookup (ai K y.1))=p.cs.dic.map λ y=>some (LV K w.params y)){u:Str->Option Value}(X:K.In h)(G:h.Ns mainGlobals u)(S:Stat p fns gl fz T)(n:T.map (λ t=>(K.lookup (t.a K)).map Obj.data)=T.map λ t=>some (.func (t.fd K)))(B:Jp K p fns gl T=true):FA K w u p fns gl fz:=by
 erw[Jp,Q5] at B;let⟨⟨⟨⟨⟨⟨⟨⟨l,N⟩,M⟩,L⟩,I⟩,F⟩,E⟩,D⟩,k⟩:=B;replace l:=l.2;have k:T.all (λ t=>PySem.W.keepIn K (.ref (t.a K))&&PySem.W.codeIn K (t.fd K).code (t.fd K).qualname)=true:=k;rw[TN] at l N M L I F E D;have R:∀{i:Nat} {t:Tb},T[i]?=some t->PySem.W.keepIn K (.ref (t.a K))=true:=λ U=>(Rg.mp (RI.mp k _ (RP U))).1;refine⟨λ x b=>PySem.W.mg_none_of X G (lU (l x b)),λ {x w} b=>?_,λ {x i np} b=>?_,λ {c x i} b=>?_,λ {c i} b=>?_,λ {c x} b=>?_,λ {x f} b=>?_,λ {x} b=>?_⟩
 .have z:=N _ (lookup_mem b);rcases Bool.or_eq_true_iff.mp z with m | m
  rotate_left
  .exact DX X G m
  replace z:=m;unfold PM at z;split at z
  .ext i t e;split at z
   .ext j r;cases r;cases eq_of_beq z;exact⟨_,.int _,SD X G e,⟨_,rfl⟩,λ _ _=>.int _⟩
   .cases z
  .ext i t e;split at z
   .ext j r;cases r;cases eq_of_beq z;exact⟨_,.str _,SD X G e,⟨_,rfl⟩,λ _ _=>.str _⟩
   .cases z
  .cases z
 .let⟨t,g,rfl,d⟩:=pX (M _ (lookup_mem b));rw[Q5] at d;exact⟨t.a K,_,t.ps,eq_of_beq d.1,vQ S n k g,SD X G (eL d.2)⟩
 .have z:=L _ (rF b);rw[Q5] at z;let⟨t,g,rfl,d⟩:=pX z.2;rw[Q5] at d;exact⟨t.a K,_,t.ps,vQ S n k g,uf z.1,eL d.1,d.2,R g⟩
 .have z:=I _ (lookup_mem b);erw[Q5] at z;let⟨t,g,Y,d⟩:=pX z.2;rw[Q5] at d;exact⟨t.a K,_,t.ps,Y▸vQ S n k g,⟨z.1.1.1,eL d.1,d.2,z.1.1.2⟩,SD X G (eL z.1.2)⟩
 .have z:=F _ (Tg.mp b);rw[Q5] at z;exact⟨uf z.1,lU z.2⟩
 .have A:=lookup_mem b;have z:=E _ A;erw[Q5,RT,RS] at z;let⟨⟨⟨Q,s⟩,P⟩,O⟩:=z;let⟨i,V⟩:=U9 A;have e:=ue q V;refine⟨ai K x,f.map λ v=>(v.1,vV v.2),SD X G (eL Q),⟨⟨_,_,e,?_,λ y=>?_⟩,O⟩,fun J H=>FT f s⟩
  .exact rM _ _
  .unfold findBy;rw[find?_toArray];exact rN f _ P s
 .have z:=D _ (Tg.mp b);rw[Q5] at z;exact⟨SD X G (eL z.1),DW z.2⟩
theorem DY{l:List α}{a:α}(h:l.head?=some a):l=a::l.tail:=by
 cases l with
 |nil=>cases h
 |cons b r=>cases h;rfl
theorem vR{i:Option Value}(h:IP K C=true)(hi:vP K C=some i):XC K C (DT K C) i:=by
 unfold IP at h;split at h
 .ext o A;let⟨oc,Y,da,⟨v⟩⟩:=o;dsimp only at h;split at h
  .ext Z;let⟨z,E,f,y,w,hd,u,a,F,c,V⟩:=Z;erw[Q5,RT,Sa,RS] at h;let⟨⟨⟨⟨⟨⟨⟨⟨⟨S,R⟩,Q⟩,D⟩,P⟩,O⟩,N⟩,d⟩,M⟩,L⟩:=h;subst S P O;have J:PySem.W.clsIn K C=some ⟨z,E,f,y,w,true,u,a,F,c,false⟩:=by unfold PySem.W.clsIn;rw[A]
   unfold vP at hi;unfold DT;rw[J] at hi ⊢;dsimp only at hi ⊢;obtain⟨m,l,k,j,g,rfl⟩:∃m l k j g,v=[m,l,k,j,@(.builtin "ValueError.__new__"),g]:=by
    rcases v with _ | ⟨a0,_ | ⟨a1,_ | ⟨a2,_ | ⟨a3,_ | ⟨a4,_ | ⟨a5,_ | ⟨a6,r⟩⟩⟩⟩⟩⟩⟩<;>simp at Q;erw[getElem?_cons_succ,getElem?_cons_zero,Option.some.injEq] at D;exact⟨a0,a1,a2,a3,a5,by rw[D]⟩
   unfold PySem.W.nsOkIn at d;split at d
   .ext c' d' s H G B;have I:StrKeys s:=λ e b=>by
     have q:=Array.all_eq_true_iff_forall_mem.mp d e b;split at q
     .ext n t U;exact⟨n,t,U⟩
     .cases q
    refine⟨⟨z,w,y,E,u,a,F,c,Y,m,l,k,j,g,"ValueError","ValueError.__new__",_,_,λ x=>nsFind s x,?_,SY,by decide +kernel,?_,λ h X=>⟨⟨_,s,H,X _ _ B,rfl,I,λ _=>rfl⟩,PySem.W.tail_of_in X N⟩⟩,Bl L,M⟩
    .rw[A,DY R];rfl
    .unfold PySem.W.nsIn at hi;rw[B] at hi;dsimp only at hi;unfold nsFind findBy;dsimp only;rw[<-Array.find?_toList];split at hi
     .ext e b;rw[b];exact R1 hi
     .ext b;split at hi
      .cases hi
      .rw[b];exact R1 hi
   .cases d
  .cases h
 .cases h
theorem LZ{mg:Str->Option Value}(X:K.In h)(G:h.Ns mainGlobals mg)(S:Stat p fns gl fz T)(B:T.map (λ t=>(K.lookup (t.a K)).map Obj.data)=T.map λ t=>some (.func (t.fd K)))(l:Jp K p fns gl T=true):FZ K mg p fns:=by
 erw[Jp,Q5] at l;let⟨⟨⟨⟨⟨⟨⟨⟨D,c2⟩,c3⟩,c4⟩,c5⟩,c6⟩,c8⟩,c9⟩,O⟩:=l;replace D:=D.1;have O:T.all (λ t=>PySem.W.keepIn K (.ref (t.a K))&&PySem.W.codeIn K (t.fd K).code (t.fd K).qualname)=true:=O;erw[LX,Q5] at D;let⟨⟨⟨⟨V,U⟩,R⟩,Q⟩,E⟩:=D;rw[TN] at V U R Q E;have N:∀{y:Str×Option Str},y∈p.z.cls->∃i,XC K (ai K y.1) (DT K (ai K y.1)) i/\XG K (ai K y.1)/\PySem.W.nsIn K mainGlobals y.1=some @(.ref (ai K y.1))/\(y.2=none->i=none)/\∀f,y.2=some f->∃t,t∈T/\i=some (.ref (t.a K))/\PySem.W.typeIn K (.ref (t.a K))=some (.type "function")/\PySem.W.findIn K (.ref (ai K y.1)) f=some none/\Bk t f=true:=λ {y} hy=>by
  have q:=R _ hy;unfold PN at q;erw[Q5] at q;let⟨⟨⟨⟨⟨A,u⟩,r⟩,J⟩,I⟩,b⟩:=q;have m:XG K (ai K y.1):=⟨pW r,lU J,pW I⟩;split at b
  .ext e;exact⟨none,vR A (eq_of_beq b),m,eL u,λ _=>rfl,λ f B=>by rw[e] at B;cases B⟩
  .ext f e;let⟨t,L,n⟩:=List.any_eq_true.mp b;erw[Q5,RT] at n;refine⟨some (.ref (t.a K)),vR A (eL n.1.1.1),m,eL u,λ z=>(by rw[e] at z;cases z),λ g hg=>?_⟩;rw[e] at hg;cases hg;exact⟨t,L,rfl,n.1.1.2,lU n.1.2,n.2⟩
 refine⟨λ {x v} d=>?_,λ {x i} d=>?_,λ {x M} d=>?_,λ {x M cs} d hs c l=>?_,λ {t cs} hs=>⟨?_,λ {c M} l=>?_⟩,λ {c M} hm=>?_⟩
 .exact eq_of_beq (V _ (lookup_mem d))
 .exact eq_of_beq (U _ (lookup_mem d))
 .let⟨i,k,m,A,u,r⟩:=N (lookup_mem d);refine⟨SD X G A,λ e=>⟨_,u e▸k⟩,λ f e=>?_⟩;let⟨t,L,rfl,J,I,b⟩:=r f e;let⟨j,hj⟩:=U9 L;let⟨⟨qn,F⟩,H,bd⟩:=FQ S B O hj;unfold Bk at b;split at b
  rotate_left
  .cases b
  ext u0 u1 w1;split at b
  rotate_left
  .cases b
  ext u2 g w2;split at b
  .ext s p1 v p3 w3 w4;let⟨p4,e1⟩:=DV w1;let⟨p2,rfl⟩:=DU w2;cases jG w3;cases jG w4;erw[Q5,RT,RS] at b;let⟨⟨⟨⟨Y,y2⟩,y3⟩,y4⟩,y5⟩:=b;subst y3;rw[Y,y2] at H;let⟨a1,a2,_⟩:=aZ y4;let⟨b1,b2,_⟩:=aZ y5;have Z:∀x∈[s,v],Eo (aJ t.2) x:=λ x d=>(H.par x d).elim .inl λ z=>.inr (.inl z);refine⟨_,t.a K,t.fd K,[s,v],k,J,λ P w base=>?_,by rw[<-Y];exact bd,rfl⟩;exact CY F H e1 k I (Z s (.head _)) (Z v (.tail _ (.head _))) a1 a2 b1 b2 λ env=>gj rfl
  .cases b
 .have q:=Q _ (lookup_mem d);dsimp only at q;rw[hs,UQ] at q;have q:=RI.mp q c (Tg.mp l);rw[Q5] at q;let⟨fo',e⟩:=S6.mp q.1;let⟨i,k,_⟩:=N (lookup_mem e);exact⟨_,i,k,q.2⟩
 .have q:=(Rg.mp (E _ (lookup_mem hs))).1;dsimp only at q;unfold qB;split at q
  .ext e;rw[Rf e,e];exact .inr ⟨PySem.W.mg_none_of X G (lU (e▸q)),by decide +kernel⟩
  .ext e;rw[Ri e];exact .inl (SD X G (eL q))
 .exact eq_of_beq (RI.mp (Rg.mp (E _ (lookup_mem hs))).2 _ (lookup_mem l))
 .let⟨i,k,m,_,u,r⟩:=N hm;exact⟨_,i,k,m,λ f e=>let ⟨_,_,_,_,q,_⟩:=r f e;q⟩
theorem L4{l:PySem.W.OpenLaw}{w:World}{c:Str->Option Value}{m:Addr}{x:Str}{t:Tb}(X:K.In h)(G:h.Ns mainGlobals c)(A:c "law"=@(.ref m))(S:Stat p fns gl fz T)(hi:fns.lookup ("law":Str)=some (i,1))(e:T[i]?=some t)(d:t.ps=[x])
  (f:T.map (λ t=>(K.lookup (t.a K)).map Obj.data)=T.map λ t=>some (.func (t.fd K))) (j:Jp K p fns gl T=true) (g:p.cs.dic.map (λ y=>K.lookup (ai K y.1))=p.cs.dic.map λ y=>some (LV K w.params y)) :
  ∃k:FuncData,(∀(s:Shared) (v:Value),BindsTo s k ⟨[v],[]⟩ [(x,v)])/\∀base:Heap,K.In base->base.Ns mainGlobals c->cg l.prog w K c base (yi l.prog w) 81 m k [x] (u5 K ⟨l.prog,w⟩ 1 (runN p 40 i)):=by
 have b:=j;erw[Jp,Q5] at b;let⟨⟨⟨⟨⟨⟨⟨⟨M,L⟩,u⟩,J⟩,I⟩,H⟩,F⟩,E⟩,r⟩:=b;let⟨B,q,D,n⟩:=pX (RI.mp u _ (lookup_mem hi));cases e.symm.trans q;rw[Q5] at n;cases A.symm.trans (SD X G (eL n.2));have z:=vQ S f r e;rw[d] at z;refine⟨t.fd K,λ s v=>.of_eq ?_,λ base _ _=>sound (LY g X G S f j)
  (LZ X G S f j)
  40 z⟩
 have z:=FP (K:=K) S e (us:=[v]) (by rw[d];rfl);rw[d] at z;exact z
end D
namespace D
open PySem List
variable{m:Mem}{n:Nat}
abbrev iA(A B:Int):O:=.lst [.int A,.int B]
def lV(m:Mem)(p:Nat):Prop:=∃A B,m[p]?=@(iA A B)
def PS(p:Nat)(m a:Mem):Prop:=∃A B,a=m.set p (iA A B)
section
variable{m m' PR:Mem}{p q:Nat}
theorem lV.refl(h:lV m p):PS p m m:=let ⟨A,B,e⟩:=h;⟨A,B,(set_same e).symm⟩
theorem PS.trans(h:PS p m m')(h':PS p m' PR):PS p m PR:=by
 let⟨A,B,rfl⟩:=h;let⟨b,a,rfl⟩:=h';exact⟨b,a,by rw[UG]⟩
theorem PS.len(h:PS p m m'):m'.length=m.length:=by let⟨A,B,rfl⟩:=h;simp
theorem PS.iA(h:PS p m m')(a:lV m p):lV m' p:=by
 let⟨A,B,rfl⟩:=h;let⟨c,b,e⟩:=a;exact⟨A,B,RH (Q4.mp e).1⟩
theorem PS.cm(h:PS p m m')(a:Cm m):Cm m':=by let⟨A,B,rfl⟩:=h;exact a.set rfl
theorem PS.ne(h:PS p m m')(a:p≠q):m'[q]?=m[q]?:=by let⟨A,B,rfl⟩:=h;exact RN a
theorem lV.lt(h:lV m p):p<m.length:=let ⟨_,_,e⟩:=h;(Q4.mp e).1
theorem lV.app{l:Mem}(h:lV m p):lV (m++l) p:=let ⟨A,B,e⟩:=h;⟨A,B,by rw[Rc (Q4.mp e).1];exact e⟩
end
def Draws(f:List W->Mem->R W):Prop:=∀{m:Mem} {p:Nat} {a:Int},lV m p->0<a->a<1073741824->∃d b,f [.ref p,.int a] m=.ok (.int d) b/\PS p m b/\0<=d/\d<a
theorem pY{z:Str}(h:z.cps.all (· < 0x110000)=true):toD (n+1) m (.str z)=some (.str z):=by erw[toD,h,RQ]
theorem dI:∀{ws:List Str},(∀z∈ws,z.cps.all (· < 0x110000)=true)->eO (toD (n+1) m) (ws.map .str)=@(ws.map PyData.str)
 | [],_=>rfl
 |z::r,h=>by
  erw[RU,eO,pY (h z RG),dI λ y a=>h y (Ro _ a)]
theorem vS(a b:Str):PyData.eqv (.str a) (.str b)=decide (a=b):=by
 erw[PyData.eqv]
 by_cases h:a=b<;>simp[h]
theorem rP{z:Str}{ws:List Str}(a:z.cps.all (· < 0x110000)=true)(hw:∀z∈ws,z.cps.all (· < 0x110000)=true):jq m (.str z) (ws.map .str)=.ok (decide (z∈ws)) m:=by
 erw[jq,pY a,dI hw];congr 1;rw[any_map]
 induction ws with
 |nil=>simp
 |cons y r b=>
  have:=b λ z a=>hw z (Ro _ a);erw[TZ,Function.comp,vS,RM] at this ⊢;rw[this]
  by_cases h:z=y
  .subst h;simp
  .have c:¬y=z:=λ e=>h e.symm;simp[h,c]
theorem jM{xs:List W}:toD (n+1) m (.fz xs)=(eO (toD n m) xs).map .list:=Eq.trans rfl rfl
theorem pZ{xs:List W}:toD (n+1) m (.tup xs)=(eO (toD n m) xs).map .tuple:=Eq.trans rfl rfl
theorem oj{k:Nat}:∀ns:List Int,eO (toD (k+1) m) (ns.map .int)=@(ns.map PyData.int)
 | []=>rfl
 |a::r=>by erw[RU,eO,oj r];rfl
theorem jc{b J:Type}{f:W->Option J}{g:b->W}{h:b->J}:∀{xs:List b},(∀a∈xs,f (g a)=@(h a))->eO f (xs.map g)=@(xs.map h)
 | [],_=>rfl
 |a::r,c=>by erw[RU,eO,c a RG,jc λ x d=>c x (Ro _ d)]
theorem DZ{x y:W}{d:PyData}(a:toD 60 m x=some d)(b:toD 60 m y=some d):qc m x y=.ok true m:=by
 erw[qc,a,b,PySem.SeqAt.eqv_refl d (cJ _ a).1]
end D
namespace My
open PySem L2 D List
def BN:List (Str×W):=[("wire",(.int 2)),("made",(.int 2)),("broken",(.int 2)),("swap",(.int 3)),("coil",(.int 2)),("lamp",(.int 2))]
def b0:Ss:=%[.xc .drop .none 7 %[@1,@2,@3,@4,@5,|@6],.fas @0 "key_list" (.frz (.blt .list %[|@1])),.fas @0 "relay_list" (.frz (.blt .list %[|@2])),.fas @0 "lamp_list" (.frz (.blt .list %[|@3])),.fas @0 "many_nodes" @4,.fas @0 "piece_list" (.frz (.blt .list %[|@5])),|.fas @0 "time_list" (.frz (.blt .list %[|@6]))]
def b1:Ss:=%[|.ret (.blt .list %[|.fld @0 "key_list"])]
def b2:Ss:=%[|.ret (.blt .list %[|.fld @0 "relay_list"])]
def b3:Ss:=%[|.ret (.blt .list %[|.fld @0 "lamp_list"])]
def b4:Ss:=%[|.ret (.fld @0 "many_nodes")]
def b5:Ss:=%[|.ret (.blt .list %[|.fld @0 "piece_list"])]
def b6:Ss:=%[|.ret (.blt .list %[|.fld @0 "time_list"])]
def b7:Ss:=%[.xc .drop .none 8 %[@0,@1,|@2],.xc .drop .none 11 %[@0,@1,|@2],.xc .drop .none 12 %[@3,|.blt .len %[|@4]],.xc .drop .none 13 %[@0,@1,@2,@3,|@4],.xc .drop .none 18 %[@"coil",@1,|@4],.xc .drop .none 18 %[@"lamp",@2,|@4],|.xc .drop .none 19 %[@1,|@5]]
def b8:Ss:=%[.asg (.pt @3) (.call 9 %[|.frz (.bin .Add (.frz (.bin .Add @0 @1)) @2)]),|.ife (.cmp .IsNot @3 (.cst .non)) %[|.rais "NoNet" (.some "fault") (.tup %[@"words",|@3])] .nil]
def D0:Ss:=%[.ife (.or (.not (.call 10 %[|@3])) (.cmp .In @3 @1)) %[|.ret @2] .nil,|.expr (.meth @1 "add" %[|@3])]
def b9:Ss:=%[.asg (.pt @1) .set0,.for_ (.tup %[@2,|@3]) (.enm @0) D0,|.ret (.cst .non)]
def OE:Ss:=%[|.ret (.and (.chain .LtE .LtE @(1) (.blt .len %[|@0]) @(8)) (.blt .all %[|.frz (.comp (.gen @1 [1] @0 .nil (.elt (.chain .LtE .LtE @"a" @1 @"z"))))]))]
def vU:Ss:=%[|.ife (.cmp .Gt (.blt .len %[|@5]) @6) %[|.rais "NoNet" (.some "fault") (.tup %[@"many",|@4])] .nil]
def MP:Ss:=%[.asg (.pt @3) (.tup %[.tup %[@0,|@(2)],.tup %[@1,|@(4)],|.tup %[@2,|@(2)]]),|.for_ (.tup %[@4,|.tup %[@5,|@6]]) (.enm @3) vU]
def L5:Ss:=%[.ife (.not (.chain .LtE .LtE @(2) @0 @(640))) %[|.rais "NoNet" (.some "fault") (.tup %[@"nodes",|@0])] .nil,|.ife (.cmp .Gt @1 @(800)) %[|.rais "NoNet" (.some "fault") (.tup %[@"pieces",|@1])] .nil]
def vW:Ss:=%[|.ife (.not (.call 14 %[@8,@6,|@3])) %[|.rais "NoNet" (.some "fault") (.tup %[@"piece",|@7])] .nil]
def MQ:Ss:=%[.asg (.pt @5) (.frz (.bin .Add @0 @1)),.asg (.pt @6) (.fus (.dict ["made","broken","swap","coil","lamp"]) (.tup %[@5,@5,@5,@1,|@2])),|.for_ (.tup %[@7,|@8]) (.enm @4) vW]
def IU:Ss:=%[.ife (.or (.not @0) (.fus (.knin BN) (.idx @0 @(0)))) %[|.ret (.cst (.bl false))] .nil,.asg (.pt @3) (.idx @0 @(0)),.ife (.and (.cmp .In @3 @1) (.or (.cmp .Lt (.blt .len %[|@0]) @(2)) (.cmp .NotIn (.idx @0 @(1)) (.idx @1 @3)))) %[|.ret (.cst (.bl false))] .nil,.asg (.pt @4) (.call 15 %[|@0]),|.ret (.and (.cmp .Eq (.blt .len %[|@4]) (.fus (.kget BN) @3)) (.call 16 %[@4,|@2]))]
def OF:Ss:=%[|.ret (.ife (.cmp .Eq (.idx @0 @(0)) @"wire") (.slc @0 (.some @(1)) .none) (.slc @0 (.some @(2)) .none))]
def OG:Ss:=%[|.ret (.and (.blt .all %[|.frz (.comp (.gen @2 [2] @0 .nil (.elt (.and (.call 17 %[|@2]) (.chain .LtE .Lt @(0) @2 @1)))))]) (.cmp .Eq (.fus .mE @0) (.blt .len %[|@0])))]
def QD:Ss:=%[|.ret (.and (.isI @0 "int") (.not (.isI @0 "bool")))]
def vX:Ss:=%[|.ife (.cmp .NotEq (.meth @3 "count" %[|@5]) @(1)) %[|.rais "NoNet" (.some "fault") (.tup %[@0,|@4])] .nil]
def MR:Ss:=%[.asg (.pt @3) (.comp (.gen @6 [6] @2 %[|.cmp .Eq (.idx @6 @(0)) @0] (.elt (.idx @6 @(1))))),|.for_ (.tup %[@4,|@5]) (.enm @1) vX]
def vY:Ss:=%[|.ife (.not (.call 20 %[|@3])) %[|.rais "NoNet" (.some "fault") (.tup %[@"times",|@2])] .nil]
def L7:Ss:=%[.for_ (.tup %[@2,|@3]) (.enm (.frz (.slc @1 .none (.some (.blt .len %[|@0]))))) vY,|.ife (.cmp .NotEq (.blt .len %[|@1]) (.blt .len %[|@0])) %[|.rais "NoNet" (.some "fault") (.tup %[@"times",|.blt .len %[|@1]])] .nil]
def L8:Ss:=%[.ife (.or (.cmp .NotEq (.blt .len %[|@0]) @(4)) (.not (.blt .all %[|.frz (.comp (.gen @1 [1] @0 .nil (.elt (.chain .LtE .LtE @(1) @1 @(4)))))]))) %[|.ret (.cst (.bl false))] .nil,|.ret (.and (.cmp .LtE (.idx @0 @(0)) (.idx @0 @(1))) (.cmp .LtE (.idx @0 @(2)) (.idx @0 @(3))))]
def Ma:Ss:=%[.xc (.slc (.tup %[.pt @3,|.pt @4]) (.some @(2)) (.some @(4))) .none 22 %[@0,|@1],.asg (.pt @5) (.frz (.mth @0 "pieces" .nil)),.asg (.pt @6) (.ife (.cmp .Eq @2 @"made") (.frz (.lst %[|.tup %[@"wire",@3,|@4]])) (.frz (.lst .nil))),|.xc .ret .none 23 %[@0,.mth @0 "nodes" .nil,|.bin .Add (.frz (.bin .Add (.frz (.slc @5 .none (.some @1))) @6)) (.frz (.slc @5 (.some (.bin .Add @1 @(1))) .none))]]
def MS:Ss:=%[.asg (.pt @2) (.frz (.mth @0 "pieces" .nil)),.ife (.or (.not (.chain .LtE .Lt @(0) @1 (.blt .len %[|@2]))) (.cmp .NotIn (.idx (.idx @2 @1) @(0)) (.cst (.tup [(.str "made"),(.str "broken"),(.str "swap")])))) %[|.rais "NoPiece" .none @"there is no contact of that number"] .nil,|.ret (.idx @2 @1)]
def OH:Ss:=%[|.xc .ret (.some "Net") 0 %[.mth @0 "key_words" .nil,.mth @0 "relays" .nil,.mth @0 "lamps" .nil,@1,@2,|.mth @0 "times" .nil]]
def OI:Ss:=%[.asg (.pt @2) (.idx (.frz (.bin .Add (.frz (.slc @0 (.some @1) (.some (.bin .Add @1 @(1))))) (.frz (.lst %[|@(0)])))) @(0)),|.ret (.lst %[.blt .max %[@(0),|.bin .Sub @2 (.bin .Pow @(10) @(18))],|.bin .Add (.bin .Mod (.bin .Add (.bin .Add (.blt .abs %[|@2]) (.bin .Mult @(7919) @1)) @(5)) @(2147483587)) @(1)])]
def OJ:Ss:=%[.ife (.cmp .Gt (.idx @0 @(0)) @(0)) %[.asg (.tup %[.sub @0 @(0),|.pt @2]) (.blt .divmod %[.idx @0 @(0),|@1]),|.ret @2] .nil,.asg (.sub @0 @(1)) (.bin .Mod (.bin .Add (.bin .Mult (.idx @0 @(1)) @(48271)) @(39373)) @(2147483647)),|.ret (.bin .Mod (.bin .FloorDiv (.bin .Mod (.bin .Mult (.idx @0 @(1)) (.idx @0 @(1))) @(2147483629)) @(3)) @1)]
def OL:Ss:=%[.asg (.pt @2) (.call 25 %[@0,|@1]),|.ret (.tup %[@2,|.bin .Mod (.bin .Add (.bin .Add @2 @(1)) (.call 25 %[@0,|.bin .Sub @1 @(1)])) @1])]
def MT:Ss:=%[.asg (.pt @3) (.idx (.frz (.lst %[@"made",@"broken",@"swap",|@"wire"])) (.call 25 %[@0,|@(4)])),.asg (.tup %[.pt @4,|.pt @5]) (.call 26 %[@0,|@2]),.ife (.or (.cmp .Eq @3 @"wire") (.cmp .Eq @1 (.frz (.lst .nil)))) %[|.ret (.tup %[@"wire",@4,|@5])] .nil,.asg (.pt @6) (.idx @1 (.call 25 %[@0,|.blt .len %[|@1]])),.ife (.cmp .NotEq @3 @"swap") %[|.ret (.tup %[@3,@6,@4,|@5])] .nil,.asg (.pt @7) (.frz (.comp (.gen @8 [8] (.rng @2) %[|.cmp .NotIn @8 (.tup %[@4,|@5])] (.elt @8)))),|.ret (.tup %[@3,@6,@4,@5,|.idx @7 (.call 25 %[@0,|.blt .len %[|@7]])])]
def OM:Ss:=%[.asg (.tup %[.pt @4,|.pt @5]) (.call 26 %[@0,|@3]),.ife (.cmp .Gt (.call 25 %[@0,|@(3)]) @(0)) %[|.asg (.pt (.tup %[@4,|@5])) (.tup %[.bin .Add @(2) (.call 25 %[@0,|.bin .Sub @3 @(2)]),|@(1)])] .nil,|.ret (.tup %[@1,@2,@4,|@5])]
def om:Ss:=%[.asg (.pt @4) (.bin .Add @(1) (.call 25 %[@0,|@1])),|.expr (.meth @2 "extend" %[|.lst %[@4,|.bin .Add @4 (.call 25 %[@0,|.bin .Sub (.bin .Add @1 @(1)) @4])]])]
def ON:Ss:=%[.asg (.pt @2) (.lst .nil),.for_ @3 (.rng @(2)) om,|.ret (.blt .tuple %[|@2])]
def Bo:Ss:=%[|.expr (.meth @5 "insert" %[.call 25 %[@0,|.bin .Add (.blt .len %[|@5]) @(1)],|.call 28 %[@0,@6,@8,|@4]])]
def rQ:Ss:=%[|.for_ @8 @7 Bo]
def OO:Ss:=%[.asg (.pt @1) (.frz (.slc (.frz (.lst %[@"ka",|@"kb"])) .none (.some (.call 25 %[@0,|@(3)])))),.asg (.pt @2) (.frz (.slc (.frz (.lst %[@"ra",@"rb",@"rc",|@"rd"])) .none (.some (.call 25 %[@0,|@(5)])))),.asg (.pt @3) (.frz (.slc (.frz (.lst %[@"la",|@"lb"])) .none (.some (.call 25 %[@0,|@(3)])))),.asg (.pt @4) (.bin .Add @(3) (.call 25 %[@0,|@(5)])),.asg (.pt @5) (.comp (.gen @10 [10] (.rng (.bin .Add @(2) (.call 25 %[@0,|@(12)]))) .nil (.elt (.call 27 %[@0,.frz (.bin .Add @1 @2),|@4])))),.for_ (.tup %[@6,|@7]) (.tup %[.tup %[@"coil",|@2],|.tup %[@"lamp",|@3]]) rQ,.asg (.pt @9) (.frz (.comp (.gen @8 [8] @2 .nil (.elt (.call 29 %[@0,|.idx (.frz (.lst %[@(4),@(4),@(4),@(2),|@(1)])) (.blt .len %[|@2])]))))),|.ret (.tup %[@1,@2,@3,@4,@5,|@9])]
def OP:Ss:=%[|.ret (.tup %[.frz (.mth @0 "key_words" .nil),.frz (.mth @0 "relays" .nil),.frz (.mth @0 "lamps" .nil),.mth @0 "nodes" .nil,.frz (.mth @0 "pieces" .nil),|.frz (.mth @0 "times" .nil)])]
def OQ:Ss:=%[.asg (.pt @1) (.lst %[.fus (.isx [("NoNet",true),("NoPiece",false),("RelayError",false)]) @0,.fus (.isx [("NoNet",false),("NoPiece",false),("RelayError",false)]) @0,.fus (.isx [("NoNet",false),("NoPiece",false),("RelayError",false)]) @0,|.fus (.isx [("NoNet",false),("NoPiece",false),("RelayError",false)]) @0]),.asg (.pt @1) (.bin .Add @1 (.lst %[.fus (.isx [("NoNet",false),("NoPiece",false),("RelayError",false)]) @0,.fus (.isx [("NoNet",false),("NoPiece",false),("RelayError",false)]) @0,.fus (.isx [("NoNet",false),("NoPiece",false),("RelayError",false)]) @0,|.fus (.isx [("NoNet",false),("NoPiece",false),("RelayError",false)]) @0])),|.ret (.and (.fus (.isx [("NoNet",true),("NoPiece",true),("RelayError",true)]) @0) (.not (.blt .any %[|.bin .Add @1 (.lst %[.fus (.isx [("NoNet",false),("NoPiece",false),("RelayError",false)]) @0,|.fus (.isx [("NoNet",false),("NoPiece",false),("RelayError",false)]) @0])])))]
def OR:Ss:=%[.asg (.pt @3) (.cst .non),.tr %[|.xc .drop .none 21 %[@0,@1,|@2]] ["NoNet","NoPiece","RelayError"] (.some 4) %[|.asg (.pt @3) @4],|.ret (.and (.fus (.isx [("NoNet",false),("NoPiece",true),("RelayError",false)]) @3) (.call 32 %[|@3]))]
def OS:Ss:=%[.asg (.pt @3) (.idx @0 @1),.asg (.pt @4) (.ife (.cmp .Eq @2 @"made") (.frz (.lst %[|.tup %[@"wire",.idx @3 @(2),|.idx @3 @(3)]])) (.frz (.lst .nil))),|.ret (.frz (.bin .Add (.frz (.bin .Add (.frz (.slc @0 .none (.some @1))) @4)) (.frz (.slc @0 (.some (.bin .Add @1 @(1))) .none))))]
def MU:Ss:=%[.ife (.cmp .NotIn (.idx (.idx (.idx @0 @(4)) @2) @(0)) (.tup %[@"made",@"broken",|@"swap"])) %[|.ret (.call 33 %[@1,@2,|@3])] .nil,.xc (.asg (.pt @4)) .none 21 %[@1,@2,|@3],.asg (.pt @5) (.bin .Add (.slc @0 .none (.some @(4))) (.tup %[.frz (.call 34 %[.idx @0 @(4),@2,|@3]),|.idx @0 @(5)])),.ife (.cmp .NotEq (.frz (.call 31 %[|@4])) @5) %[|.ret (.cst (.bl false))] .nil,.expr (.meth (.mth @4 "pieces" .nil) "clear" .nil),.expr (.meth (.mth @4 "times" .nil) "append" %[|@(0)]),|.ret (.and (.cmp .Eq (.frz (.call 31 %[|@4])) @5) (.cmp .Eq (.frz (.call 31 %[|@1])) @0))]
def FU:Ss:=%[|.ife (.not (.call 35 %[@3,@4,@7,|@6])) %[|.ret (.cst (.bl false))] .nil]
def Bp:Ss:=%[.ife (.not (.call 33 %[@4,@5,|@6])) %[|.ret (.cst (.bl false))] .nil,|.for_ @7 (.rng (.blt .len %[|.idx @3 @(4)])) FU]
def vZ:Ss:=%[.asg (.pt @2) (.call 24 %[@0,|@1]),.asg (.pt @3) (.frz (.call 30 %[|@2])),.xc (.asg (.pt @4)) (.some "Net") 0 %[.blt .list %[|.idx @3 @(0)],.blt .list %[|.idx @3 @(1)],.blt .list %[|.idx @3 @(2)],.idx @3 @(3),.blt .list %[|.idx @3 @(4)],|.blt .list %[|.idx @3 @(5)]],.asg (.pt @5) (.idx (.frz (.lst %[.bin .Sub (.neg @(1)) (.call 25 %[@2,|@(40)]),|.bin .Add (.blt .len %[|.idx @3 @(4)]) (.call 25 %[@2,|.bin .Pow @(10) @(6)])])) (.call 25 %[@2,|@(2)])),|.for_ @6 (.frz (.fus .stp (.tup %[.frz (.lst %[@"made",|@"open"]),|.bin .Sub @(1) (.bin .Mult @(2) (.call 25 %[@2,|@(2)]))]))) Bp]
def OT:Ss:=%[.for_ @1 (.rng (.blt .max %[@(1),|.blt .min %[.blt .len %[|@0],|@(4)]])) vZ,|.ret (.cst (.bl true))]
def QE:Ss:=%[|.fas @0 "fault" @1]
def fe(x:Str)(i n:Nat):Str×(Nat×Nat):=(x,(i,n))
def fns:List (Str×(Nat×Nat)):=[fe "check_net" 7 6,fe "check_words" 8 3,fe "first_wrong_word" 9 1,fe "is_word" 10 1,fe "check_many" 11 3,fe "check_sizes" 12 2,fe "check_pieces" 13 5,fe "is_piece" 14 3,fe "ends_of" 15 1,fe "are_unlike_nodes" 16 2,fe "is_whole" 17 1,fe "check_just_one" 18 3,fe "check_times" 19 2,fe "are_times" 20 1,fe "stuck_net" 21 3,fe "contact_of" 22 2,fe "with_pieces" 23 3,fe "_law_pot" 24 2,fe "_law_digit" 25 2,fe "_law_two" 26 2,fe "_law_contact" 27 3,fe "_law_coil" 28 4,fe "_law_time" 29 2,fe "_law_wild" 30 1,fe "_law_shown" 31 1,fe "_law_is_just" 32 1,fe "_law_is_refused" 33 3,fe "_law_stuck" 34 3,fe "_law_right" 35 4,fe "law" 36 1]
def gl:List (Str×W):=[("MOST_SIGNS",(.int 8)),("MOST_KEYS",(.int 2)),("MOST_RELAYS",(.int 4)),("MOST_LAMPS",(.int 2)),("LEAST_NODES",(.int 2)),("MOST_NODES",(.int 640)),("MOST_PIECES",(.int 800)),("LEAST_TIME",(.int 1)),("MOST_TIME",(.int 4)),("CONTACT_WORDS",(.tup [.str "made",.str "broken",.str "swap"]))]
def po(a b c d:Nat):Pos:=⟨a,b,c,d⟩
def fz:List Pos:=[po 48 24 48 34,po 49 26 49 38,po 50 25 50 36,po 52 26 52 38,po 53 25 53 36,po 81 29 81 42,po 81 29 81 50,po 92 48 92 85,po 104 15 104 28,po 120 15 120 67,po 129 32 129 51,po 135 35 135 87,po 141 13 141 25,po 142 10 142 26,po 142 50 142 52,po 143 41 143 55,po 143 41 143 61,po 143 64 143 82,po 145 13 145 25,po 153 17 153 47,po 153 17 153 53,po 153 50 153 53,po 165 16 165 50,po 167 44 167 46,po 172 18 172 101,po 186 16 186 28,po 186 16 186 59,po 187 18 187 42,po 187 18 187 73,po 188 17 188 29,po 188 17 188 60,po 190 47 190 70,po 194 17 194 107,po 194 43 194 58,po 197 12 197 32,po 197 34 197 51,po 197 53 197 69,po 197 89 197 106,po 197 108 197 124,po 211 17 211 53,po 211 82 211 84,po 212 11 212 35,po 212 11 212 48,po 212 11 212 79,po 212 51 212 79,po 217 32 217 79,po 218 7 218 29,po 222 11 222 33,po 222 50 222 70,po 226 20 226 44,po 228 22 228 114,po 229 25 229 41,po 229 25 229 81]
def cs:Cs:=⟨[("Net","key_list"),("Net","relay_list"),("Net","lamp_list"),("Net","many_nodes"),("Net","piece_list"),("Net","time_list")],[(("Net","key_words"),1),(("Net","relays"),2),(("Net","lamps"),3),(("Net","nodes"),4),(("Net","pieces"),5),(("Net","times"),6)],[("Net",0)],[("MANY_ENDS",BN)],[]⟩
def zz:Cz:=⟨[fe "check_net" 7 6,fe "check_words" 8 3,fe "check_many" 11 3,fe "check_sizes" 12 2,fe "check_pieces" 13 5,fe "check_just_one" 18 3,fe "check_times" 19 2,fe "stuck_net" 21 3,fe "contact_of" 22 2,fe "with_pieces" 23 3,fe "_law_right" 35 4,fe "law" 36 1],[("Net",0)],[("NoNet",some "fault"),("NoPiece",none),("RelayError",none)],[("NoNet",["NoNet"]),("NoText",[]),("NoTable",[]),("NoNames",[]),("ValueError",["NoNet","NoPiece","RelayError"]),("NoName",[]),("NoPosition",[]),("NoState",[]),("NotResting",[]),("Raced",[]),("NotSure",[]),("RelayError",["NoNet","NoPiece","RelayError"]),("NoPiece",["NoPiece"])]⟩
def fuel:Nat:=1000
def pg:Pg:=⟨[⟨7,7,b0⟩,⟨1,1,b1⟩,⟨1,1,b2⟩,⟨1,1,b3⟩,⟨1,1,b4⟩,⟨1,1,b5⟩,⟨1,1,b6⟩,⟨6,6,b7⟩,⟨3,4,b8⟩,⟨1,4,b9⟩,⟨1,2,OE⟩,⟨3,7,MP⟩,⟨2,2,L5⟩,⟨5,9,MQ⟩,⟨3,5,IU⟩,⟨1,1,OF⟩,⟨2,3,OG⟩,⟨1,1,QD⟩,⟨3,7,MR⟩,⟨2,4,L7⟩,⟨1,2,L8⟩,⟨3,7,Ma⟩,⟨2,3,MS⟩,⟨3,3,OH⟩,⟨2,3,OI⟩,⟨2,3,OJ⟩,⟨2,3,OL⟩,⟨3,9,MT⟩,⟨4,6,OM⟩,⟨2,5,ON⟩,⟨1,11,OO⟩,⟨1,1,OP⟩,⟨1,2,OQ⟩,⟨3,5,OR⟩,⟨3,5,OS⟩,⟨4,6,MU⟩,⟨1,8,OT⟩,⟨2,2,QE⟩],cs,fuel,zz⟩
def tf(i:Nat):Tb:=("",top i)
def tm(c:Str)(i j:Nat):Tb:=(c,inClass (top i) j)
def OU:List Tb:=[tm "Net" 25 0,tm "Net" 25 1,tm "Net" 25 2,tm "Net" 25 3,tm "Net" 25 4,tm "Net" 25 5,tm "Net" 25 6,tf 26,tf 27,tf 28,tf 29,tf 30,tf 31,tf 32,tf 33,tf 34,tf 35,tf 36,tf 37,tf 38,tf 39,tf 41,tf 42,tf 43,tf 45,tf 46,tf 47,tf 48,tf 49,tf 50,tf 51,tf 52,tf 53,tf 54,tf 55,tf 56,tf 57,tm "NoNet" 2 0]
theorem stat:Stat pg fns gl fz OU:=⟨by kernel_rfl,by kernel_rfl,by kernel_rfl⟩
end My
namespace My
open PySem D List
theorem fC{b:Type}{a:b}{l:List b}:(a::l)[0]?=some a:=rfl
theorem fD{b:Type}{a:b}{l:List b}{i:Nat}:(a::l)[i+1]?=l[i]?:=rfl
theorem fE{b:Type}{x a:b}{l:List b}:(x::l).set 0 a=a::l:=rfl
theorem fF{b:Type}{x a:b}{l:List b}{n:Nat}:(x::l).set (n+1) a=x::l.set n a:=rfl
variable{C:D.Cx}{M m m1 m2:Mem}{b af:Int}{c d i j n:Nat}{e:E}{es:Es}{ns r:List Int}{o7:Option W}{p:Pg}{v w z:Str}{ws zs:List Str}{xs ys:List W}{y:W}{Z:D.Loc}
structure Wd(z:Str):Prop where
 lo:1<=z.cps.size
 hi:z.cps.size<=8
 az:∀c∈z.cps.toList,97<=c/\c<=122
theorem Mb(z:Str):z.length=z.cps.size:=rfl
theorem Wd.asc(h:Wd z):L2.asc z=true:=by
 unfold L2.asc;rw[UH];intro i a;have:=h.az z.cps[i] 's';simp;omega
theorem oq{a:Type}{q:a->Bool}:∀xs:List a,bools (xs.map λ x=>W.bl (q x))=@(xs.map q)
 | []=>rfl
 |x::r=>by simp[bools,oq r]
section
variable{C:Cx}{t:T}{e it:E}{Z:D.Loc}{m:Mem}{xs:List W}{s:Src}{B:W->D.Loc}{js:List Nat}{q:W->Bool}
theorem Mc(l:Cm m)(F:dR C it Z m=.ok s m)(u:∀j (h:j<xs.length),s.get m j=.it xs[j])(A:s.get m xs.length=.fin)(k:s.len m=xs.length)(o:xs.length<=lim)
  (H:∀x∈xs,aK t x (fR js Z)=@(B x)) (G:∀x∈xs,∀y∈xs,aK t y (B x)=@(B y)) (h:∀x∈xs,aq C e (B x) m=.ok (.bl (q x)) m) :
  aq C (.frz (.comp (.gen t js it .nil (.elt e)))) Z m=.ok (.fz (xs.map λ x=>.bl (q x))) m:=by
 let⟨f,a⟩:=vO (ifs:=.nil) (p:=λ _=>true) u A H G (λ x _=>by erw[iT]) (λ x g _=>h x g) o;rw[DR,<-k] at a;exact bD (kL F a) rfl l (vL (λ _=>rfl) _)
theorem all_gen(f:Cm m)(o:dR C it Z m=.ok s m)(k:∀j (h:j<xs.length),s.get m j=.it xs[j])(l:s.get m xs.length=.fin)(a:s.len m=xs.length)(g:xs.length<=lim)
  (A:∀x∈xs,aK t x (fR js Z)=@(B x)) (u:∀x∈xs,∀y∈xs,aK t y (B x)=@(B y)) (h:∀x∈xs,aq C e (B x) m=.ok (.bl (q x)) m) :
  aq C (.blt .all %[|.frz (.comp (.gen t js it .nil (.elt e)))]) Z m=.ok (.bl (xs.all q)) m:=by
 rw[cU,av,Mc f o k l a g A u h];erw[ay,aF,bA,getL,oq];rw[U1];rfl
end
def Goes(r:R F)(m:Mem):Option W->Prop
 |none=>∃Z,r=.ok (.nx Z) m
 |some w=>∃Z,r=.ok (.rz "NoNet" (some ("fault",w)) Z) m
abbrev g7(word:Str)(s:Nat):W:=.tup [.str word,.int s]
theorem QF{a:Int}:qc m (.int a) (.int b)=.ok (decide (a=b)) m:=by
 simp[qc,toD,PyData.eqv]
 by_cases h:a=b<;>simp[h]
theorem Me{a b:Nat}:qc m (.int a) (.int b)=.ok (decide (a=b)) m:=by rw[QF,Sk.mpr (show (a:Int)=b↔a=b by omega)]
structure FW(z:Str):Prop where
 a:L2.asc z=true
 l:z.length<=1000
theorem FW.small(h:FW z):z.cps.all (· < 0x110000)=true:=by
 have:=h.a;unfold L2.asc at this;rw[UH] at this ⊢;intro i f;have:=this i f;simp at this ⊢;omega
def Bq(c:Nat):Bool:=decide (97<=c)&&decide (c<=122)
def FY(z:Str):Bool:=decide (1<=z.length)&&decide (z.length<=8)&&z.cps.toList.all Bq
def IV:W->Nat
 |.str z=>z.cps.toList.headD 0
 |_=>0
theorem D3{q:Nat->Bool}:((signs z).all λ w=>q (IV w))=z.cps.toList.all q:=by
 unfold signs;rw[U1];rfl
theorem QG:aE .LtE (.str "a") (.str ⟨#[c]⟩) m=.ok (decide (97<=c)) m:=by
 have e:decide ([c] < [97])=decide (c<97):=Sk.mpr (by simp[cons_lt_cons_iff]);show R.ok (!decide ([c] < [97])) m=_;rw[e]
 by_cases h:c<97
 .have:¬97<=c:=by omega
  simp[h,this]
 .have:97<=c:=by omega
  simp[h,this]
theorem leZ:aE .LtE (.str ⟨#[c]⟩) (.str "z") m=.ok (decide (c<=122)) m:=by
 have e:decide ([122] < [c])=decide (122<c):=Sk.mpr (by simp[cons_lt_cons_iff]);show R.ok (!decide ([122] < [c])) m=_;rw[e]
 by_cases h:122<c
 .have:¬c<=122:=by omega
  simp[h,this]
 .have:c<=122:=by omega
  simp[h,this]
theorem len_str(h:z.length<=lim):bA .len [.str z] M=.ok (.int z.length) M:=by
 erw[bA];rw[Rf h]
theorem D4(h:FW z)(f:Z[0]?=@(some (.str z))):aq (Cn pg n) (.chain .LtE .LtE @(1) (.blt .len %[|@0]) @(8)) Z M=.ok (.bl (decide (1<=z.length)&&decide (z.length<=8))) M:=by
 have a:z.length<=lim:=Rv h.l 'm';erw[dg,bh,cU,av,aF,aH,f,ay,len_str a,aE];have k:decide ((1:Int)<=z.length)=decide (1<=z.length):=Sk.mpr (by omega);have g:decide ((z.length:Int)<=8)=decide (z.length<=8):=Sk.mpr (by omega);rw[k,g];cases decide (1<=z.length)<;>simp
theorem D5(h:FW z):aT (D.runN pg (n+1) 10) [.str z] M=.ok (.bl (FY z)) M:=by
 refine bR (m1:=[]) rfl (bC rfl rfl ?_) rfl;show aD _ OE [@(.str z),none] []=_;have o:dR (Cn pg n) @0 [@(.str z),none] []=.ok (.tup (signs z)) []:=by simp[lI,EI,zh,zj,EJ,EK,EL,EM,EN,EO,ER,uN,zk,nN,ES,aH,bh,cZ,lD,gC,dM,mH,gp,dg,gq,bZ,dX,bN,fK,gD,cU,iy,cL,fY,bT,lF,fZ,lG,fc,gF,iS,R.bind,nu,zf,h.a]
 have f:=all_gen (t:=.var 1) (e:=.chain .LtE .LtE @"a" @1 @"z") (js:=[1]) (B:=λ x=>[@(.str z),some x]) (q:=λ w=>Bq (IV w)) Cm.nil o (λ j k=>bg k) (aR (by omega)) rfl (by have:=h.l;simp[signs,lim,Str.length] at this ⊢;omega)
  (λ x _=>by simp[fR,aK]) (λ x _ y _=>by simp[aK]) (λ x g=>by
   let⟨c,u,rfl⟩:=Sg.mp g;erw[EWs,QG,leZ,Bq,IV]
   by_cases s:97<=c<;>simp[s])
 rw[D3] at f;rw[OE,aL (bz ?_)];rw[dM,D4 h rfl];erw[ay,f,FY];cases (decide (1<=z.length)&&decide (z.length<=8))<;>simp
def optN:Option Nat->W
 |some s=>.int s
 |none=>.non
def kr(ws:List Str)(i:Nat):Bool:=!FY (ws.getD i "")||decide (ws.getD i ""∈ws.take i)
theorem rR:ly (.inr z) (ws.map Sum.inr)=decide (z∈ws):=by
 by_cases h:z∈ws
 .rw[RX h];erw[ly,any_map,any_eq_true,Function.comp];exact⟨z,h,by simp⟩
 .rw[Ry h];erw[ly,any_map,UE];rw[Vt];intro x a;erw[Sa,Sum.inr.injEq];rintro rfl;exact h a
theorem jN(hw:∀z∈ws,FW z)(K:ws.length<=1000):aT (D.runN pg (n+1+1) 9) [.fz (ws.map .str)] M=.ok (optN (iI (kr ws) ws.length 0)) M:=by
 have G:dR (Cn pg (n+1)) (.enm @0) [@(.fz (ws.map .str)),@(.ref 0),none,none] [.set []]=.ok (.enm (.tup (ws.map .str))) [.set []]:=by simp[lI,EI,zh,zj,EJ,EK,EL,EM,EN,EO,ER,uN,zk,nN,ES,aH,bh,cZ,lD,gC,dM,mH,gp,dg,gq,bZ,dX,bN,fK,gD,cU,iy,cL,fY,bT,lF,fZ,lG,fc,gF,iS,aH,bh,cZ,gC,dM,mH,gp,dg,gq,bZ,dX,bN,fK,bK,cU,iy,cL,fY,bT,lT,fZ,pV,fc,aF,av,jx,f9,ay,srcOf]
 have k:=gK (t:=.tup %[@2,|@3]) (b:=D0) (n:=ws.length) G (by simp[Src.len]) (kr ws)
  (λ i Z m=>m=[.set ((ws.take i).map Sum.inr)]/\∃q o,Z=[@(.fz (ws.map .str)),@(.ref 0),q,o]) (λ i f m=>f=.rt (.int i)) (λ i f m e=>by rw[e];trivial) ⟨rfl,_,_,rfl⟩ (λ i Z m h=>by
   rintro⟨rfl,q,o,rfl⟩;have A:=hw ws[i] (RK h);have u:ws.getD i ""=ws[i]:=by simp[List.getD,h]
   have c:bq (Cn pg (n+1)) (.or (.not (.call 10 %[|@3])) (.cmp .In @3 @1)) [@(.fz (ws.map .str)),@(.ref 0),@(.int i),@(.str ws[i])] [.set ((ws.take i).map Sum.inr)]=.ok (kr ws i) [.set ((ws.take i).map Sum.inr)]:=by
    unfold kr;rw[u];erw[EVs,nv,ny,nA,nB,nE,nF,nG,nH,gE,lE,nJ,jr,jt,ju,iR,nK,nL,jv,nM,jw,jZ,iF,dN,bO,eU,lH,fC,fD,fE,fF,D5 A,D.truthy,aE,yZ,yY,rR];cases FY ws[i]<;>simp
   refine⟨.tup [.int i,.str ws[i]],[@(.fz (ws.map .str)),@(.ref 0),@(.int i),@(.str ws[i])],?_,by simp[aK,bW],λ a=>?_,λ a=>?_⟩
   .rw[eG];rw[bg (~~~h)];simp
   .rw[a] at c;refine⟨.rt (.int i),[.set ((ws.take i).map Sum.inr)],?_,rfl⟩;rw[D0,aL];rw[fP c,aL (bz (w:=.int i) (m1:=[.set ((ws.take i).map Sum.inr)]) (by erw[EWs]))]
   .rw[a] at c;have F:ws[i]∉ws.take i:=by
     unfold kr at a;rw[u,Bool.or_eq_false_iff] at a;exact of_decide_eq_false a.2
    have H:aq (Cn pg (n+1)) (.meth @1 "add" %[|@3]) [@(.fz (ws.map .str)),@(.ref 0),@(.int i),@(.str ws[i])] [.set ((ws.take i).map Sum.inr)]=.ok .non [.set ((ws.take (i+1)).map Sum.inr)]:=by
     have J:w9 "add"=.set:=by decide
     have I:((ws.take i).map Sum.inr:List L2.Key).length<4000:=by rw[Rn,Sb];omega
     have B:ws.take (i+1)=ws.take i++[ws[i]]:=by rw[VC,Rj h];rfl
     erw[EWs,kdOf,J,RQ,bQ,eT,zd,yY,rR,Ry F,I,RA,Rz];rw[B,T9];rfl
    refine⟨[@(.fz (ws.map .str)),@(.ref 0),@(.int i),@(.str ws[i])],_,.inl ?_,rfl,_,_,rfl⟩;rw[D0,aj (by rw[eE c,aI]),aj (jb H),aI])
  (fun Z m _=>by rw[dP];exact aR 's')
 have s:bu (Cn pg (n+1)) (.asg (.pt @1) .set0) [@(.fz (ws.map .str)),none,none,none] []=.ok (.nx [@(.fz (ws.map .str)),@(.ref 0),none,none]) [.set []]:=aQ (by simp[aH,bh,cZ,gC,dM,mH,gp,dg,gq,bZ,dX,bN,fK,bK,cU,iy,cL,fY,bT,lT,fZ,pV,fc,aF,av,jx,f9,ay,new]) rfl;cases e:iI (kr ws) ws.length 0 with
 |some i=>
  rw[e] at k;let⟨f,g,l,rfl⟩:=k;refine bR (m1:=g) (by simp[aA,aM,bG]) (bC rfl rfl ?_) rfl;show aD _ b9 [@(.fz (ws.map .str)),none,none,none] []=_;rw[b9,aj s,aL l];rfl
 |none=>
  rw[e] at k;let⟨x,g,l,_⟩:=k;refine bR (m1:=g) (by simp[aA,aM,bG]) (bC rfl rfl ?_) rfl;show aD _ b9 [@(.fz (ws.map .str)),none,none,none] []=_;rw[b9,aj s,aj l,aL (bz (w:=.non) (m1:=g) (by simp[aH,bh,cZ,gC,dM,mH,gp,dg,gq,bZ,dX,bN,fK,bK,cU,iy,cL,fY,bT,lT,fZ,pV,fc,aF,av,jx,f9,ay]))];rfl
section
variable{n:Nat}{m M:Mem}{a b c:W}{ks rl lm:List Str}
theorem rS{x:W}(g:getL M x=some xs)(f:getL M y=some ys)(h:xs.length+ys.length<=lim):binop .Add x y M=.ok (.ref M.length) (M++[.lst (xs++ys)]):=by
 have e:CN M x y=.ok (.ref M.length) (M++[.lst (xs++ys)]):=by erw[CN,g,f,h,RQ,new]
 cases x with
 |ref i=>cases y<;>first | exact e | cases f
 |fz i=>cases y<;>first | exact e | cases f
 |_=>cases g
theorem IW{e1 e2:E}(f:Cm m)(l:aq (Cn pg n) e1 Z m=.ok a m)(k:aq (Cn pg n) e2 Z m=.ok b m)(h:getL m a=@(ks.map .str))(g:getL m b=@(rl.map .str))(o:ks.length+rl.length<=1000):aq (Cn pg n) (.frz (.bin .Add e1 e2)) Z m=.ok (.fz ((ks++rl).map .str)) m:=by
 refine bD ?_ rfl f (bG _);erw[cZ,l,k,ay,rS h g (by simp[lim];omega),T9]
theorem lW(h:Cm m)(q:getL m a=@(ks.map .str))(o:getL m b=@(rl.map .str))(l:getL m c=@(lm.map .str))(hw:∀z∈ks++rl++lm,FW z)(g:(ks++rl++lm).length<=1000) :
  Goes (D.bL pg (n+1+1+1) 8 [a,b,c] m) m ((iI (kr (ks++rl++lm)) (ks++rl++lm).length 0).map λ i=>g7 "words" i):=by
 rw[cK rfl rfl];show Goes (aD _ b8 [some a,some b,some c,none] m) m _;have k:ks.length+rl.length+lm.length<=1000:=by rw[Ru,Ru] at g;exact g
 have x:aq (Cn pg (n+1+1)) (.frz (.bin .Add @0 @1)) [some a,some b,some c,none] m=.ok (.fz ((ks++rl).map .str)) m:=IW h rfl rfl q o (by omega);have u:aq (Cn pg (n+1+1)) (.frz (.bin .Add (.frz (.bin .Add @0 @1)) @2)) [some a,some b,some c,none] m=.ok (.fz ((ks++rl++lm).map .str)) m:=IW h x rfl rfl l (by rw[Ru];omega);have s:=jN (n:=n) hw g (M:=m);have f:bu (Cn pg (n+1+1)) (.asg (.pt @3) (.call 9 %[|.frz (.bin .Add (.frz (.bin .Add @0 @1)) @2)])) [some a,some b,some c,none] m=.ok (.nx [some a,some b,some c,@(optN (iI (kr (ks++rl++lm)) (ks++rl++lm).length 0))]) m:=aQ (by rw[bK,av,u];erw[ay,aF];exact s) rfl;cases hf:iI (kr (ks++rl++lm)) (ks++rl++lm).length 0 with
 |none=>
  rw[hf] at f;refine⟨[some a,some b,some c,some .non],?_⟩;have t:bq (Cn pg (n+1+1)) (.cmp .IsNot @3 (.cst .non)) [some a,some b,some c,some .non] m=.ok false m:=rfl;rw[b8,aj f];exact(aj (eE t)).trans rfl
 |some i=>
  rw[hf] at f;refine⟨[some a,some b,some c,@(.int (i:Nat))],?_⟩;have r:bu (Cn pg (n+1+1)) (.rais "NoNet" (.some "fault") (.tup %[@"words",|@3])) [some a,some b,some c,@(.int (i:Nat))] m=.ok (.rz "NoNet" (some ("fault",g7 "words" i)) [some a,some b,some c,@(.int (i:Nat))]) m:=eW rfl;have t:bu (Cn pg (n+1+1)) (.ife (.cmp .IsNot @3 (.cst .non)) %[|.rais "NoNet" (.some "fault") (.tup %[@"words",|@3])] .nil) [some a,some b,some c,@(.int (i:Nat))] m=.ok (.rz "NoNet" (some ("fault",g7 "words" i)) [some a,some b,some c,@(.int (i:Nat))]) m:=by
   rw[fP (by rw[bO];rfl),br r]
  rw[b8,aj f];exact br t
def manyN(k r l:Nat):Option Nat:=if 2<k then some 0 else if 4<r then some 1 else if 2<l then some 2 else none
def ug(k r l:Nat):Nat->Nat
 |0=>k
 |1=>r
 |_=>l
def jd:Nat->Nat
 |1=>4
 |_=>2
theorem xZ{k r l:Nat}:iI (λ i=>decide (jd i<ug k r l i)) 3 0=manyN k r l:=by
 erw[iI,manyN,jd,ug,Sa]
theorem mL{zs:List W}(N:bS m a=some xs)(L:bS m b=some ys)(K:bS m c=some zs):Goes (D.bL pg (n+1) 11 [a,b,c] m) m ((manyN xs.length ys.length zs.length).map λ i=>g7 "many" i):=by
 rw[cK rfl rfl];show Goes (aD _ MP [some a,some b,some c,none,none,none,none] m) m _
 let bs:List W:=[.tup [a,.int 2],.tup [b,.int 4],.tup [c,.int 2]]
 let Z (u s q:Option W):D.Loc:=[some a,some b,some c,@(.tup bs),u,s,q]
 have H:bu (Cn pg n) (.asg (.pt @3) (.tup %[.tup %[@0,|@(2)],.tup %[@1,|@(4)],|.tup %[@2,|@(2)]])) [some a,some b,some c,none,none,none,none] m=.ok (.nx (Z none none none)) m:=aQ rfl rfl;have it:∀i,i<3->∃w,bs[i]?=some (.tup [w,.int (jd i:Nat)])/\bA .len [w] m=.ok (.int (ug xs.length ys.length zs.length i:Nat)) m:=λ i A=>by
  match i,A with
  |0,_=>exact⟨a,rfl,bX N⟩
  |1,_=>exact⟨b,rfl,bX L⟩
  |2,_=>exact⟨c,rfl,bX K⟩
 have o:=gK (C:=Cn pg n) (t:=.tup %[@4,|.tup %[@5,|@6]]) (it:=.enm @3) (b:=vU) (Z:=Z none none none) (n:=3) rfl rfl (λ i=>decide (jd i<ug xs.length ys.length zs.length i))
  (λ i f g=>g=m/\∃u s q,f=Z u s q) (λ i B g=>g=m/\∃Z,B=.rz "NoNet" (some ("fault",g7 "many" i)) Z) (λ i B g h=>by let⟨_,Z,rfl⟩:=h;trivial) ⟨rfl,_,_,_,rfl⟩ (λ i f g A=>by
   rintro⟨rfl,u,s,q,rfl⟩;let⟨w,I,l⟩:=it i A;have J:Src.get (.tup bs) g i=.it (.tup [w,.int (jd i:Nat)]):=by erw[Src.get,I]
   let k:=Z @(.int (i:Nat)) (some w) @(.int (jd i:Nat))
   have F:bq (Cn pg n) (.cmp .Gt (.blt .len %[|@5]) @6) k g=.ok (decide (jd i<ug xs.length ys.length zs.length i)) g:=by
    erw[k,Z,bO,EWs,l,aE];rw[Sk.mpr (show ((jd i:Nat):Int)<(ug xs.length ys.length zs.length i:Nat)↔jd i<ug xs.length ys.length zs.length i by omega)]
   refine⟨_,k,eG J,by simp[Z,k,aK,bW],λ x=>?_,λ x=>?_⟩
   .exact⟨.rz "NoNet" (some ("fault",g7 "many" i)) k,g,by rw[vU,br (by rw[fP (by rw[F,x]),br (eW rfl)])],rfl,_,rfl⟩
   .exact⟨k,g,.inl (by rw[vU,aj (by rw[eE (by rw[F,x]),aI]),aI]),rfl,_,_,_,rfl⟩)
  (fun Z g h=>by let⟨rfl,_⟩:=h;exact dP (aR (by simp[bs])))
 rw[xZ] at o;cases G:manyN xs.length ys.length zs.length with
 |none=>
  rw[G] at o;let⟨f,g,e,rfl,_⟩:=o;exact⟨f,by rw[MP,aj H,aj e,aI]⟩
 |some i=>
  rw[G] at o;let⟨B,g,e,rfl,f,rfl⟩:=o;exact⟨f,by rw[MP,aj H,br e]⟩
theorem lX{k:Nat}:Goes (D.bL pg (n+1) 12 [.int af,.int (k:Nat)] m) m (if ¬(2<=af/\af<=640) then some (.tup [.str "nodes",.int af]) else if 800<k then some (g7 "pieces" k) else none):=by
 rw[cK rfl rfl];show Goes (aD _ L5 [@(.int af),@(.int (k:Nat))] m) m _;have l:bq (Cn pg n) (.not (.chain .LtE .LtE @(2) @0 @(640))) [@(.int af),@(.int (k:Nat))] m=.ok (decide (¬(2<=af/\af<=640))) m:=by
  erw[dN,eU,EWs,aE]
  by_cases f:2<=af
  .by_cases g:af<=640<;>simp[f,g,ay]
  .simp[f,ay]
 have o:bq (Cn pg n) (.cmp .Gt @1 @(800)) [@(.int af),@(.int (k:Nat))] m=.ok (decide (800<k)) m:=by
  erw[bO,EWs,aE];rw[Sk.mpr (show (800:Int)<(k:Nat)↔800<k by omega)]
 by_cases f:2<=af/\af<=640
 .rw[Ri (λ h=>h f)];have q:decide (¬(2<=af/\af<=640))=false:=by simpa using f
  by_cases g:800<k
  .rw[Rf g];exact⟨_,by rw[L5,aj (by rw[eE (by rw[l,q]),aI]),br (by rw[fP (by rw[o,RX g]),br (eW rfl)])]⟩
  .rw[Ri g];exact⟨_,by rw[L5,aj (by rw[eE (by rw[l,q]),aI]),aj (by rw[eE (by rw[o,Ry g]),aI]),aI]⟩
 .rw[Rf f];exact⟨_,by rw[L5,br (by rw[fP (by rw[l,RX f]),br (eW rfl)])]⟩
end
abbrev Pt:Type:=Str ⊕ Int
def pw:Pt->W
 |.inl z=>.str z
 |.inr i=>.int i
theorem v7(x:Pt):aM (pw x)=true:=by cases x<;>rfl
theorem lY(xs:List Pt):aA (xs.map pw)=true:=vL v7 xs
def OV:Pt->Bool
 |.inl _=>false
 |.inr _=>true
def inN(af:Int):W->Bool
 |.int i=>decide (0<=i)&&decide (i<af)
 |_=>false
def iB:List Pt->Option (List Int)
 | []=>some []
 |.inr i::r=>(iB r).map (i::·)
 |.inl _::_=>none
theorem rT:∀xs:List Pt,cG (xs.map pw)=iB xs
 | []=>rfl
 |.inr i::r=>by erw[RU,pw,cG,iB,rT r]
 |.inl _::_=>rfl
theorem ou:∀{xs:List Pt} {ns:List Int},iB xs=some ns->ns.length=xs.length
 | [],ns,h=>by cases h;rfl
 |.inr i::r,ns,h=>by
  erw[iB,Q0] at h;let⟨f,a,rfl⟩:=h;simp[ou a]
 |.inl _::_,ns,h=>by cases h
theorem j0:∀{xs:List Pt},((xs.map pw).all (inN af))=true->∃ns,iB xs=some ns
 | [],_=>⟨[],rfl⟩
 |.inr i::r,h=>by
  erw[RU,Ux,Q5] at h;let⟨ns,e⟩:=j0 h.2;exact⟨i::ns,by erw[iB,e,S2]⟩
 |.inl _::_,h=>by simp[pw,inN] at h
def gM(af:Int)(xs:List Pt):Bool:=((xs.map pw).all (inN af))&&match iB xs with
 |some ns=>decide (L2.unlike ns=ns.length)
 |none=>false
section
variable{n:Nat}{m:Mem}
theorem Br{x:Pt}:aT (D.runN pg (n+1) 17) [pw x] m=.ok (.bl (OV x)) m:=by
 cases x with
 |inl z=>exact bR rfl (bC rfl rfl rfl) rfl
 |inr i=>exact bR rfl (bC rfl rfl rfl) rfl
theorem Bs{xs:List Pt}(G:xs.length<=1000):aT (D.runN pg (n+1+1) 16) [.tup (xs.map pw),.int af] m=.ok (.bl (gM af xs)) m:=by
 refine bR (m1:=[]) (by simp[aA,aM,lY]) ?_ rfl;refine bC rfl rfl ?_
 let Z:D.Loc:=[@(.tup (xs.map pw)),@(.int af),none]
 show aD _ OG Z []=_;have f:=all_gen (C:=Cn pg (n+1)) (t:=.var 2) (js:=[2]) (it:=.var 0) (e:=.and (.call 17 %[|@2]) (.chain .LtE .Lt @(0) @2 @1)) (Z:=Z) (q:=inN af) (B:=λ x=>[@(.tup (xs.map pw)),@(.int af),some x]) Cm.nil (by rw[lI,aH];rfl) (λ j u=>bg u) (aR (by omega)) rfl (by rw[Rn];simp[lim];omega)
  (λ x _=>by simp[Z,fR,aK]) (λ x _ y _=>by simp[aK]) (λ x l=>by
   let⟨p,F,rfl⟩:=Sg.mp l;have o:=Br (n:=n) (x:=p) (m:=[]);have A:aq (Cn pg (n+1)) (.call 17 %[|@2]) [@(.tup (xs.map pw)),@(.int af),@(pw p)] []=.ok (.bl (OV p)) []:=by
    erw[EWs,o]
   rw[dM,A];cases p with
   |inl z=>rfl
   |inr i=>
    erw[ay,RQ,pw,EWs,aE,inN]
    by_cases h:0<=i<;>simp[h,ay,OV])
 rw[OG,aL (bz ?_)];rw[dM,f];erw[ay];cases ha:(xs.map pw).all (inN af) with
 |false=>erw[gM,ha,TU];rfl
 |true=>
  let⟨ns,k⟩:=j0 ha;have g:=ou k;have s:ck .mE (.tup (xs.map pw)) []=.ok (.int (L2.unlike ns)) []:=by
   erw[ck,tB,rT,k];rw[Rf (by omega)]
  have a:bA .len [.tup (xs.map pw)] []=.ok (.int ns.length) []:=by rw[bX rfl,Rn,g]
  erw[RQ,Z,EWs,s,a,aE,Me,gM,ha,k,Uc]
abbrev IX(a rl lm:W):List (Str×W):=[("made",a),("broken",a),("swap",a),("coil",rl),("lamp",lm)]
def namesOf(f a g:List Str)(w:Str):Option (List Str):=([("made",f),("broken",f),("swap",f),("coil",a),("lamp",g)]:List (Str×List Str)).lookup w
def fu:List Pt->List Pt
 |.inl w::r=>if w="wire" then r else r.drop 1
 |p=>p
def j3(w:Str):Option Nat:=([("wire",2),("made",2),("broken",2),("swap",3),("coil",2),("lamp",2)]:List (Str×Nat)).lookup w
def j4(o:Option (List Str)):List Pt->Bool
 |.inl z::_=>match o with
  |some ns=>decide (z∈ns)
  |none=>true
 |_=>o.isNone
def cP(g a f:List Str)(af:Int):List Pt->Bool
 |.inl w::r=>match j3 w with
  |none=>false
  |some k=>j4 (namesOf g a f w) r&&(decide ((fu (.inl w::r)).length=k)&&gM af (fu (.inl w::r)))
 |_=>false
end
section
variable{n:Nat}{m:Mem}
abbrev Sm(z:Str):Prop:=z.cps.all (· < 0x110000)=true
theorem je{k:Nat}:gB xs (some (k:Int)) none=xs.drop k:=by
 erw[gB,HT.iM,HT.qt]
 by_cases h:k<=xs.length
 .rw[Ui h];exact Th (by rw[Ud];omega)
 .rw[Nat.min_eq_right (by omega),Tn (Q7 _),Tn (by omega),take_nil]
theorem Bt{a b:Str}(g:Sm a)(f:Sm b):qc m (.str a) (.str b)=.ok (decide (a=b)) m:=by
 have k:toD 60 m (.str a)=some (.str a):=by erw[toD];rw[Rf g]
 have h:toD 60 m (.str b)=some (.str b):=by erw[toD];rw[Rf f]
 erw[qc,k,h,vS]
abbrev aO(p:List Pt):W:=.tup (p.map pw)
theorem D6{r:List Pt}(hw:Sm w):aT (D.runN pg (n+1) 15) [aO (.inl w::r)] m=.ok (aO (fu (.inl w::r))) m:=by
 refine bR (m1:=[]) (by simp[aA,aM,v7,lY]) ?_ (by simp[aM,lY]);refine bC rfl rfl ?_;show aD _ OF [@(aO (.inl w::r))] []=_;have g:aY (aO (.inl w::r)) (.int 0) []=.ok (.str w) []:=bY (xs:=(Sum.inl w::r).map pw) rfl 's';have t:bq (Cn pg n) (.cmp .Eq (.idx @0 @(0)) @"wire") [@(aO (.inl w::r))] []=.ok (decide (w="wire")) []:=by
  erw[bO,EWs,g,aE];exact Bt hw 'k'
 rw[OF,aL (bz ?_)];rw[gq,t];have o:=je (xs:=(Sum.inl w::r).map pw) (k:=1);have l:=je (xs:=(Sum.inl w::r).map pw) (k:=2);have a:dW (aO (.inl w::r)) (some 1) none []=.ok (aO r) []:=by
  show D.R.ok (W.tup (gB ((Sum.inl w::r).map pw) (some ((1:Nat):Int)) none)) []=_;rw[o];rfl
 have f:dW (aO (.inl w::r)) (some 2) none []=.ok (aO (r.drop 1)) []:=by
  show D.R.ok (W.tup (gB ((Sum.inl w::r).map pw) (some ((2:Nat):Int)) none)) []=_;rw[l,RU,drop_succ_cons,<-VD]
 by_cases h:w="wire"
 .erw[h,UI,ay,RQ,fu] at a ⊢;erw[EWs,a]
 .erw[h,decide_false,ay,RA,Rz,fu];erw[EWs,f]
theorem IY{x:Pt}(a:∀z,x=.inl z->Sm z)(hw:∀z∈ws,Sm z):jq m (pw x) (ws.map .str)=.ok (match x with | .inl z=>decide (z∈ws) | .inr _=>false) m:=by
 cases x with
 |inl z=>exact rP (a z rfl) hw
 |inr i=>
  have h:toD 60 m (.int i)=some (.int i):=rfl;erw[jq,pw,h,dI hw];congr 1;rw[Vt];intro e f;let⟨z,_,rfl⟩:=Sg.mp f;simp[PyData.eqv]
theorem oA(w:Str):BN.lookup w=(j3 w).map λ k=>W.int (k:Nat):=by
 erw[BN,j3,List.lookup]
 repeat' split
 all_goals first | rfl | simp_all
theorem x9{h a g:List Str}{f rl lm:W}(k:getL m f=@(h.map .str))(I:getL m rl=@(a.map .str))(H:getL m lm=@(g.map .str))(w:Str) :
  match namesOf h a g w with
  |none=>(IX f rl lm).lookup w=none
  |some ns=>∃x,(IX f rl lm).lookup w=some x/\getL m x=some (ns.map .str):=by
 by_cases G:w="made"
 .subst G;exact⟨f,rfl,k⟩
 by_cases F:w="broken"
 .subst F;exact⟨f,rfl,k⟩
 by_cases B:w="swap"
 .subst B;exact⟨f,rfl,k⟩
 by_cases A:w="coil"
 .subst A;exact⟨rl,rfl,I⟩
 by_cases u:w="lamp"
 .subst u;exact⟨lm,rfl,H⟩
 have t:(w=="made")=false:=by simpa using G
 have s:(w=="broken")=false:=by simpa using F
 have q:(w=="swap")=false:=by simpa using B
 have o:(w=="coil")=false:=by simpa using A
 have l:(w=="lamp")=false:=by simpa using u
 have e:namesOf h a g w=none:=by erw[namesOf,List.lookup,t,s,q,o,l]
 rw[e];erw[IX,List.lookup,t,s,q,o,l]
end
section
variable{n:Nat}{m:Mem}
theorem D7{x:Pt}(f:getL m y=@(ws.map .str))(g:∀z,x=.inl z->Sm z)(hw:∀z∈ws,Sm z):aE .NotIn (pw x) y m=.ok (!(match x with | .inl z=>decide (z∈ws) | .inr _=>false)) m:=by
 have h:=IY g hw (m:=m);cases y with
 |ref a=>
  have k:m[a]?=some (.lst (ws.map .str)):=by
   erw[getL] at f;split at f
   .ext e;cases f;exact e
   .cases f
  erw[aE,k,h,ay]<;>cases x<;>rfl
 |fz ys=>
  erw[getL] at f;cases f;erw[aE,h,ay]<;>cases x<;>rfl
 |_=>simp[getL] at f
variable{ow rls p6:List Str}{sw rl lm:W}{j:Nat}{af:Int}
theorem Bu{p:List Pt}(o:∀z,.inl z∈p->Sm z)(G:p.length<=1000)(K:m[j]?=@(.dic (IX sw rl lm)))(h1:getL m sw=@(ow.map .str))(h2:getL m rl=@(rls.map .str))(h3:getL m lm=@(p6.map .str))
  (w1:∀z∈ow,Sm z) (O:∀z∈rls,Sm z) (N:∀z∈p6,Sm z):aT (D.runN pg (n+1+1+1) 14) [aO p,.ref j,.int af] m=.ok (.bl (cP ow rls p6 af p)) m:=by
 rw[bB (by simp[aA,aM])];refine bC rfl rfl ?_;show aD _ IU [@(aO p),@(.ref j),@(.int af),none,none] m=_
 match p,o,G with
 | [],_,_=>
  have t:bq (Cn pg (n+1+1)) (.or (.not @0) (.fus (.knin BN) (.idx @0 @(0)))) [@(aO []),@(.ref j),@(.int af),none,none] m=.ok true m:=rfl;rw[IU,aL (by rw[fP t];rfl)];rfl
 |.inr i::r,_,_=>
  have l:aY (aO (.inr i::r)) (.int 0) m=.ok (.int i) m:=bY (xs:=(Sum.inr i::r).map pw) rfl 's';have t:bq (Cn pg (n+1+1)) (.or (.not @0) (.fus (.knin BN) (.idx @0 @(0)))) [@(aO (.inr i::r)),@(.ref j),@(.int af),none,none] m=.ok true m:=by
   have I:bq (Cn pg (n+1+1)) @0 [@(aO (.inr i::r)),@(.ref j),@(.int af),none,none] m=.ok true m:=rfl;rw[iF,dN,I];erw[ay,Vn,RA,Rz];erw[iR,bT,bN,aH,bh,fC,fD,fE,fF,ay,l,ck,D.truthy]
  rw[IU,aL (by rw[fP t];rfl)];rfl
 |.inl w::r,o,G=>
  have hw:=o w RG;have l:aY (aO (.inl w::r)) (.int 0) m=.ok (.str w) m:=bY (xs:=(Sum.inl w::r).map pw) rfl 's';have f:bq (Cn pg (n+1+1)) (.or (.not @0) (.fus (.knin BN) (.idx @0 @(0)))) [@(aO (.inl w::r)),@(.ref j),@(.int af),none,none] m=.ok (j3 w).isNone m:=by
   have I:bq (Cn pg (n+1+1)) @0 [@(aO (.inl w::r)),@(.ref j),@(.int af),none,none] m=.ok true m:=rfl;rw[iF,dN,I];erw[ay,Vn,RA,Rz];erw[iR,bT,bN,aH,bh,fC,fD,fE,fF,ay,l,ck,oA,D.truthy];cases j3 w<;>rfl
  cases a:j3 w with
  |none=>
   rw[a] at f;rw[IU,aL (by rw[fP f];rfl)];erw[cP,a]
  |some k=>
   rw[a] at f
   let Z (S:Option W):D.Loc:=[@(aO (.inl w::r)),@(.ref j),@(.int af),@(.str w),S]
   have L:bu (Cn pg (n+1+1)) (.asg (.pt @3) (.idx @0 @(0))) [@(aO (.inl w::r)),@(.ref j),@(.int af),none,none] m=.ok (.nx (Z none)) m:=aQ (by erw[EWs,l]) rfl;have g:bA .len [aO (.inl w::r)] m=.ok (.int (r.length+1:Nat)) m:=by rw[bX rfl];simp
   have h:bq (Cn pg (n+1+1)) (.and (.cmp .In @3 @1) (.or (.cmp .Lt (.blt .len %[|@0]) @(2)) (.cmp .NotIn (.idx @0 @(1)) (.idx @1 @3)))) (Z none) m=.ok (!j4 (namesOf ow rls p6 w) r) m:=by
    have s:=x9 h1 h2 h3 w;have R:bq (Cn pg (n+1+1)) (.cmp .In @3 @1) (Z none) m=.ok ((IX sw rl lm).lookup w).isSome m:=by
     erw[Z,bO,aH,fC,fD,fE,fF,ay,aE,yZ,K]
    rw[jZ,R];erw[ay];cases q:namesOf ow rls p6 w with
    |none=>
     rw[q] at s;rw[show (IX sw rl lm).lookup w=none from s];cases r with
     |nil=>rfl
     |cons x r=>cases x<;>rfl
    |some ns=>
     rw[q] at s;let⟨y,J,A⟩:=s;have B:∀z∈ns,Sm z:=by
      have hm:ns=ow\/ns=rls\/ns=p6:=by
       erw[namesOf,List.lookup] at q
       repeat' split at q
       all_goals simp_all
      rcases hm with rfl | rfl | rfl
      .exact w1
      .exact O
      .exact N
     rw[J];erw[Option.isSome_some,RQ];have Q:bq (Cn pg (n+1+1)) (.cmp .Lt (.blt .len %[|@0]) @(2)) (Z none) m=.ok (decide (r.length+1<2)) m:=by
      erw[Z,bO,EWs,g,aE];rw[Sk.mpr (show ((r.length+1:Nat):Int)<2↔r.length+1<2 by omega)]
     rw[iF,Q];erw[ay];cases r with
     |nil=>rfl
     |cons x r=>
      have X:aY (aO (.inl w::x::r)) (.int 1) m=.ok (pw x) m:=bY (xs:=(Sum.inl w::x::r).map pw) rfl 's';have V:aY (.ref j) (.str w) m=.ok y m:=by erw[aY,K,J]
      have P:bq (Cn pg (n+1+1)) (.cmp .NotIn (.idx @0 @(1)) (.idx @1 @3)) (Z none) m=.ok (!j4 (some ns) (x::r)) m:=by
       erw[Z,bO,EWs,X,V];rw[D7 A (λ z Y=>o z (by subst Y;simp)) B];cases x<;>rfl
      rw[show decide ((x::r).length+1<2)=false by simp];erw[RA,Rz];exact P
   cases u:j4 (namesOf ow rls p6 w) r with
   |false=>
    rw[u] at h;rw[IU,aj (by rw[eE f,aI]),aj L,aL (by rw[fP h];rfl)];erw[cP,a,u,TU]
   |true=>
    rw[u] at h
    let es:=fu (.inl w::r)
    have H:es.length<=1000:=by
     have:es.length<=r.length:=by
      erw[es,fu];split
      .exact Q7 _
      .rw[Ud];omega
     erw[RD] at G;omega
    have a4:bu (Cn pg (n+1+1)) (.asg (.pt @4) (.call 15 %[|@0])) (Z none) m=.ok (.nx (Z @(aO es))) m:=aQ (by erw[Z,EWs,D6 hw,es]) rfl;have T:bA .len [aO es] m=.ok (.int es.length) m:=by rw[bX rfl,Rn]
    have U:ck (.kget BN) (.str w) m=.ok (.int (k:Nat)) m:=by erw[ck,oA,a,S2]
    have F:=Bs (n:=n) (m:=m) (af:=af) H;rw[IU,aj (by rw[eE f,aI]),aj L,aj (by rw[eE h,aI]),aj a4,aL (bz (w:=.bl (decide (es.length=k)&&gM af es)) (m1:=m) ?_)]
    .erw[cP,a,u,Uc,es]
    .rw[dM];have c1:aq (Cn pg (n+1+1)) (.cmp .Eq (.blt .len %[|@4]) (.fus (.kget BN) @3)) (Z @(aO es)) m=.ok (.bl (decide (es.length=k))) m:=by
      erw[Z,EWs,T,U,aE,Me]
     rw[c1];erw[ay];cases decide (es.length=k) with
     |false=>rfl
     |true=>
      erw[RQ,Uc,Z,EWs];exact F
end
section
variable{n:Nat}{m:Mem}{a b c d e:Nat}{ks rl lm:List Str}{ps:List (List Pt)}{ts:List (List Int)}{af:Int}
abbrev tupI(r:List Int):W:=.tup (r.map .int)
structure Hf(m:Mem)(a b c d e:Nat)(ks rl lm:List Str)(ps:List (List Pt))(ts:List (List Int)):Prop where
 k:m[a]?=@(.lst (ks.map .str))
 r:m[b]?=@(.lst (rl.map .str))
 l:m[c]?=@(.lst (lm.map .str))
 p:m[d]?=@(.lst (ps.map aO))
 t:m[e]?=@(.lst (ts.map tupI))
theorem Hf.app{l:Mem}(h:Hf m a b c d e ks rl lm ps ts):Hf (m++l) a b c d e ks rl lm ps ts:=
 have g:∀{a:Nat} {o:O},m[a]?=some o->(m++l)[a]?=some o:=λ h=>by rw[Rc (Q4.mp h).1];exact h
 ⟨g h.k,g h.r,g h.l,g h.p,g h.t⟩
structure Bf(ks rl lm:List Str)(ps:List (List Pt))(ts:List (List Int)):Prop where
 wd:∀z∈ks++rl++lm,FW z
 wl:(ks++rl++lm).length<=1000
 sm:∀p∈ps,∀z,.inl z∈p->Sm z
 pl:∀p∈ps,p.length<=1000
 np:ps.length<=1000000
 tl:∀t∈ts,t.length<=1000
 nt:ts.length<=1000000
def rV(r:R F)(m:Mem)(o:Option W):Prop:=∃l,Cm (m++l)/\Goes r (m++l) o
theorem Goes.D8{r:R F}{o:Option W}(h:Goes r m o)(f:Cm m):rV r m o:=⟨[],by rw[R6];exact f,by rw[R6];exact h⟩
def mO(ks rl lm:List Str)(af:Int)(ps:List (List Pt))(i:Nat):Bool:=!cP (ks++rl) rl lm af (ps.getD i [])
theorem aG(h:m[a]?=@(.lst xs)):getL m (.ref a)=some xs:=by erw[getL,h]
theorem ku(K:Cm m)(h:Hf m a b c d e ks rl lm ps ts)(o:Bf ks rl lm ps ts):rV (D.bL pg (n+1+1+1+1) 13 [.ref a,.ref b,.ref c,.int af,.ref d] m) m ((iI (mO ks rl lm af ps) ps.length 0).map λ i=>g7 "piece" i):=by
 have bl:=(Q4.mp h.r).1;have Y:=(Q4.mp h.l).1;have wl:ks.length+rl.length+lm.length<=1000:=by have:=o.wl;rw[Ru,Ru] at this;exact this
 have w:=λ z u=>(o.wd z u).small;have X:=IW (n:=n+1+1+1) (e1:=.var 0) (e2:=.var 1) (Z:=[@(.ref a),@(.ref b),@(.ref c),@(.int af),@(.ref d),none,none,none,none]) K rfl rfl (aG h.k) (aG h.r) (by omega)
 let q:O:=.dic (IX (.fz ((ks++rl).map .str)) (.ref b) (.ref c))
 have P:Cm (m++[q]):=K.push (by
  have:=bw m.length (bG (ks++rl));erw[T9] at this ⊢;simp[q,dF,dB,iQ,bl,Y,this])
 have N:(m++[q])[m.length]?=some q:=by simp
 have x:=h.app (l:=[q]);refine⟨[q],P,?_⟩;have Q:aq (Cn pg (n+1+1+1)) (.fus (.dict ["made","broken","swap","coil","lamp"]) (.tup %[@5,@5,@5,@1,|@2])) [@(.ref a),@(.ref b),@(.ref c),@(.int af),@(.ref d),@(.fz ((ks++rl).map .str)),none,none,none] m=.ok (.ref m.length) (m++[q]):=by
  rw[bT,bZ];erw[av,aF,aH,fC,fD,fE,fF,ay];rw[Rf 'm'];erw[ay,ck,tD];rw[Rf ⟨rfl,by decide +kernel,by decide⟩];erw[new,zip_cons_cons,zip_nil_right,q]
 generalize hM:m++[q]=M at N x P Q ⊢
 let Z (o7 F:Option W):D.Loc:=[@(.ref a),@(.ref b),@(.ref c),@(.int af),@(.ref d),@(.fz ((ks++rl).map .str)),@(.ref m.length),o7,F]
 rw[cK rfl rfl];show Goes (aD _ MQ [@(.ref a),@(.ref b),@(.ref c),@(.int af),@(.ref d),none,none,none,none] m) M _;have U:dR (Cn pg (n+1+1+1)) (.enm @4) (Z none none) M=.ok (.enm (.lst d)) M:=by
  erw[Z,nN,lI,aH,fC,fD,fE,fF,ay,srcOf,getL,x.p]
 have G:=gK (t:=.tup %[@7,|@8]) (b:=vW) U (n:=ps.length) (by simp[Src.len,getL,x.p]) (mO ks rl lm af ps)
  (λ i g f=>f=M/\∃o7 F,g=Z o7 F) (λ i I f=>f=M/\∃Z,I=.rz "NoNet" (some ("fault",g7 "piece" i)) Z) (λ i I f h=>by let⟨_,Z,rfl⟩:=h;trivial) ⟨rfl,_,_,rfl⟩ (λ i g f H=>by
   rintro⟨rfl,o7,F,rfl⟩;have s:=RK H;have B:=Bu (n:=n) (af:=af) (o.sm ps[i] s) (o.pl ps[i] s) N rfl (aG x.r) (aG x.l) (λ z u=>w z (RJ _ u)) (λ z u=>w z (RJ _ (RB _ u))) (λ z u=>w z (RB _ u))
   let A:=Z @(.int (i:Nat)) @(aO ps[i])
   have V:mO ks rl lm af ps i=!cP (ks++rl) rl lm af ps[i]:=by
    unfold mO;rw[Rq,Rj H];rfl
   have J:bq (Cn pg (n+1+1+1)) (.not (.call 14 %[@8,@6,|@3])) A f=.ok (mO ks rl lm af ps i) f:=by
    have t:bq (Cn pg (n+1+1+1)) (.call 14 %[@8,@6,|@3]) A f=.ok (cP (ks++rl) rl lm af ps[i]) f:=pU (gE _ _) (by erw[A,Z,EWs,B]);rw[dN,t,V];rfl
   have T:Src.get (.lst d) f i=.it (aO ps[i]):=by rw[gk x.p,bg (~~~H),Sx]
   refine⟨_,A,eG T,by simp[Z,A,aK,bW],λ B=>?_,λ B=>?_⟩
   .exact⟨.rz "NoNet" (some ("fault",g7 "piece" i)) A,f,by rw[vW,br (by rw[fP (by rw[J,B]),br (eW rfl)])],rfl,_,rfl⟩
   .exact⟨A,f,.inl (by rw[vW,aj (by rw[eE (by rw[J,B]),aI]),aI]),rfl,_,_,rfl⟩)
  (fun Z f h=>by let⟨rfl,_⟩:=h;exact dP (by rw[gk x.p];exact aR 's'))
 have S:bu (Cn pg (n+1+1+1)) (.asg (.pt @5) (.frz (.bin .Add @0 @1))) [@(.ref a),@(.ref b),@(.ref c),@(.int af),@(.ref d),none,none,none,none] m=.ok (.nx [@(.ref a),@(.ref b),@(.ref c),@(.int af),@(.ref d),@(.fz ((ks++rl).map .str)),none,none,none]) m:=aQ X rfl;have R:=aQ (Z1:=Z none none) (i:=6) Q rfl;cases L:iI (mO ks rl lm af ps) ps.length 0 with
 |none=>
  rw[L] at G;let⟨g,f,e,rfl,_⟩:=G;exact⟨g,by rw[MQ,aj S,aj R,aj e,aI]⟩
 |some i=>
  rw[L] at G;let⟨I,f,e,rfl,g,rfl⟩:=G;exact⟨g,by rw[MQ,aj S,aj R,br e]⟩
end
section
variable{n:Nat}{m:Mem}{a b c d e:Nat}{ks rl lm:List Str}{ps:List (List Pt)}{ts:List (List Int)}{af:Int}
def nameOf(word:Str):List Pt->Option Str
 |.inl w::.inl z::_=>if w=word then some z else none
 |_=>none
def aN(word:Str)(ps:List (List Pt)):List Str:=ps.filterMap (nameOf word)
def mP(word:Str)(names:List Str)(ps:List (List Pt))(i:Nat):Bool:=(aN word ps).count (names.getD i "") != 1
theorem oB:∀ns:List Str,jX (ns.map W.str)=some ns
 | []=>rfl
 |x::r=>by simp[jX,oB r]
theorem eY{word:Str}{f:List Str}(hm:Cm m)(hb:m[b]?=@(.lst (f.map .str)))(R:m[d]?=@(.lst (ps.map aO)))(hw:Sm word)(hs:∀p∈ps,∀z,.inl z∈p->Sm z)(P:∀p∈ps,∃w r,p=.inl w::r/\(w=word->∃z Y,r=.inl z::Y))(hl:ps.length<=1000)(hn:f.length<=1000) :
  rV (D.bL pg (n+1) 18 [.str word,.ref b,.ref d] m) m ((iI (mP word f ps) f.length 0).map λ i=>g7 word i):=by
 let B:O:=.lst ((aN word ps).map .str)
 have hc:Cm (m++[B]):=hm.push (bw _ (bG _));refine⟨[B],hc,?_⟩
 let Z (o3 J I N:Option W):D.Loc:=[@(.str word),@(.ref b),@(.ref d),o3,J,I,N]
 rw[cK rfl rfl];show Goes (aD _ MR (Z none none none none) m) (m++[B]) _;have hI:dR (Cn pg n) @2 (Z none none none none) m=.ok (.lst d) m:=by
  let⟨V,X,_,_⟩:=IJ (gm (aG R));have:V=.lst d:=by
   have ha:=aG R;erw[nu,zf,srcOf,ha] at X;cases X;rfl
  subst this;rw[lI];exact X
 let⟨o,k,l,S,rfl,⟨N,rfl⟩,rfl⟩:=fO (get:=Src.get (.lst d)) (t:=.var 6) (test:=fun Z m=>bM (Cn pg n) %[|.cmp .Eq (.idx @6 @(0)) @0] Z m) (body:=fun Z m o=>jh (Cn pg n) (.elt (.idx @6 @(1))) Z m o) (n:=ps.length)
  (λ i Z1 m1 o=>m1=m/\(∃N,Z1=Z none none none N)/\o=(aN word (ps.take i)).map .str) (λ i Z1 m1 o G=>by
   rintro⟨rfl,⟨N,rfl⟩,rfl⟩;have ht:ps.take (i+1)=ps.take i++[ps[i]]:=by rw[VC,Rj G];rfl
   let⟨w,r,u,hz⟩:=P ps[i] (RK G);have hsw:=hs ps[i] (RK G) w (by rw[u];simp);have T:Src.get (.lst d) m1 i=.it (aO ps[i]):=by rw[gk R,bg (~~~G),Sx]
   let g:=Z none none none @(aO ps[i])
   have i0:aY (aO ps[i]) (.int 0) m1=.ok (.str w) m1:=by
    rw[u];exact bY (xs:=(Sum.inl w::r).map pw) rfl 's'
   have L:bM (Cn pg n) %[|.cmp .Eq (.idx @6 @(0)) @0] g m1=.ok (decide (w=word)) m1:=by
    have:bq (Cn pg n) (.cmp .Eq (.idx @6 @(0)) @0) g m1=.ok (decide (w=word)) m1:=by
     erw[g,Z,bO,EWs,i0,aE];exact Bt hsw hw
    rw[zl,this];erw[ay,EU];cases decide (w=word)<;>rfl
   by_cases s:w=word
   .let⟨z,Y,rfl⟩:=hz s;have F:nameOf word ps[i]=some z:=by rw[u];simp[nameOf,s]
    have H:aN word (ps.take (i+1))=aN word (ps.take i)++[z]:=by rw[ht,aN,Tp];simp[aN,F]
    have i1:aY (aO ps[i]) (.int 1) m1=.ok (.str z) m1:=by
     rw[u];exact bY (xs:=(Sum.inl w::Sum.inl z::Y).map pw) rfl 's'
    have Q:((aN word (ps.take i)).map W.str).length<lim:=by
     have h1:(aN word (ps.take i)).length<=(ps.take i).length:=length_filterMap_le _ _;rw[Rn];rw[Sb] at h1;erw[lim];omega
    refine⟨aO ps[i],g,T,by simp[Z,g,aK],.inl ⟨m1,(aN word (ps.take (i+1))).map .str,g,m1,by rw[L,s];simp,?_,rfl,⟨_,rfl⟩,rfl⟩⟩;have ev:aq (Cn pg n) (.idx @6 @(1)) g m1=.ok (.str z) m1:=by erw[g,Z,EWs,i1]
    erw[ET,ev,ay];rw[Rf Q,H,T9];rfl
   .have F:nameOf word ps[i]=none:=by
     rw[u];cases r with
     |nil=>rfl
     |cons x r=>cases x<;>simp[nameOf,s]
    have H:aN word (ps.take (i+1))=aN word (ps.take i):=by rw[ht,aN,Tp];simp[aN,F]
    refine⟨aO ps[i],g,T,by simp[Z,g,aK],.inr ⟨m1,by rw[L];simp[s],rfl,⟨_,rfl⟩,by rw[H]⟩⟩)
  (fun Z1 m1 o h=>by let⟨rfl,_⟩:=h;rw[gk R];exact aR 's') ps.length 0 (fR [6] (Z none none none none)) m [] (by omega) ⟨rfl,⟨_,rfl⟩,rfl⟩
 rw[Vg] at S;have Mb:Src.len (.lst d) l=ps.length:=by simp[Src.len,getL,R]
 have e3:=kL hI (by rw[Mb];exact S);have a3:=aQ (i:=3) e3 rfl;have OW:(l++[B])[l.length]?=some B:=by simp
 have A:(l++[B])[b]?=some (.lst (f.map .str)):=by rw[Rc (Q4.mp hb).1];exact hb
 generalize hM:l++[B]=M at OW A hc ⊢;have PU:bu (Cn pg n) (.asg (.pt @3) (.comp (.gen @6 [6] @2 %[|.cmp .Eq (.idx @6 @(0)) @0] (.elt (.idx @6 @(1)))))) (Z none none none none) l=.ok (.nx (Z @(.ref l.length) none none none)) M:=by rw[<-hM];exact a3
 let K (J I:Option W):D.Loc:=Z @(.ref l.length) J I none
 have QH:dR (Cn pg n) (.enm @1) (K none none) M=.ok (.enm (.lst b)) M:=by erw[K,Z,nN,lI,aH,fC,fD,fE,fF,ay,srcOf,getL,A]
 have U:=gK (t:=.tup %[@4,|@5]) (b:=vX) QH (n:=f.length) (by simp[Src.len,getL,A]) (mP word f ps)
  (λ i k l=>l=M/\∃J I,k=K J I) (λ i fl l=>l=M/\∃Z,fl=.rz "NoNet" (some ("fault",g7 word i)) Z) (λ i fl l h=>by let⟨_,Z,rfl⟩:=h;trivial) ⟨rfl,_,_,rfl⟩ (λ i k m1 G=>by
   rintro⟨rfl,J,I,rfl⟩
   let g:=K @(.int (i:Nat)) @(.str f[i])
   have OX:bQ (.ref l.length) "count" [.str f[i]] m1=.ok (.int ((aN word ps).count f[i]:Nat)) m1:=by
    erw[bQ,OW,B,ee];rw[Ri 'd',Ri 'd',Ri 'd',Ri 'd',Ri 'd',Ri 'd',Rf trivial];erw[eS,oB]
   have kC:w9 "count"=.lst:=by decide
   have kO:kdOf m1 (.ref l.length)=.lst:=by erw[kdOf,OW,B]
   have eB:mP word f ps i=!decide ((aN word ps).count f[i]=1):=by
    unfold mP;rw[Rq,Rj G];erw[UQ,bne];rfl
   have L:bq (Cn pg n) (.cmp .NotEq (.meth @3 "count" %[|@5]) @(1)) g m1=.ok (mP word f ps i) m1:=by
    rw[eB];have q:=Me (m:=m1) (a:=(aN word ps).count f[i]) (b:=1);erw[g,K,Z,bO,EWs,kC,kO,RQ,OX,aE];rw[show qc m1 (.int ((aN word ps).count f[i]:Nat)) (.int 1)=_ from q];rfl
   have T:Src.get (.lst b) m1 i=.it (.str f[i]):=by rw[gk A,bg (~~~G),Sx]
   refine⟨_,g,eG T,by simp[K,Z,g,aK,bW],λ P=>?_,λ P=>?_⟩
   .exact⟨.rz "NoNet" (some ("fault",g7 word i)) g,m1,by rw[vX,br (by rw[fP (by rw[L,P]),br (eW rfl)])],rfl,_,rfl⟩
   .exact⟨g,m1,.inl (by rw[vX,aj (by rw[eE (by rw[L,P]),aI]),aI]),rfl,_,_,rfl⟩)
  (fun Z m1 h=>by let⟨rfl,_⟩:=h;exact dP (by rw[gk A];exact aR 's'))
 cases hk:iI (mP word f ps) f.length 0 with
 |none=>
  rw[hk] at U;let⟨k,m1,e,rfl,_⟩:=U;exact⟨k,by rw[MR,aj PU,aj e,aI]⟩
 |some i=>
  rw[hk] at U;let⟨fl,m1,e,rfl,k,rfl⟩:=U;exact⟨k,by rw[MR,aj PU,br e]⟩
end
def j5(w:W):Bool:=match w with
 |.int i=>decide (1<=i)&&decide (i<=4)
 |_=>false
def dU(t:List Int):Bool:=decide (t.length=4)&&((t.map W.int).all j5&&(decide (t.getD 0 0<=t.getD 1 0)&&decide (t.getD 2 0<=t.getD 3 0)))
section
variable{n:Nat}{m:Mem}{a b c d e:Nat}{ks rl lm:List Str}{ps:List (List Pt)}{ts:List (List Int)}{af:Int}
theorem ya{t:List Int}(K:t.length<=1000):aT (D.runN pg (n+1) 20) [tupI t] m=.ok (.bl (dU t)) m:=by
 refine bR (m1:=[]) (by simp[aA,aM,oi]) ?_ rfl;refine bC rfl rfl ?_
 let Z:D.Loc:=[@(tupI t),none]
 show aD _ L8 Z []=_;have g:bA .len [tupI t] []=.ok (.int t.length) []:=by rw[bX rfl,Rn]
 have s:bq (Cn pg n) (.cmp .NotEq (.blt .len %[|@0]) @(4)) Z []=.ok (!decide (t.length=4)) []:=by
  erw[Z,bO,EWs,g,aE];rw[show qc [] (.int t.length) (.int 4)=_ from Me];rfl
 have k:=all_gen (C:=Cn pg n) (t:=.var 1) (js:=[1]) (it:=.var 0) (e:=.chain .LtE .LtE @(1) @1 @(4)) (Z:=Z) (q:=j5) (B:=λ x=>[@(tupI t),some x]) Cm.nil (by rw[lI,aH];rfl) (λ j J=>bg J) (aR (by omega)) rfl (by rw[Rn];simp[lim];omega)
  (λ x _=>by simp[Z,fR,aK]) (λ x _ y _=>by simp[aK]) (λ x I=>by
   let⟨i,_,rfl⟩:=Sg.mp I;erw[EWs,aE,j5]
   by_cases h:1<=i<;>simp[h,ay])
 by_cases o:t.length=4
 .have H:bq (Cn pg n) (.not (.blt .all %[|.frz (.comp (.gen @1 [1] @0 .nil (.elt (.chain .LtE .LtE @(1) @1 @(4)))))])) Z []=.ok (!(t.map W.int).all j5) []:=by
   have:bq (Cn pg n) (.blt .all %[|.frz (.comp (.gen @1 [1] @0 .nil (.elt (.chain .LtE .LtE @(1) @1 @(4)))))]) Z []=.ok ((t.map W.int).all j5) []:=pU (lE _ _) k;rw[dN,this];rfl
  have f:bq (Cn pg n) (.or (.cmp .NotEq (.blt .len %[|@0]) @(4)) (.not (.blt .all %[|.frz (.comp (.gen @1 [1] @0 .nil (.elt (.chain .LtE .LtE @(1) @1 @(4)))))]))) Z []=.ok (!(t.map W.int).all j5) []:=by
   rw[iF,s,show (!decide (t.length=4))=false by simp[o]];exact H
  cases ha:(t.map W.int).all j5 with
  |false=>
   rw[ha] at f;rw[L8,aL (by rw[fP f];rfl)];erw[dU,ha,TU,Bool.and_false]
  |true=>
   rw[ha] at f;have l:∀(i:Nat),i<4->aY (tupI t) (.int (i:Nat)) []=.ok (.int (t.getD i 0)) []:=λ i L=>by
    have:=bY (m:=[]) (w:=tupI t) (i:=i) rfl (by simpa using by omega);rw[this,Sx,Rq,Rj (by omega)];rfl
   have G:aY (tupI t) (.int 0) []=.ok (.int (t.getD 0 0)) []:=l 0 'd';have F:aY (tupI t) (.int 1) []=.ok (.int (t.getD 1 0)) []:=l 1 'd';have A:aY (tupI t) (.int 2) []=.ok (.int (t.getD 2 0)) []:=l 2 'd';have u:aY (tupI t) (.int 3) []=.ok (.int (t.getD 3 0)) []:=l 3 'd';rw[L8,aj (by rw[eE f,aI]),aL (bz ?_)];erw[Z,EWs,G,F,A,u,aE];erw[dU,ha,o,UI,Uc];cases decide (t.getD 0 0<=t.getD 1 0)<;>rfl
 .have f:bq (Cn pg n) (.or (.cmp .NotEq (.blt .len %[|@0]) @(4)) (.not (.blt .all %[|.frz (.comp (.gen @1 [1] @0 .nil (.elt (.chain .LtE .LtE @(1) @1 @(4)))))]))) Z []=.ok true []:=by
   rw[iF,s,show (!decide (t.length=4))=true by simp[o]];rfl
  rw[L8,aL (by rw[fP f];rfl)];erw[dU,o,decide_false,TU]
theorem jf{k:Nat}:gB xs none (some (k:Int))=xs.take k:=by
 erw[gB,HT.iM,HT.qt,drop_zero,Nat.sub_zero]
 by_cases h:k<=xs.length
 .rw[Ui h]
 .rw[Nat.min_eq_right (by omega),Th (Q7 _),Th (by omega)]
def rW(ts:List (List Int))(i:Nat):Bool:=!dU (ts.getD i [])
def fB(rl:Nat)(ts:List (List Int)):Option W:=match iI (rW ts) (min rl ts.length) 0 with
 |some i=>some (g7 "times" i)
 |none=>if ts.length=rl then none else some (g7 "times" ts.length)
theorem jg(R:List (List Int)):aA (R.map tupI)=true:=vL (λ r=>by simp[aM,oi]) R
theorem lZ(U:Cm m)(X:m[b]?=@(.lst (rl.map .str)))(P:m[e]?=@(.lst (ts.map tupI)))(S:∀t∈ts,t.length<=1000):Goes (D.bL pg (n+1+1) 19 [.ref b,.ref e] m) m (fB rl.length ts):=by
 rw[cK rfl rfl]
 let Z (R Q:Option W):D.Loc:=[@(.ref b),@(.ref e),R,Q]
 show Goes (aD _ L7 (Z none none) m) m _;have O:bA .len [.ref b] m=.ok (.int rl.length) m:=by rw[bX (gm (aG X)),Rn]
 have N:bA .len [.ref e] m=.ok (.int ts.length) m:=by rw[bX (gm (aG P)),Rn]
 let l:=ts.take rl.length
 have ef:aq (Cn pg (n+1)) (.frz (.slc @1 .none (.some (.blt .len %[|@0])))) (Z none none) m=.ok (.fz (l.map tupI)) m:=by
  refine bD ?_ rfl U (jg _);have T:dW (.ref e) none (some (rl.length:Int)) m=.ok (.ref m.length) (m++[.lst (l.map tupI)]):=by
   erw[dW,aG P,jf,l,Vh];rfl
  erw[Z,EWs,O,T]
 have Y:dR (Cn pg (n+1)) (.enm (.frz (.slc @1 .none (.some (.blt .len %[|@0]))))) (Z none none) m=.ok (.enm (.tup (l.map tupI))) m:=by
  rw[nN,ef];rfl
 have BL:l.length=min rl.length ts.length:=Sb;have B:=gK (t:=.tup %[@2,|@3]) (b:=vY) Y (n:=min rl.length ts.length) (by erw[Src.len,Rn,BL]) (rW ts)
  (λ i f A=>A=m/\∃k g,f=Z k g) (λ i J A=>A=m/\∃Z,J=.rz "NoNet" (some ("fault",g7 "times" i)) Z) (λ i J A h=>by let⟨_,Z,rfl⟩:=h;trivial) ⟨rfl,_,_,rfl⟩ (λ i f m1 hi=>by
   rintro⟨rfl,k,g,rfl⟩;have I:i<l.length:=by omega
   have x:i<ts.length:=by omega
   have eq:l[i]=ts[i]:=by simp[l]
   let q:=Z @(.int (i:Nat)) @(tupI ts[i])
   have G:=ya (n:=n) (m:=m1) (S ts[i] (RK x));have eB:rW ts i=!dU ts[i]:=by
    unfold rW;rw[Rq,Rj x];rfl
   have s:bq (Cn pg (n+1)) (.not (.call 20 %[|@3])) q m1=.ok (rW ts i) m1:=by
    have t:bq (Cn pg (n+1)) (.call 20 %[|@3]) q m1=.ok (dU ts[i]) m1:=pU (gE _ _) (by erw[q,Z,EWs,G]);rw[dN,t,eB];rfl
   have V:Src.get (.tup (l.map tupI)) m1 i=.it (tupI ts[i]):=by rw[bg (~~~I),Sx,eq]
   refine⟨_,q,eG V,by simp[Z,q,aK,bW],λ H=>?_,λ H=>?_⟩
   .exact⟨.rz "NoNet" (some ("fault",g7 "times" i)) q,m1,by rw[vY,br (by rw[fP (by rw[s,H]),br (eW rfl)])],rfl,_,rfl⟩
   .exact⟨q,m1,.inl (by rw[vY,aj (by rw[eE (by rw[s,H]),aI]),aI]),rfl,_,_,rfl⟩)
  (fun Z m1 h=>by let⟨rfl,_⟩:=h;exact dP (aR (by rw[Rn];omega)))
 cases u:iI (rW ts) (min rl.length ts.length) 0 with
 |some i=>
  rw[u] at B;let⟨J,m1,F,rfl,f,rfl⟩:=B;erw[fB,u];exact⟨f,by rw[L7,br F]⟩
 |none=>
  rw[u] at B;let⟨f,m1,F,rfl,k,g,rfl⟩:=B;have s:bq (Cn pg (n+1)) (.cmp .NotEq (.blt .len %[|@1]) (.blt .len %[|@0])) (Z k g) m1=.ok (!decide (ts.length=rl.length)) m1:=by
   erw[Z,bO,EWs,O,N,aE,Me]
  by_cases o:ts.length=rl.length
  .have K:fB rl.length ts=none:=by
    unfold fB;rw[u];exact Rf o
   have L:bq (Cn pg (n+1)) (.cmp .NotEq (.blt .len %[|@1]) (.blt .len %[|@0])) (Z k g) m1=.ok false m1:=by rw[s];simp[o]
   rw[K];exact⟨Z k g,by rw[L7,aj F,aj (by rw[eE L,aI]),aI]⟩
  .have K:fB rl.length ts=some (g7 "times" ts.length):=by
    unfold fB;rw[u];exact Ri o
   have L:bq (Cn pg (n+1)) (.cmp .NotEq (.blt .len %[|@1]) (.blt .len %[|@0])) (Z k g) m1=.ok true m1:=by rw[s];simp[o]
   have r:bu (Cn pg (n+1)) (.rais "NoNet" (.some "fault") (.tup %[@"times",|.blt .len %[|@1]])) (Z k g) m1=.ok (.rz "NoNet" (some ("fault",g7 "times" ts.length)) (Z k g)) m1:=eW (by
    erw[Z,EWs,N];rfl)
   rw[K];refine⟨Z k g,?_⟩;rw[L7,aj F];refine br ?_;rw[fP L];exact br r
end
theorem gn{ws:List W}{r:Ss}{o a:Option W}(h:aS (Cn p n) es Z m=.ok ws m)(u:rV (D.bL p n i ws m) m o)(t:o=none->∀l,Cm (m++l)->rV (aD (Cn p n) r Z (m++l)) (m++l) a)(s:∀w,o=some w->a=some w):rV (aD (Cn p n) (.cons (.xc .drop none i es) r) Z m) m a:=by
 let⟨l,k,g⟩:=u;cases o with
 |none=>
  let⟨A,e⟩:=g;let⟨q,f,x⟩:=t rfl l k;refine⟨l++q,by rw[<-Rt];exact f,?_⟩;rw[aj (Ba h e),<-Rt];exact x
 |some w=>
  let⟨A,e⟩:=g;rw[s w rfl];exact⟨l,k,Z,br (pT h e)⟩
def dJ(ks rl lm:List Str)(af:Int)(ps:List (List Pt))(ts:List (List Int)):Option W:=match iI (kr (ks++rl++lm)) (ks++rl++lm).length 0 with
 |some i=>some (g7 "words" i)
 |none=>match manyN ks.length rl.length lm.length with
  |some i=>some (g7 "many" i)
  |none=>if ¬(2<=af/\af<=640) then some (.tup [.str "nodes",.int af]) else if 800<ps.length then some (g7 "pieces" ps.length) else match iI (mO ks rl lm af ps) ps.length 0 with
   |some i=>some (g7 "piece" i)
   |none=>match iI (mP "coil" rl ps) rl.length 0 with
    |some i=>some (g7 "coil" i)
    |none=>match iI (mP "lamp" lm ps) lm.length 0 with
     |some i=>some (g7 "lamp" i)
     |none=>fB rl.length ts
section
variable{n:Nat}{m:Mem}{a b c d e:Nat}{ks rl lm:List Str}{ps:List (List Pt)}{ts:List (List Int)}{af:Int}
theorem uh{l f g:List Str}{p:List Pt}(h:cP l f g af p=true):∃w r,p=.inl w::r/\((w="coil"\/w="lamp")->∃z o,r=.inl z::o):=by
 cases p with
 |nil=>cases h
 |cons x r=>
  cases x with
  |inr i=>cases h
  |inl w=>
   refine⟨w,r,rfl,λ q=>?_⟩;have k:∃ns,namesOf l f g w=some ns:=by
    rcases q with rfl | rfl
    .exact⟨f,rfl⟩
    .exact⟨g,rfl⟩
   let⟨ns,k⟩:=k;erw[cP] at h;split at h
   .cases h
   .rw[k] at h;cases r with
    |nil=>simp[j4] at h
    |cons y r=>
     cases y with
     |inl z=>exact⟨z,r,rfl⟩
     |inr i=>simp[j4] at h
theorem p7(hm:Cm m)(h:Hf m a b c d e ks rl lm ps ts)(o:Bf ks rl lm ps ts):rV (D.bL pg (n+1+1+1+1+1) 7 [.ref a,.ref b,.ref c,.int af,.ref d,.ref e] m) m (dJ ks rl lm af ps ts):=by
 rw[cK rfl rfl]
 let Z:D.Loc:=[@(.ref a),@(.ref b),@(.ref c),@(.int af),@(.ref d),@(.ref e)]
 show rV (aD _ b7 Z m) m _;have wl:ks.length+rl.length+lm.length<=1000:=by have:=o.wl;rw[Ru,Ru] at this;exact this
 rw[b7];refine gn rfl ((lW hm (aG h.k) (aG h.r) (aG h.l) o.wd o.wl).D8 hm) (λ U l1 c1=>?_) (λ w U=>by
  let⟨i,g,rfl⟩:=Q0.mp U;erw[dJ,g])
 have x:=SO.mp U;have F:=h.app (l:=l1);generalize m++l1=m1 at F c1 ⊢;have g2:=mL (n:=n+1+1+1) (gm (aG F.k)) (gm (aG F.r)) (gm (aG F.l));erw[Rn] at g2;refine gn rfl (g2.D8 c1) (λ T l2 c2=>?_) (λ w T=>by
  let⟨i,g,rfl⟩:=Q0.mp T;erw[dJ,x,g])
 have G:=SO.mp T;have O:=F.app (l:=l2);generalize m1++l2=m2 at O c2 ⊢;have lp:bA .len [.ref d] m2=.ok (.int ps.length) m2:=by rw[bX (gm (aG O.p)),Rn]
 refine gn (ws:=[.int af,.int ps.length]) (by erw[Z,EWs,lp]) ((lX).D8 c2) (λ q l3 c3=>?_) (λ w q=>by
  erw[dJ,x,G];split at q
  .ext u;rw[Rf u];exact q
  .ext u;split at q
   .ext hk;rw[Ri u,Rf hk];exact q
   .cases q)
 have A:¬¬(2<=af/\af<=640):=λ u=>by rw[Rf u] at q;cases q
 have s:¬800<ps.length:=λ u=>by rw[Ri A,Rf u] at q;cases q
 have N:=O.app (l:=l3);generalize m2++l3=m3 at N c3 ⊢;refine gn rfl (ku c3 N o) (λ S l4 c4=>?_) (λ w S=>by
  let⟨i,g,rfl⟩:=Q0.mp S;erw[dJ,x,G,Ri A,Ri s,g])
 have J:=SO.mp S;have I:=N.app (l:=l4);generalize m3++l4=m4 at I c4 ⊢;have Mf:∀p∈ps,∃w r,p=.inl w::r/\((w="coil"\/w="lamp")->∃z r',r=.inl z::r'):=λ p B=>by
  let⟨i,g,rfl⟩:=Ug.mp B;have:=rH J i (by omega) (by omega);unfold mO at this;rw[Rq,Rj g] at this;exact uh (~~~this)
 have g5:=eY (n:=n+1+1+1) (word:="coil") c4 I.r I.p 'k' o.sm (λ p B=>by
  let⟨w,r,e,f⟩:=Mf p B;exact⟨w,r,e,λ K=>f (.inl K)⟩) (by omega) (by omega)
 refine gn rfl g5 (λ R Y c5=>?_) (λ w R=>by
  let⟨i,g,rfl⟩:=Q0.mp R;erw[dJ,x,G,Ri A,Ri s,J,g])
 have f5:=SO.mp R;have H:=I.app (l:=Y);generalize m4++Y=m5 at H c5 ⊢;have g6:=eY (n:=n+1+1+1) (word:="lamp") c5 H.l H.p 'k' o.sm (λ p B=>by
  let⟨w,r,e,f⟩:=Mf p B;exact⟨w,r,e,λ K=>f (.inr K)⟩) (by omega) (by omega)
 refine gn rfl g6 (λ Q X V=>?_) (λ w Q=>by
  let⟨i,g,rfl⟩:=Q0.mp Q;erw[dJ,x,G,Ri A,Ri s,J,f5,g])
 have f6:=SO.mp Q;have L:=H.app (l:=X);generalize m5++X=m6 at L V ⊢;have ef:dJ ks rl lm af ps ts=fB rl.length ts:=by erw[dJ,x,G,Ri A,Ri s,J,f5,f6]
 rw[ef];refine gn rfl ((lZ V L.r L.t o.tl).D8 V) (λ P l7 c7=>?_) (λ w P=>P);rw[P];exact⟨[],by rw[R6];exact c7,Z,by rw[R6];rfl⟩
end
section
variable{n:Nat}{m:Mem}{a b c d e p:Nat}{ks rl lm:List Str}{ps:List (List Pt)}{ts:List (List Int)}{af:Int}
theorem Hf.ins{cl:Str}{u:List (Str×W)}{o:O}(s:m[p]?=@(.ins cl u))(h:Hf m a b c d e ks rl lm ps ts):Hf (m.set p o) a b c d e ks rl lm ps ts:=
 have g:∀{x:Nat} {xs:List W},m[x]?=some (.lst xs)->(m.set p o)[x]?=some (.lst xs):=λ {x xs} f=>by
  have q:p≠x:=by rintro rfl;rw[s] at f;cases f
  rw[RN q];exact f
 ⟨g h.k,g h.r,g h.l,g h.p,g h.t⟩
abbrev bE(z:List Str):W:=.fz (z.map .str)
abbrev N1(ks:List Str):List (Str×W):=[("key_list",bE ks)]
abbrev N2(ks rl:List Str):List (Str×W):=[("key_list",bE ks),("relay_list",bE rl)]
abbrev N3(ks rl lm:List Str):List (Str×W):=[("key_list",bE ks),("relay_list",bE rl),("lamp_list",bE lm)]
abbrev N4(ks rl lm:List Str)(af:Int):List (Str×W):=[("key_list",bE ks),("relay_list",bE rl),("lamp_list",bE lm),("many_nodes",.int af)]
abbrev N5(ks rl lm:List Str)(af:Int)(ps:List (List Pt)):List (Str×W):=[("key_list",bE ks),("relay_list",bE rl),("lamp_list",bE lm),("many_nodes",.int af),("piece_list",.fz (ps.map aO))]
abbrev N6(ks rl lm:List Str)(af:Int)(ps:List (List Pt))(ts:List (List Int)):List (Str×W):=[("key_list",bE ks),("relay_list",bE rl),("lamp_list",bE lm),("many_nodes",.int af),("piece_list",.fz (ps.map aO)),("time_list",.fz (ts.map tupI))]
theorem dQ(ps:List (List Pt)):aA (ps.map aO)=true:=vL (λ r=>by simp[aM,lY]) ps
theorem l9{c:Str}{f:List (Str×W)}(g:Cm m)(h:aA (f.map (·.2))=true):Cm (m.set p (.ins c f)):=g.set (bw _ h)
theorem gO{C:Cx}{e:E}{w:W}(k:aq C e Z m=.ok w m)(h:getL m w=some xs)(g:Cm m)(f:aA xs=true):aq C (.frz (.blt .list %[|e])) Z m=.ok (.fz xs) m:=by
 refine bD ?_ rfl g f;rw[cU,av,k];erw[ay,aF,bA,gm h,new]
theorem jO{f:Str}{g fs':List (Str×W)}{v:W}(h:m[p]?=@(.ins "Net" g))(o:cs.flds.contains (("Net":Str),f)=true)(k:g.length<1000)(l:D.d7 f v g=fs'):nq cs (.ref p) f v m=.ok () (m.set p (.ins "Net" fs')):=by
 erw[nq,h];rw[Rf ⟨o,k⟩,l]
theorem rX(U:Cm m)(H:m[p]?=@(.ins "Net" []))(h:Hf m a b c d e ks rl lm ps ts)(o:Bf ks rl lm ps ts) :
  ∃l Z,match dJ ks rl lm af ps ts with
   |some w=>D.bL pg (n+1+1+1+1+1+1) 0 [.ref p,.ref a,.ref b,.ref c,.int af,.ref d,.ref e] m=.ok (.rz "NoNet" (some ("fault",w)) Z) (m++l)/\Cm (m++l)
   |none=>D.bL pg (n+1+1+1+1+1+1) 0 [.ref p,.ref a,.ref b,.ref c,.int af,.ref d,.ref e] m=.ok (.nx Z) ((m++l).set p (.ins "Net" (N6 ks rl lm af ps ts)))/\Cm ((m++l).set p (.ins "Net" (N6 ks rl lm af ps ts))):=by
 let⟨l,q,x⟩:=p7 U h o
 let Z:D.Loc:=[@(.ref p),@(.ref a),@(.ref b),@(.ref c),@(.int af),@(.ref d),@(.ref e)]
 refine⟨l,Z,?_⟩;have K:aS (Cn pg (n+1+1+1+1+1)) %[@1,@2,@3,@4,@5,|@6] Z m=.ok [.ref a,.ref b,.ref c,.int af,.ref d,.ref e] m:=rfl;have G:∀{I:F} {M:Mem},aD (Cn pg (n+1+1+1+1+1)) b0 Z m=.ok I M->D.bL pg (n+1+1+1+1+1+1) 0 [.ref p,.ref a,.ref b,.ref c,.int af,.ref d,.ref e] m=.ok I M:=λ h=>by
  rw[cK rfl rfl];exact h
 cases hf:dJ ks rl lm af ps ts with
 |some w=>
  rw[hf] at x;let⟨V,B⟩:=x;exact⟨G (br (pT K B)),q⟩
 |none=>
  rw[hf] at x;let⟨V,B⟩:=x;have u:=h.app (l:=l);have f:(m++l)[p]?=some (.ins "Net" []):=by rw[Rc (Q4.mp H).1];exact H
  have J:=Ba K B;generalize m++l=M at u f q J ⊢;have A:=(Q4.mp f).1;have g:∀o:O,(M.set p o)[p]?=some o:=λ o=>by rw[RH A]
  have Q:Hf (M.set p (.ins "Net" (N1 ks))) a b c d e ks rl lm ps ts:=u.ins f;have P:Hf (M.set p (.ins "Net" (N2 ks rl))) a b c d e ks rl lm ps ts:=u.ins f;have N:Hf (M.set p (.ins "Net" (N4 ks rl lm af))) a b c d e ks rl lm ps ts:=u.ins f;have L:Hf (M.set p (.ins "Net" (N5 ks rl lm af ps))) a b c d e ks rl lm ps ts:=u.ins f;have m1:Cm (M.set p (.ins "Net" (N1 ks))):=l9 q (by simp[aA,aM,bG]);have m2:Cm (M.set p (.ins "Net" (N2 ks rl))):=l9 q (by simp[aA,aM,bG]);have T:Cm (M.set p (.ins "Net" (N4 ks rl lm af))):=l9 q (by simp[aA,aM,bG]);have S:Cm (M.set p (.ins "Net" (N5 ks rl lm af ps))):=l9 q (by simp[aA,aM,bG,dQ]);have R:Cm (M.set p (.ins "Net" (N6 ks rl lm af ps ts))):=l9 q (by simp[aA,aM,bG,dQ,jg]);have s:∀M,aq (Cn pg (n+1+1+1+1+1)) @0 Z M=.ok (.ref p) M:=λ M=>rfl;refine⟨G ?_,R⟩;rw[b0,aj J];rw[aj (jK (gO rfl (aG u.k) q (bG _)) (s _) (jO (fs':=N1 ks) f rfl 'd' rfl))];rw[aj (jK (gO rfl (aG Q.r) m1 (bG _)) (s _) (jO (fs':=N2 ks rl) (g _) rfl 's' rfl)),UG];rw[aj (jK (gO rfl (aG P.l) m2 (bG _)) (s _) (jO (fs':=N3 ks rl lm) (g _) rfl 's' rfl)),UG];rw[aj (jK rfl (s _) (jO (fs':=N4 ks rl lm af) (g _) rfl 's' rfl)),UG];rw[aj (jK (gO rfl (aG N.p) T (dQ _)) (s _) (jO (fs':=N5 ks rl lm af ps) (g _) rfl 's' rfl)),UG];rw[aj (jK (gO rfl (aG L.t) S (jg _)) (s _) (jO (fs':=N6 ks rl lm af ps ts) (g _) rfl 's' rfl)),UG,aI]
end
theorem um:∀(l f:List Int),(l.foldl PyProof.Rows.step_dedup f).length<=f.length+l.length/\((l.foldl PyProof.Rows.step_dedup f).length=f.length+l.length->l.Nodup/\∀a∈f,a∉l)
 | [],f=>⟨Q7 _,λ _=>⟨VF,λ a _ h=>by cases h⟩⟩
 |x::r,f=>by
  rw[Vo]
  by_cases g:x∈f
  .have e:PyProof.Rows.step_dedup f x=f:=by simp[PyProof.Rows.step_dedup,g]
   have:=(um r f).1;rw[e,RD];exact⟨by omega,λ h=>by omega⟩
  .have e:PyProof.Rows.step_dedup f x=f++[x]:=by simp[PyProof.Rows.step_dedup,g]
   let⟨u,s⟩:=um r (f++[x]);rw[Ru,UM] at u s;rw[e,RD];refine⟨by omega,λ h=>?_⟩;let⟨t,q⟩:=s (by omega);refine⟨Tv.mpr ⟨q x 's',t⟩,λ a o k=>?_⟩;rcases Rk.mp k with rfl | k
   .exact g o
   .exact q a (RJ _ o) k
theorem F3:∀(l f:List Int),l.Nodup->(∀a∈f,a∉l)->(l.foldl PyProof.Rows.step_dedup f).length=f.length+l.length
 | [],f,_,_=>rfl
 |x::r,f,hn,hd=>by
  rw[Vr] at hn;have k:x∉f:=λ h=>hd x h RG;have e:PyProof.Rows.step_dedup f x=f++[x]:=by simp[PyProof.Rows.step_dedup,k]
  rw[Vo,e,F3 r (f++[x]) hn.2 λ a g=>by
   rcases RC.mp g with g | g
   .exact λ h=>hd a g (Ro _ h)
   .rw[RZ] at g;subst g;exact hn.1]
  simp;omega
theorem uo:L2.unlike ns=ns.length↔ns.Nodup:=by
 have e:(List.range ns.length).map (λ i=>ns.getD i 0)=ns:=by
  apply ext_getElem
  .simp
  .intro i f a;simp[List.getD,a]
 unfold L2.unlike PyProof.Rows.firstMet;rw[e];constructor
 .intro h;exact((um ns []).2 (~~~h)).1
 .intro h;have:=F3 ns [] h 's';simpa using this
structure Gd(l:Nat)(z:Str):Prop where
 a:L2.asc z=true
 l:z.length<=l
theorem Gd.asc{l:Nat}(h:Gd l z)(f:l<=1000):FW z:=⟨h.a,Rv h.l f⟩
theorem D9:L2.asc z=true↔∀c∈z.cps.toList,c<128:=by
 unfold L2.asc;rw[<-Array.all_toList,TN];simp
theorem Gd.sm{l:Nat}(h:Gd l z):Sm z:=by
 rw[Sm,UH];intro i f;have:=D9.mp h.a z.cps[i] 's';simp;omega
theorem Wd.gd(h:Wd z):Gd 8 z:=⟨h.asc,h.hi⟩
abbrev Gi(i:Int):Prop:=-1000<=i/\i<=1000000000000
def Gp(l:Nat):Pt->Prop
 |.inl z=>Gd l z
 |.inr i=>Gi i
abbrev Pk(B l:Nat)(p:List Pt):Prop:=p.length<=B/\∀x∈p,Gp l x
abbrev Tk(B:Nat)(t:List Int):Prop:=t.length<=B/\∀i∈t,Gi i
theorem rY{a:Int}:binop .Add (.int a) (.int b) m=.ok (.int (a+b)) m:=rfl
theorem Bv{a:Int}:binop .Sub (.int a) (.int b) m=.ok (.int (a - b)) m:=rfl
theorem Mg(a:∀z∈zs,Sm z):qc m (.fz (zs.map .str)) (.fz [])=.ok (decide (zs=[])) m:=by
 have g:toD 60 m (.fz (zs.map .str))=some (.list (zs.map PyData.str)):=by
  rw[jM,dI (λ z h=>a z h)];rfl
 have f:toD 60 m (.fz [])=some (.list []):=rfl;erw[qc,g,f];cases zs with
 |nil=>rfl
 |cons z r=>rfl
theorem OZ(h:xs.length+ys.length<=lim):binop .Add (.tup xs) (.tup ys) m=.ok (.tup (xs++ys)) m:=by erw[binop];rw[Rf h]
theorem v8(a:Cm m):aq C (.frz (.lst .nil)) Z m=.ok (.fz []) m:=by
 refine bD ?_ rfl a rfl;erw[dX,aF,ay];rw[Rf 'm'];rfl
abbrev dZ(w:Str)(zs:List Str)(ns:List Int):List Pt:=.inl w::(zs.map .inl++ns.map .inr)
theorem j8:aO (dZ w zs ns)=.tup (.str w::(zs.map .str++ns.map .int)):=by
 simp[dZ,aO,pw,UE]
theorem oE{af:Nat}(hw:w="wire"\/w="made"\/w="broken"\/w="swap"\/w="coil"\/w="lamp")(f:∀z∈zs,Gd 8 z)(k:zs.length+ns.length<=4)(g:∀i∈ns,0<=i/\i<(af:Int))(l:af<=100):Pk 5 8 (dZ w zs ns):=by
 refine⟨by simp;omega,λ x a=>?_⟩;erw[dZ,RM,mem_append,mem_map] at a;rcases a with rfl | ⟨z,h,rfl⟩ | ⟨i,h,rfl⟩
 .rcases hw with rfl | rfl | rfl | rfl | rfl | rfl<;>exact⟨by decide +kernel,by decide +kernel⟩
 .exact f z h
 .have:=g i h;exact⟨by omega,by omega⟩
def Vp(zs:List Str)(af:Nat)(a:List Pt):Prop:=∃w ys ns,a=dZ w ys ns/\ns.Nodup/\(∀i∈ns,0<=i/\i<(af:Int))/\((w="wire"/\ys=[]/\ns.length=2)\/((w="made"\/w="broken")/\∃y∈zs,ys=[y]/\ns.length=2)\/(w="swap"/\∃y∈zs,ys=[y]/\ns.length=3))
abbrev Wn(zs:List Str):Prop:=(∀z∈zs,Wd z)/\zs.Nodup
section
variable{ks rl lm:List Str}{ps:List (List Pt)}{ts:List (List Int)}{af:Nat}
theorem oF:∀ns:List Int,iB (ns.map .inr)=some ns
 | []=>rfl
 |x::r=>by simp[iB,oF r]
theorem yb(g:ns.Nodup)(f:∀i∈ns,0<=i/\i<(af:Int)):gM af (ns.map .inr)=true:=by
 unfold gM;rw[oF];erw[uo.mpr g,UI,UK];rw[TN];intro w a;erw[map_map,mem_map,Function.comp] at a;let⟨i,h,rfl⟩:=a;have:=f i h;erw[pw,inN,this.1,this.2,UI,UK]
theorem d8{k:Nat}(g:ns.Nodup)(f:∀i∈ns,0<=i/\i<(af:Int))(s:j3 w=some k)(o:ns.length=k)(a:(w="wire"/\zs=[])\/(w≠"wire"/\∃y,zs=[y]/\∀l,namesOf (ks++rl) rl lm w=some l->y∈l))(u:w="wire"->namesOf (ks++rl) rl lm w=none):cP (ks++rl) rl lm af (dZ w zs ns)=true:=by
 have t:fu (dZ w zs ns)=ns.map .inr:=by
  rcases a with⟨rfl,rfl⟩ | ⟨hw,y,rfl,_⟩
  .rfl
  .show (if w="wire" then _ else _)=_;rw[Ri hw];rfl
 show (match j3 w with | none=>false | some k=>j4 (namesOf (ks++rl) rl lm w) (zs.map .inl++ns.map .inr)&&(decide ((fu (dZ w zs ns)).length=k)&&gM af (fu (dZ w zs ns))))=true;rw[s];erw[t,Rn,o,UI,Uc,yb g f,UK];rcases a with⟨rfl,rfl⟩ | ⟨hw,y,rfl,h⟩
 .rw[u rfl];cases ns<;>rfl
 .show j4 (namesOf (ks++rl) rl lm w) (.inl y::_)=true;cases q:namesOf (ks++rl) rl lm w with
  |none=>rfl
  |some l=>exact RX (h l q)
theorem Vp.ok{g:List Pt}(h:Vp (ks++rl) af g):cP (ks++rl) rl lm af g=true/\nameOf "coil" g=none/\nameOf "lamp" g=none:=by
 let⟨w,ys,ns,rfl,k,f,h⟩:=h;rcases h with⟨rfl,rfl,a⟩ | ⟨hw,y,o,rfl,a⟩ | ⟨rfl,y,o,rfl,a⟩
 .refine⟨d8 k f rfl a (.inl ⟨rfl,rfl⟩) λ _=>rfl,?_,?_⟩<;>(cases ns<;>rfl)
 .rcases hw with rfl | rfl
  .exact⟨d8 k f rfl a (.inr ⟨by decide +kernel,y,rfl,λ l e=>by cases e;exact o⟩) (λ e=>absurd e 'k'),rfl,rfl⟩
  .exact⟨d8 k f rfl a (.inr ⟨by decide +kernel,y,rfl,λ l e=>by cases e;exact o⟩) (λ e=>absurd e 'k'),rfl,rfl⟩
 .exact⟨d8 k f rfl a (.inr ⟨by decide +kernel,y,rfl,λ l e=>by cases e;exact o⟩) (λ e=>absurd e 'k'),rfl,rfl⟩
theorem Ea(g:z∈rl)(f:ns.Nodup)(a:∀i∈ns,0<=i/\i<(af:Int))(h:ns.length=2):cP (ks++rl) rl lm af (dZ "coil" [z] ns)=true:=
 d8 f a rfl h (.inr ⟨by decide +kernel,z,rfl,λ l e=>by cases e;exact g⟩) (λ e=>absurd e 'k')
theorem Eb(g:z∈lm)(f:ns.Nodup)(a:∀i∈ns,0<=i/\i<(af:Int))(h:ns.length=2):cP (ks++rl) rl lm af (dZ "lamp" [z] ns)=true:=
 d8 f a rfl h (.inr ⟨by decide +kernel,z,rfl,λ l e=>by cases e;exact g⟩) (λ e=>absurd e 'k')
theorem gZ(w:Str)(f:List (List Pt))(d:Nat)(p:List Pt):(aN w (f.take d++[p]++f.drop d)).Perm ((nameOf w p).toList++aN w f):=by
 have h:(f.take d++[p]++f.drop d).Perm (p::f):=by
  have:=perm_middle (a:=p) (l₁:=f.take d) (l₂:=f.drop d);rw[UR] at this;simpa using this
 refine(h.filterMap _).trans ?_;cases e:nameOf w p with
 |none=>rw[filterMap_cons_none e];exact .refl _
 |some z=>rw[filterMap_cons_some e];exact .refl _
structure Good(ks rl lm:List Str)(af:Nat)(ps:List (List Pt))(ts:List (List Int)):Prop where
 w:Wn (ks++rl++lm)
 k:ks.length<=2
 r:rl.length<=4
 l:lm.length<=2
 n:2<=af/\af<=640
 np:ps.length<=800
 p:∀pc∈ps,cP (ks++rl) rl lm af pc=true
 c:(aN "coil" ps).Perm rl
 f:(aN "lamp" ps).Perm lm
 nt:ts.length=rl.length
 t:∀t∈ts,dU t=true
theorem Wd.FY(h:Wd z):My.FY z=true:=by
 have k:=h.lo;have g:=h.hi;have f:z.cps.toList.all Bq=true:=RI.mpr λ c a=>by
  have:=h.az c a;erw[Bq,Q5,Sa];exact this
 erw[My.FY,f,UK,Q5,Sa];exact⟨k,g⟩
theorem Good.ok(g:Good ks rl lm af ps ts):dJ ks rl lm af ps ts=none:=by
 have J:∀{o:Type} [Inhabited o] (l:List o) (d:o) (j:Nat) (h:j<l.length),l.getD j d=l[j]:=λ l d j h=>by rw[Rq,Rj h];rfl
 have I:iI (kr (ks++rl++lm)) (ks++rl++lm).length 0=none:=ja λ j _ a=>by
  have a:j<(ks++rl++lm).length:=by omega
  have e:(ks++rl++lm).getD j ""=(ks++rl++lm)[j]:=by rw[Rq,Rj a];rfl
  have B:=(g.w.1 _ (RK a)).FY;have A:=uc g.w.2 a;unfold kr;rw[e,B];simpa using A
 have H:manyN ks.length rl.length lm.length=none:=by
  unfold manyN;rw[Ri (by have:=g.k;omega),Ri (by have:=g.r;omega),Ri (by have:=g.l;omega)]
 have G:iI (mO ks rl lm af ps) ps.length 0=none:=ja λ j _ a=>by
  have a:j<ps.length:=by omega
  have e:ps.getD j []=ps[j]:=by rw[Rq,Rj a];rfl
  unfold mO;rw[e,g.p _ (RK a)];rfl
 have u:∀{w:Str} {zs:List Str},(aN w ps).Perm zs->zs.Nodup->iI (mP w zs ps) zs.length 0=none:=λ {w zs} x hn=>ja λ j _ a=>by
  have a:j<zs.length:=by omega
  have e:zs.getD j ""=zs[j]:=by rw[Rq,Rj a];rfl
  unfold mP;rw[e,x.count_eq,hn.count,Rf (RK a)];rfl
 have q:=g.w.2;rw[T4] at q;have s:=q.1;rw[T4] at s;have F:fB rl.length ts=none:=by
  have:iI (rW ts) (min rl.length ts.length) 0=none:=ja λ j _ a=>by
   have a:j<ts.length:=by omega
   have e:ts.getD j []=ts[j]:=by rw[Rq,Rj a];rfl
   unfold rW;rw[e,g.t _ (RK a)];rfl
  unfold fB;rw[this];erw[];rw[Rf g.nt]
 unfold dJ;rw[I];erw[];rw[H];erw[];have:=g.n;rw[Ri (by omega),Ri (by have:=g.np;omega),G];erw[];rw[u g.c s.2.1];erw[];rw[u g.f q.2.1];exact F
end
theorem toNat_eq{d:Int}(h:0<=d):((d.toNat:Nat):Int)=d:=by omega
theorem O0:Draws (D.runN pg (n+1) 25):=by
 intro m p a g f l;let⟨A,B,h⟩:=g;have g:=(Q4.mp h).1;have q:∀o:O,(m.set p o)[p]?=some o:=λ o=>by simp[g]
 by_cases k:0<A
 .refine⟨A%a,m.set p (iA (A / a) B),?_,⟨_,_,rfl⟩,Va _ (by omega),UB _ f⟩;simp[D.runN_succ,pg,OJ,fj,pB,gb,gr,zm,lJ,qK,o9,qL,pe,qM,pq,uO,pA,kG,qN,nv,ny,nA,nB,nE,nF,nG,nH,gE,lE,nJ,jr,jt,ju,iR,nK,nL,jv,nM,jw,jZ,iF,dN,bO,eU,lH,aH,bh,cZ,lD,gC,dM,mH,gp,dg,gq,bZ,dX,bN,fK,gD,cU,iy,cL,fY,bT,lF,fZ,lG,fc,gF,iS,dG,eV,fh,aK,R.bind,aE,aY,bS,getL,h,L2.uF,L2.BE,bA,qI,outF,k,f,l]
 .refine⟨_,m.set p (iA A ((B*48271+39373)%2147483647)),?_,⟨_,_,rfl⟩,Va (((B*48271+39373)%2147483647)*((B*48271+39373)%2147483647)%2147483629 / 3) (by omega:a≠0),UB _ f⟩;have x:0<=(B*48271+39373)%2147483647:=Va _ 'd';have u:(B*48271+39373)%2147483647<2147483647:=UB _ 'd';have t:iu B 48271=true:=by simp[iu]
  have s:iu ((B*48271+39373)%2147483647) ((B*48271+39373)%2147483647)=true:=by simp[iu];omega
  simp[D.runN_succ,pg,OJ,fj,pB,gb,gr,zm,lJ,qK,o9,qL,pe,qM,pq,uO,pA,kG,qN,nv,ny,nA,nB,nE,nF,nG,nH,gE,lE,nJ,jr,jt,ju,iR,nK,nL,jv,nM,jw,jZ,iF,dN,bO,eU,lH,aH,bh,cZ,lD,gC,dM,mH,gp,dg,gq,bZ,dX,bN,fK,gD,cU,iy,cL,fY,bT,lF,fZ,lG,fc,gF,iS,dG,eV,fh,aK,R.bind,aE,aY,bS,getL,h,q,L2.uF,L2.BE,bA,qI,outF,k,f,l,binop,t,s]
theorem draw{p:Nat}{many:Int}(g:lV m p)(l:0<many)(k:many<1073741824):∃d:Nat,∃a,aT (D.runN pg (n+1) 25) [.ref p,.int many] m=.ok (.int d) a/\PS p m a/\(d:Int)<many:=by
 rw[bB rfl];let⟨d,a,h,s,f,o⟩:=O0 g l k;exact⟨d.toNat,a,by rw[toNat_eq f];exact h,s,by omega⟩
section
variable{C:D.Cx}{e1 e2:E}{Z:D.Loc}{m:Mem}{a b:W}{xs ys:List W}
theorem IZ(h:Cm m)(s:aq C e1 Z m=.ok a m)(q:aq C e2 Z m=.ok b m)(o:getL m a=some xs)(l:getL m b=some ys)(g:aA xs=true)(f:aA ys=true)(k:xs.length+ys.length<=lim):aq C (.frz (.bin .Add e1 e2)) Z m=.ok (.fz (xs++ys)) m:=by
 refine bD ?_ rfl h (by rw[FO,g,f];rfl);erw[cZ,s,q,ay,rS o l k]
theorem I0{lo hi:Oe}{l u:Option Int}(h:Cm m)(q:aq C e1 Z m=.ok a m)(f:getL m a=some xs)(o:qJ C lo Z m=.ok l m)(k:qJ C hi Z m=.ok u m)(g:aA (gB xs l u)=true):aq C (.frz (.slc e1 lo hi)) Z m=.ok (.fz (gB xs l u)) m:=by
 refine bD ?_ rfl h g;erw[fK,q,o,k,ay];cases a<;>simp[getL] at f<;>erw[dW,getL,f,new]
theorem rZ(g:Cm m)(h:aS C es Z m=.ok xs m)(f:aA xs=true)(k:xs.length<=lim):aq C (.frz (.lst es)) Z m=.ok (.fz xs) m:=by
 refine bD ?_ rfl g f;erw[dX,h,ay];rw[Rf k];rfl
end
theorem Ec{k:Nat}:gB xs (some (k:Int)) @((k:Int)+1)=(xs.drop k).take 1:=by
 rw[show ((k:Int)+1)=((k+1:Nat):Int) by omega];erw[gB,HT.iM]
 by_cases h:k<xs.length
 .rw[Ui (by omega),Ui (by omega),SJ]
 .rw[Tn (by omega),Tn (by omega)];simp
theorem O1{k:Nat}(u:k<100):∃A B,aT (D.runN pg (n+1) 24) [.fz (ns.map .int),.int k] m=.ok (.ref m.length) (m++[iA A B]):=by
 have g:iu 7919 k=true:=by simp[iu]
 let Z:D.Loc:=[@(.fz (ns.map .int)),@(.int k),none]
 have a:aA (((ns.map W.int).drop k).take 1)=true:=by rw[<-VD,<-Vh];exact oi _
 have t:aq (Cn pg n) (.frz (.slc @0 (.some @1) (.some (.bin .Add @1 @(1))))) Z []=.ok (.fz (((ns.map W.int).drop k).take 1)) []:=by
  rw[<-Ec] at a ⊢;exact I0 Cm.nil rfl rfl rfl rfl a
 have s:aq (Cn pg n) (.frz (.lst %[|@(0)])) Z []=.ok (.fz [.int 0]) []:=rZ Cm.nil rfl rfl 'm';have q:=IZ Cm.nil t s rfl rfl a rfl (by simp[lim];omega);obtain⟨c,o⟩:∃c:Int,aY (.fz (((ns.map W.int).drop k).take 1++[.int 0])) (.int 0) []=.ok (.int c) []:=by
  have h:=bY (m:=[]) (w:=.fz (((ns.map W.int).drop k).take 1++[.int 0])) (i:=0) rfl 's'
  by_cases l:k<ns.length
  .refine⟨ns[k],h.trans ?_⟩;congr 1;have:((ns.map W.int).drop k).take 1=[.int ns[k]]:=by
    rw[Ue (~~~l)];simp
   simp[this]
  .refine⟨0,h.trans ?_⟩;congr 1;have:((ns.map W.int).drop k).take 1=[]:=by rw[Tn (by simp;omega)];rfl
   simp[this]
 obtain⟨A,B,f⟩:∃A B,D.runN pg (n+1) 24 [.fz (ns.map .int),.int k] []=.ok (.ref 0) [iA A B]:=by
  refine⟨if 0<c - 10^18 then c - 10^18 else 0,((if c<0 then -c else c)+7919*k+5)%2147483587+1,bC rfl rfl ?_⟩;show aD _ OI Z []=_;rw[OI,aj (Z1:=[@(.fz (ns.map .int)),@(.int k),@(.int c)]) (m1:=[]) (aQ ?_ rfl),aL (bz ?_)]
  .simp[aH,bh,cZ,lD,gC,dM,mH,gp,dg,gq,bZ,dX,bN,fK,gD,cU,iy,cL,fY,bT,lF,fZ,lG,fc,gF,iS,dG,R.bind,bA,binop,g,new,lim]
  .rw[bN,q];exact o
 exact⟨A,B,(xY (by simp[aA,aM,oi]) f rfl).trans rfl⟩
section
variable{C:D.Cx}{i:Nat}{js:List Nat}{it e:E}{ifs:Es}{Z:D.Loc}{m:Mem}{xs:List W}{s:Src}{p:W->Bool}{g:W->W}{t:T}{B:W->D.Loc}
theorem I8(A:Cm m)(J:dR C it Z m=.ok s m)(h:∀j,s.get m j=Src.get (.tup xs) m j)(u:s.len m=xs.length)(L:∀x∈xs,aK t x (fR js Z)=@(B x))(K:∀x∈xs,∀y∈xs,aK t y (B x)=@(B y))(o:∀x∈xs,bM C ifs (B x) m=.ok (p x) m)
  (H:∀x∈xs,p x=true->aq C e (B x) m=.ok (g x) m) (q:∀x∈xs,p x=true->aM (g x)=true) (F:xs.length<=lim):aq C (.frz (.comp (.gen t js it ifs (.elt e)))) Z m=.ok (.fz ((xs.filter p).map g)) m:=by
 let⟨k,I⟩:=vO (get:=s.get) (λ j G=>by rw[h,bg G]) (by rw[h];exact aR (by omega)) L K o H F;refine bD (kL J (by rw[u];exact I)) rfl A (eK.mpr λ x l=>?_);let⟨y,a,rfl⟩:=Sg.mp l;let⟨a,f⟩:=S1.mp a;exact q y a f
theorem Mi(k:Cm m)(u:dR C it Z m=.ok s m)(o:∀j,s.get m j=Src.get (.tup xs) m j)(h:s.len m=xs.length)(a:∀x∈xs,bM C ifs ((fR js Z).set i (some x)) m=.ok (p x) m)
  (q:∀x∈xs,p x=true->aq C e ((fR js Z).set i (some x)) m=.ok (g x) m) (f:∀x∈xs,p x=true->aM (g x)=true) (l:xs.length<=lim):aq C (.frz (.comp (.gen (.var i) js it ifs (.elt e)))) Z m=.ok (.fz ((xs.filter p).map g)) m:=
 I8 k u o h (λ x _=>by erw[aK]) (λ x _ y _=>by erw[aK,UG]) a q f l
end
theorem v9(k:Nat)(M:Mem)(j:Nat):Src.get (.rng 0 k) M j=Src.get (.tup ((List.range k).map λ t=>W.int (t:Nat))) M j:=by
 by_cases h:j<k
 .rw[eF h,bg (~~~h)];simp
 .rw[eX h,aR (~~~h)]
section
variable{C:D.Cx}{i:Nat}{js:List Nat}{it e:E}{Z:D.Loc}{m:Mem}{xs:List W}{s:Src}
theorem r8(I:Nat->Mem->List W->Prop){m0:Mem}(L:dR C it Z m0=.ok s m)(A:∀M j,I j M=I j M->s.get M j=Src.get (.tup xs) M j)(K:s.len m=xs.length)(Q:xs.length<=lim)(N:I 0 m [])
  (J:∀(j:Nat) (h:j<xs.length) (M:Mem) (a:List W),I j M a->a.length=j->∃w G,aq C e ((fR js Z).set i (some xs[j])) M=.ok w G/\aM w=true/\I (j+1) G (a++[w])) :
  ∃ws g,aq C (.comp (.gen (.var i) js it .nil (.elt e))) Z m0=.ok (.ref g.length) (g++[.lst ws])/\I xs.length g ws/\ws.length=xs.length/\aA ws=true:=by
 let⟨a,H,g,u,B,q,k,l⟩:=fO (get:=s.get) (t:=.var i) (test:=fun Z m=>bM C .nil Z m) (body:=fun Z m a=>jh C (.elt e) Z m a)
  (λ j F m1 a=>(∀o,F.set i o=(fR js Z).set i o)/\I j m1 a/\a.length=j/\∀w∈a,aM w=true) (λ j F m1 a x=>by
   rintro⟨B,q,k,l⟩;let⟨w,m2,u,P,O⟩:=J j x m1 a q k;refine⟨xs[j],(fR js Z).set i (some xs[j]),by rw[A m1 j rfl,bg x],by erw[aK,B],.inl ⟨m1,a++[w],(fR js Z).set i (some xs[j]),m2,by erw[iT],?_,λ o=>by simp,O,by simp[k],λ y f=>?_⟩⟩
   .have:a.length<lim:=by omega
    erw[nO,u,R.bind,this,RQ]
   .rcases RC.mp f with f | f
    .exact l y f
    .rw[RZ] at f;subst f;exact P) (fun Z m a _=>by rw[A m _ rfl];exact aR (by omega)) xs.length 0 (fR js Z) m [] (by omega) ⟨λ _=>rfl,N,rfl,by simp⟩
 exact⟨a,g,kL L (by rw[K];exact u),q,k,eK.mpr l⟩
end
theorem O2{a:Int}(h:0<b):binop .Mod (.int a) (.int b) m=.ok (.int (a%b)) m:=by
 erw[binop];rw[Rf h]
section
variable{n p:Nat}{m:Mem}{af:Nat}
theorem Mj{x:W}(h:aq C e Z m=.ok (.tup [x,y]) m1):bu C (.asg (.tup %[.pt (.var i),|.pt (.var j)]) e) Z m=.ok (.nx ((Z.set i (some x)).set j (some y))) m1:=by
 rw[gr,h];rfl
theorem two(l:lV m p)(A:2<=af)(B:af<=100):∃(a b:Nat) (k:Mem),aT (D.runN pg (n+1+1) 26) [.ref p,.int af] m=.ok (.tup [.int a,.int b]) k/\PS p m k/\a<af/\b<af/\a≠b:=by
 let⟨f,m1,t,g,x⟩:=draw (n:=n) (many:=af) l (by omega) (by omega);let⟨o,m2,s,q,u⟩:=draw (n:=n) (many:=(af:Int) - 1) (g.iA l) (by omega) (by omega);refine⟨f,(f+1+o)%af,m2,?_,g.trans q,by omega,Nat.mod_lt _ (by omega),λ e=>?_⟩
 .rw[bB rfl];refine bC rfl rfl ?_;show aD _ OL [@(.ref p),@(.int af),none] m=_;rw[OL,aj (Z1:=[@(.ref p),@(.int af),@(.int f)]) (m1:=m1) (aQ (by erw[EWs,t]) rfl),aL (bz ?_)];erw[EWs,rY,Bv,s,O2 (show (0:Int)<af by omega)];rw[Rf 'm'];simp
 .by_cases h:f+1+o<af
  .rw[Nat.mod_eq_of_lt h] at e;omega
  .rw[Nat.mod_eq_sub_mod (by omega),Nat.mod_eq_of_lt (by omega)] at e;omega
theorem Bw(a:Cm m):aq C (.frz (.lst %[@"made",@"broken",@"swap",|@"wire"])) Z m=.ok (.fz [.str "made",.str "broken",.str "swap",.str "wire"]) m:=rZ a rfl rfl 'm'
theorem O3(h:d<4):∃w:Str,aY (.fz [.str "made",.str "broken",.str "swap",.str "wire"]) (.int d) m=.ok (.str w) m/\(w="made"\/w="broken"\/w="swap"\/w="wire"):=by
 match d,h with
 |0,_=>exact⟨_,rfl,.inl rfl⟩
 |1,_=>exact⟨_,rfl,.inr (.inl rfl)⟩
 |2,_=>exact⟨_,rfl,.inr (.inr (.inl rfl))⟩
 |3,_=>exact⟨_,rfl,.inr (.inr (.inr rfl))⟩
theorem I9{i a:Int}:aE .NotIn (.int i) (.tup [.int a,.int b]) m=.ok (!(decide (a=i)||decide (b=i))) m:=by
 simp[aE,jq,toD,eO,PyData.eqv,R.bind];rfl
theorem Ml{P:W->Bool}{Q:Nat->Bool}(h:∀t:Nat,P (.int (t:Nat))=Q t):∀l:List Nat,((l.map λ t=>W.int (t:Nat)).filter P).map id=(l.filter Q).map λ t=>W.int (t:Nat)
 | []=>rfl
 |x::r=>by
  have a:=Ml h r;erw[RU,filter_cons,h];cases Q x
  .exact a
  .erw[RQ,RU,a,id]
theorem others{a b:Nat}{A u q o:W}(H:Cm m)(K:af<=100)(l:Z=[some A,some u,@(.int af),some q,@(.int a),@(.int b),some o,o7,none]) :
  aq C (.frz (.comp (.gen @8 [8] (.rng @2) %[|.cmp .NotIn @8 (.tup %[@4,|@5])] (.elt @8)))) Z m=.ok (.fz (((List.range af).filter λ t=>decide (t≠a/\t≠b)).map λ t=>W.int (t:Nat))) m:=by
 subst l;have h:=Mi (C:=C) (i:=8) (js:=[8]) (it:=.rng @2) (e:=.var 8) (ifs:=.cons (.cmp .NotIn @8 (.tup %[@4,|@5])) .nil) (Z:=[some A,some u,@(.int af),some q,@(.int a),@(.int b),some o,o7,none]) (xs:=(List.range af).map λ t=>W.int (t:Nat)) (s:=.rng 0 af)
  (p:=λ w=>match w with | .int t=>!(decide ((a:Int)=t)||decide ((b:Int)=t)) | _=>false) (g:=id) H (Bc (by erw[EWs]) (by omega)) (λ j=>v9 af m j) (by simp[Src.len]) (λ x f=>by
   let⟨t,B,rfl⟩:=Sg.mp f;erw[iT,bO,aH,bZ,av,aF,fR,fC,fD,fE,fF,ay];rw[Rf 'm'];erw[ay,I9];cases !(decide ((a:Int)=(t:Nat))||decide ((b:Int)=(t:Nat)))<;>rfl) (λ x f _=>by
   let⟨t,B,rfl⟩:=Sg.mp f;erw[aH,fR,fC,fD,fE,fF,id]) (λ x f _=>by
   let⟨t,B,rfl⟩:=Sg.mp f;rfl) (by simp[lim];omega)
 have k:=Ml (P:=λ w=>match w with | .int t=>!(decide ((a:Int)=t)||decide ((b:Int)=t)) | _=>false) (Q:=λ t=>decide (t≠a/\t≠b)) (λ t=>by
  show (!(decide ((a:Int)=(t:Nat))||decide ((b:Int)=(t:Nat))))=decide (t≠a/\t≠b)
  by_cases G:t=a
  .simp[G]
  .have J:¬((a:Int)=(t:Nat)):=by omega
   by_cases F:t=b
   .simp[F]
   .have I:¬((b:Int)=(t:Nat)):=by omega
    simp[G,F,J,I]) (List.range af)
 exact h.trans (by rw[k])
theorem Ed(I:lV m p)(hm:Cm m)(Q:∀z∈zs,Gd 8 z)(hl:zs.length<=100)(n2:3<=af)(s:af<=100) :
  ∃(P:List Pt) (Y:Mem),aT (D.runN pg (n+1+1+1) 27) [.ref p,bE zs,.int af] m=.ok (aO P) Y/\PS p m Y/\Pk 5 8 P/\Vp zs af P:=by
 let⟨d,m1,h1,U,z1⟩:=draw (n:=n+1) (many:=4) I 'd' 'd';let⟨w,hw,u⟩:=O3 (m:=m1) (show d<4 by omega);let⟨a,b,m2,h2,s2,ha,hb,hab⟩:=two (n:=n) (U.iA I) (by omega:2<=af) s;have f:=U.trans s2;have c2:=f.cm hm;have p2:=f.iA I
 let Z (o6 o7:Option W):D.Loc:=[@(.ref p),@(bE zs),@(.int af),@(.str w),@(.int a),@(.int b),o6,o7,none]
 have A:Sm w:=by rcases u with rfl | rfl | rfl | rfl<;>decide +kernel
 have q:bq (Cn pg (n+1+1)) (.or (.cmp .Eq @3 @"wire") (.cmp .Eq @1 (.frz (.lst .nil)))) (Z none none) m2=.ok (decide (w="wire")||decide (zs=[])) m2:=by
  erw[Z,iF,bO,aH,bh,fC,fD,fE,fF,ay,v8 c2,aE,Bt A (show Sm "wire" by decide +kernel),Mg λ z h=>(Q z h).sm]
  by_cases hd:w="wire"
  .rw[RX hd];rfl
  .rw[Ry hd];rfl
 have T:∀{v l},aD (Cn pg (n+1+1)) (match MT with | .cons _ (.cons _ r)=>r | r=>r) (Z none none) m2=.ok (.rt v) l->aT (D.runN pg (n+1+1+1) 27) [.ref p,bE zs,.int af] m=.ok v l:=λ {v l} he=>by
  rw[bB rfl];refine bC rfl rfl ?_;show aD _ MT [@(.ref p),@(bE zs),@(.int af),none,none,none,none,none,none] m=_;rw[MT,aj (Z1:=[@(.ref p),@(bE zs),@(.int af),@(.str w),none,none,none,none,none]) (m1:=m1) (aQ ?_ rfl),aj (Mj (x:=.int a) (y:=.int b) (m1:=m2) (by erw[EWs,h2]))]
  .exact he
  .rw[bN,Bw hm];erw[ay,EWs,h1];exact hw
 have O:∀i∈[(a:Int),(b:Int)],0<=i/\i<(af:Int):=λ i G=>by
  erw[RM,Rx,R0] at G;rcases G with rfl | rfl<;>omega
 have Ef:[(a:Int),(b:Int)].Nodup:=by simp;omega
 by_cases N:w="wire"\/zs=[]
 .have K:(decide (w="wire")||decide (zs=[]))=true:=by simpa using N
  refine⟨dZ "wire" [] [(a:Int),b],m2,T ?_,f,oE (.inl rfl) 's' 's' O s,"wire",[],_,rfl,Ef,O,.inl ⟨rfl,rfl,rfl⟩⟩;show aD _ (.cons (.ife _ _ _) _) _ _=_;refine aL ?_;rw[fP (by rw[q,K])];refine aL (bz ?_);erw[Z,bZ,av,aF,bh,aH,fC,fD,fE,fF,ay];rw[Rf 'm',j8];rfl
 .have K:(decide (w="wire")||decide (zs=[]))=false:=by simpa using N
  have QI:0<zs.length:=by
   rcases zs with _ | ⟨z,r⟩
   .exact absurd (.inr rfl) N
   .simp
  let⟨k,l,h3,H,z3⟩:=draw (n:=n+1) (many:=zs.length) p2 (by omega) (by omega);have c3:=H.cm c2;have hk:k<zs.length:=by omega
  have F:=λ M=>by
   have:=bX (m:=M) (w:=bE zs) rfl;rw[Rn] at this;exact this
  have R:=λ M=>by
   have:=bY (m:=M) (w:=bE zs) rfl (~~~hk);rw[Sx] at this;exact this
  have o:=RK hk;have hn:aq (Cn pg (n+1+1)) (.idx @1 (.call 25 %[@0,|.blt .len %[|@1]])) (Z none none) m2=.ok (.str zs[k]) l:=by
   erw[Z,EWs,F,h3,R]
  have PX:w="made"\/w="broken"\/w="swap":=by
   rcases u with h | h | h | h
   .exact .inl h
   .exact .inr (.inl h)
   .exact .inr (.inr h)
   .exact absurd (.inl h) N
  have hT:bq (Cn pg (n+1+1)) (.cmp .NotEq @3 @"swap") (Z @(.str zs[k]) none) l=.ok (!decide (w="swap")) l:=by
   erw[Z,bO,aH,bh,fC,fD,fE,fF,ay,aE,Bt A (show Sm "swap" by decide +kernel)]
  by_cases L:w="swap"
  .obtain⟨g,J⟩:∃g:List Nat,g=(List.range af).filter λ t=>decide (t≠a/\t≠b):=⟨_,rfl⟩;have e7:=others (C:=Cn pg (n+1+1)) (Z:=Z @(.str zs[k]) none) c3 s rfl;rw[<-J] at e7;have NU:0<g.length:=by
    obtain⟨t,S,h6⟩:∃t,t<af/\(t≠a/\t≠b):=by
     by_cases q0:a≠0/\b≠0
     .exact⟨0,by omega,by omega,by omega⟩
     .by_cases V:a≠1/\b≠1
      .exact⟨1,by omega,by omega,by omega⟩
      .exact⟨2,by omega,by omega,by omega⟩
    exact length_pos_of_mem (a:=t) (by rw[J];exact S1.mpr ⟨TQ.mpr S,RX h6⟩)
   have QJ:g.length<=af:=by
    rw[J];exact Rv (length_filter_le ..) 's'
   let⟨j,X,S,s4,z5⟩:=draw (n:=n+1) (many:=g.length) ((f.trans H).iA I) (by omega) (by omega);have hj:j<g.length:=by omega
   have B:∀t∈g,t<af/\t≠a/\t≠b:=λ t ht=>by
    rw[J] at ht;let⟨V,q2⟩:=S1.mp ht;exact⟨TQ.mp V,SH q2⟩
   have QX:=B _ (RK hj);have ix:=bY (m:=X) (w:=.fz (g.map λ t=>W.int (t:Nat))) (i:=j) rfl (~~~hj);rw[Sx] at ix;have ln:=bX (m:=l) (w:=.fz (g.map λ t=>W.int (t:Nat))) rfl;rw[Rn] at ln;have PY:∀i∈[(a:Int),(b:Int),(g[j]:Nat)],0<=i/\i<(af:Int):=λ i G=>by
    erw[RM,Rx,R0] at G;rcases G with rfl | rfl | rfl<;>omega
   refine⟨dZ "swap" [zs[k]] [(a:Int),b,(g[j]:Nat)],X,T ?_,(f.trans H).trans s4,oE (.inr (.inr (.inr (.inl rfl)))) (by simpa using Q _ o) 's' PY s,"swap",[zs[k]],_,rfl,by simp;omega,PY,.inr (.inr ⟨rfl,zs[k],o,rfl,rfl⟩)⟩;show aD _ (.cons (.ife _ _ _) (.cons (.asg _ _) (.cons (.ife _ _ _) (.cons (.asg _ _) _)))) _ _=_;rw[aj (by rw[eE (by rw[q,K]),aI]),aj (Z1:=Z @(.str zs[k]) none) (aQ hn rfl),aj (by rw[eE (by rw[hT,RX L];rfl),aI]),aj (Z1:=Z @(.str zs[k]) @(.fz (g.map λ t=>W.int (t:Nat)))) (aQ e7 rfl),aL (bz ?_)];erw[Z,bZ,av,aF,EWs,ay,ln,S,ix];rw[Rf 'm',j8,L];rfl
  .refine⟨dZ w [zs[k]] [(a:Int),b],l,T ?_,f.trans H,oE (by rcases PX with rfl | rfl | rfl<;>simp) (by simpa using Q _ o) 's' O s,w,[zs[k]],_,rfl,Ef,O,.inr (.inl ⟨(PX.imp id λ h=>h.resolve_right L),zs[k],o,rfl,rfl⟩)⟩;show aD _ (.cons (.ife _ _ _) (.cons (.asg _ _) (.cons (.ife _ _ _) _))) _ _=_;rw[aj (by rw[eE (by rw[q,K]),aI]),aj (Z1:=Z @(.str zs[k]) none) (aQ hn rfl)];refine aL ?_;rw[fP (by rw[hT,Ry L];rfl)];refine aL (bz ?_);erw[Z,bZ,av,aF,aH,fC,fD,fE,fF,ay];rw[Rf 'm',j8];rfl
theorem Ja(l:lV m p)(P:3<=af)(I:af<=100):∃(ns:List Int) (A:Mem),aT (D.runN pg (n+1+1+1) 28) [.ref p,.str w,.str z,.int af] m=.ok (aO (dZ w [z] ns)) A/\PS p m A/\ns.length=2/\ns.Nodup/\∀i∈ns,0<=i/\i<(af:Int):=by
 let⟨a,b,m1,L,u,q,o,g⟩:=two (n:=n) l (by omega) I;let⟨d,m2,F,H,O⟩:=draw (n:=n+1) (many:=3) (u.iA l) 'd' 'd';have f:=u.trans H;have s:∀{Z1:D.Loc} {h:Mem} {x y:Nat},bu (Cn pg (n+1+1)) (.ife (.cmp .Gt (.call 25 %[@0,|@(3)]) @(0)) %[|.asg (.pt (.tup %[@4,|@5])) (.tup %[.bin .Add @(2) (.call 25 %[@0,|.bin .Sub @3 @(2)]),|@(1)])] .nil) [@(.ref p),@(.str w),@(.str z),@(.int af),@(.int a),@(.int b)] m1=.ok (.nx [@(.ref p),@(.str w),@(.str z),@(.int af),@(.int x),@(.int y)]) h->
   aT (D.runN pg (n+1+1+1) 28) [.ref p,.str w,.str z,.int af] m=.ok (aO (dZ w [z] [(x:Int),y])) h:=λ {Z1 h x y} hs=>by
  rw[bB rfl];refine bC rfl rfl ?_;show aD _ OM [@(.ref p),@(.str w),@(.str z),@(.int af),none,none] m=_;rw[OM,aj (Mj (x:=.int a) (y:=.int b) (m1:=m1) (by erw[EWs,L]))];show aD _ _ [@(.ref p),@(.str w),@(.str z),@(.int af),@(.int a),@(.int b)] m1=_;rw[aj hs,aL (bz ?_)];erw[bZ,av,aF,aH,fC,fD,fE,fF,ay];rw[Rf 'm',j8];rfl
 have k:∀{x y:Nat},x<af->y<af->x≠y->[(x:Int),(y:Int)].length=2/\[(x:Int),(y:Int)].Nodup/\∀i∈[(x:Int),(y:Int)],0<=i/\i<(af:Int):=λ {x y} S Q J=>⟨rfl,by simp;omega,λ i B=>by
  erw[RM,Rx,R0] at B;rcases B with rfl | rfl<;>omega⟩
 by_cases T:0<d
 .let⟨e,h,K,G,N⟩:=draw (n:=n+1) (many:=(af:Int) - 2) (f.iA l) (by omega) (by omega);refine⟨[((2+e:Nat):Int),((1:Nat):Int)],h,s (Z1:=[]) ?_,f.trans G,(k (x:=2+e) (y:=1) (by omega) (by omega) (by omega)).1,(k (x:=2+e) (y:=1) (by omega) (by omega) (by omega)).2.1,(k (x:=2+e) (y:=1) (by omega) (by omega) (by omega)).2.2⟩;have t:decide ((0:Int)<d)=true:=RX (by omega);rw[fP (m1:=m2) (by erw[bO,EWs,F,aE,t])];rw[aj (Z1:=[@(.ref p),@(.str w),@(.str z),@(.int af),@(.int (2+e:Nat)),@(.int (1:Nat))]) (m1:=h) ?_,aI];rw[gr];erw[EWs,Bv,K,rY];rw[Rf 'm'];simp[R.bind,eV,aK,bW]
 .refine⟨[(a:Int),(b:Int)],m2,s (Z1:=[]) ?_,f,(k q o g).1,(k q o g).2.1,(k q o g).2.2⟩;have t:decide ((0:Int)<d)=false:=Ry (by omega);rw[eE (m1:=m2) (by erw[bO,EWs,F,aE,t]),aI]
end
abbrev MG(m:Mem)(p:Nat)(A B:Int)(l:Mem):Mem:=m.set p (iA A B)++l
section
variable{m l:Mem}{p n:Nat}{A B:Int}
theorem MG.len:(MG m p A B l).length=m.length+l.length:=by simp[MG]
theorem MG.at_(i:Nat):(MG m p A B l)[m.length+i]?=l[i]?:=by
 rw[Rp 's'];simp
theorem MG.iA(a:p<m.length):lV (MG m p A B l) p:=⟨A,B,by rw[Rc (~~~a),RH a]⟩
theorem MG.ps(g:p<m.length)(s:PS p (MG m p A B l) M):∃f a,M=MG m p f a l:=by
 let⟨f,a,rfl⟩:=s;exact⟨f,a,by rw[MG,set_append_left _ _ (~~~g),UG]⟩
theorem MG.cm(f:Cm m)(g:∀o∈l,dF 0 o=true):Cm (MG m p A B l):=by
 refine(f.set (o:=D.iA A B) rfl).app λ o a=>jL (TL _) (g o a)
theorem MG.app{a:Mem}:MG m p A B l++a=MG m p A B (l++a):=Rt ..
theorem MG.Mm(i:Nat)(o:O):(MG m p A B l).set (m.length+i) o=MG m p A B (l.set i o):=by
 rw[MG,Ua _ _ 's'];simp
theorem Bx(h:lV m p):∃A B,m=MG m p A B []:=let ⟨A,B,e⟩:=h;⟨A,B,by rw[MG,R6,set_same e]⟩
theorem p8{k:Nat}(h:m[k]?=@(.lst ys)):kdOf m (.ref k)=.lst:=by erw[kdOf,h]
theorem F4{most:Nat}{g:Mem}{k:W}{o4:Option W}(q:p<m.length)(U:Cm m)(Y:1<=most)(X:most<=4)(V:ns.length<=100)(K:∀o∈g,dF 0 o=true) :
  ∃(x y:Int) (R Q:Int) (g':Mem),aD (Cn pg (n+1)) om [@(.ref p),@(.int most),@(.ref m.length),some k,o4] (MG m p A B (.lst (ns.map .int)::g))=.ok (.nx [@(.ref p),@(.int most),@(.ref m.length),some k,@(.int x)]) (MG m p R Q (.lst ((ns++[x,y]).map .int)::g'))/\(∀o∈g',dF 0 o=true)/\1<=x/\x<=y/\y<=4:=by
 let⟨d,m1,P,I,T⟩:=draw (n:=n) (many:=most) (MG.iA (A:=A) (B:=B) (l:=.lst (ns.map .int)::g) q) (by omega) (by omega);let⟨F,u,rfl⟩:=MG.ps q I;let⟨e,m2,N,H,S⟩:=draw (n:=n) (many:=(most:Int)+1 - (1+d)) (MG.iA (A:=F) (B:=u) (l:=.lst (ns.map .int)::g) q) (by omega) (by omega);let⟨f,a,rfl⟩:=MG.ps q H
 let x:Int:=1+d
 let y:Int:=1+d+e
 refine⟨x,y,f,a,g++[.lst [.int x,.int y]],?_,λ o h=>?_,by omega,by omega,by omega⟩
 .rw[om,aj (Z1:=[@(.ref p),@(.int most),@(.ref m.length),some k,@(.int x)]) (m1:=MG m p F u (.lst (ns.map .int)::g)) (aQ (by erw[EWs,P,rY];rfl) rfl)];refine(aj (jb (w:=.non) ?_)).trans rfl;have G:∀{A B:Int} {g:Mem},(MG m p A B (.lst (ns.map .int)::g))[m.length]?=some (.lst (ns.map .int)):=λ {A B g}=>MG.at_ 0;have L:(MG m p f a (.lst (ns.map .int)::g)++[O.lst [.int x,.int y]])[(MG m p f a (.lst (ns.map .int)::g)).length]?=some (.lst [.int x,.int y]):=by simp
  have J:bQ (.ref m.length) "extend" [.ref (MG m p f a (.lst (ns.map .int)::g)).length] (MG m p f a (.lst (ns.map .int)::g)++[O.lst [.int x,.int y]])=.ok .non (MG m p f a (.lst ((ns++[x,y]).map .int)::(g++[.lst [.int x,.int y]]))):=by
   have s:(MG m p f a (.lst (ns.map .int)::g)++[O.lst [.int x,.int y]])[m.length]?=some (.lst (ns.map .int)):=by rw[MG.app];exact G
   erw[bQ,s,ee];rw[Ri 'd',Ri 'd',Ri 'd',Ri 'd',Rf trivial];erw[lB,L];rw[Rf (by simp[lim];omega),MG.app];have:=MG.Mm (m:=m) (p:=p) (A:=f) (B:=a) (l:=(.lst (ns.map .int)::g)++[O.lst [.int x,.int y]]) 0 (.lst (ns.map .int++[.int x,.int y]));rw[VA] at this;rw[this];simp
  have t:aq (Cn pg (n+1)) (.lst %[@4,|.bin .Add @4 (.call 25 %[@0,|.bin .Sub (.bin .Add @1 @(1)) @4])]) [@(.ref p),@(.int most),@(.ref m.length),some k,@(.int x)] (MG m p F u (.lst (ns.map .int)::g))=.ok (.ref (MG m p f a (.lst (ns.map .int)::g)).length) (MG m p f a (.lst (ns.map .int)::g)++[O.lst [.int x,.int y]]):=by
   erw[x,EWs,rY,Bv,N];rw[Rf 'm'];rfl
  rw[cL,aH];erw[fC,fD,fE,fF,ay];rw[Rf (by rw[p8 G];decide),av,t];erw[ay,aF];exact J
 .rcases RC.mp h with h | h
  .exact K o h
  .rw[RZ] at h;subst h;rfl
theorem time{most:Nat}(K:lV m p)(L:Cm m)(P:1<=most)(O:most<=4):∃(t:List Int) (A B:Int) (l:Mem),aT (D.runN pg (n+1+1) 29) [.ref p,.int most] m=.ok (tupI t) (MG m p A B l)/\(∀o∈l,dF 0 o=true)/\Tk 4 t/\dU t=true:=by
 let⟨u,q,e0⟩:=Bx K;have h:=K.lt;have U:aq (Cn pg (n+1)) (.lst .nil) [@(.ref p),@(.int most),none,none,none] m=.ok (.ref m.length) (MG m p u q [.lst []]):=by
  erw[dX,aF,ay];rw[Rf 'm'];show R.ok (W.ref m.length) (m++[.lst []])=_;rw[e0,MG.app];simp[MG]
 let⟨x,y,A1,B1,Y,f1,G,x1,xy,y4⟩:=F4 (n:=n) (A:=u) (B:=q) (most:=most) (ns:=[]) (g:=[]) (k:=.int (0+((0:Nat):Int))) (o4:=none) h L P O 's' 's';let⟨a,f,J,I,H,f2,HE,T,S,Q⟩:=F4 (n:=n) (A:=A1) (B:=B1) (most:=most) (ns:=[x,y]) (g:=Y) (k:=.int (0+((1:Nat):Int))) (o4:=@(.int x)) h L P O 's' G;refine⟨[x,y,a,f],J,I,.lst (([x,y]++[a,f]).map .int)::H,?_,λ o F=>?_,⟨by simp,λ i N=>?_⟩,?_⟩
 rotate_left
 .rcases Rk.mp F with rfl | F
  .rfl
  .exact HE o F
 .erw[RM,Rx,R0] at N;rcases N with rfl | rfl | rfl | rfl<;>(constructor<;>omega)
 .simp[dU,j5];omega
 rw[bB rfl];refine bC rfl rfl ?_;show aD _ ON [@(.ref p),@(.int most),none,none,none] m=_;rw[ON,aj (Z1:=[@(.ref p),@(.int most),@(.ref m.length),none,none]) (m1:=MG m p u q [.lst []]) (aQ U rfl)];have V:bu (Cn pg (n+1)) (.for_ @3 (.rng @(2)) om) [@(.ref p),@(.int most),@(.ref m.length),none,none] (MG m p u q [.lst []])=.ok (.nx [@(.ref p),@(.int most),@(.ref m.length),@(.int (0+((1:Nat):Int))),@(.int a)]) (MG m p J I (.lst (([x,y]++[a,f]).map .int)::H)):=by
  refine lR (s:=.rng 0 2) (Bc (n:=2) rfl 'd') ?_;refine(gX (get:=(Src.rng 0 2).get) (t:=.var 3) (kJ:=fun Z m=>aD (Cn pg (n+1)) om Z m) (k:=1) (i:=0) (Z:=[@(.ref p),@(.int most),@(.ref m.length),none,none]) (m:=MG m p u q [.lst []]) (eF 'd') rfl f1).trans ?_;refine(gX (get:=(Src.rng 0 2).get) (t:=.var 3) (kJ:=fun Z m=>aD (Cn pg (n+1)) om Z m) (k:=0) (i:=1) (Z:=[@(.ref p),@(.int most),@(.ref m.length),@(.int (0+((0:Nat):Int))),@(.int x)]) (eF 'd') rfl f2).trans ?_;exact i9 (eX 'd')
 rw[aj V,aL (bz ?_)];have X:(MG m p J I (.lst (([x,y]++[a,f]).map .int)::H))[m.length]?=some (.lst (([x,y]++[a,f]).map .int)):=MG.at_ 0;erw[EWs,bA,bS,getL,X];rfl
end
def Jq(af:Nat)(a:List Pt):Prop:=∃w zs ns,a=dZ w zs ns/\((w="wire"/\zs=[])\/((w="made"\/w="broken"\/w="swap"\/w="coil"\/w="lamp")/\∃y:Str,zs=[y]))/\2<=ns.length/\ns.Nodup/\∀i∈ns,0<=i/\i<(af:Int)
theorem Vp.PZ{af:Nat}{g:List Pt}(h:Vp zs af g):Jq af g:=by
 let⟨w,ys,ns,rfl,f,a,h⟩:=h;rcases h with⟨rfl,rfl,k⟩ | ⟨hw,y,l,rfl,k⟩ | ⟨rfl,y,l,rfl,k⟩
 .exact⟨_,_,_,rfl,.inl ⟨rfl,rfl⟩,by omega,f,a⟩
 .exact⟨_,_,_,rfl,.inr ⟨by rcases hw with rfl | rfl<;>simp,y,rfl⟩,by omega,f,a⟩
 .exact⟨_,_,_,rfl,.inr ⟨by simp,y,rfl⟩,by omega,f,a⟩
structure Jw(ks rl lm:List Str)(af:Nat)(c l:List Str)(qs:List (List Pt)):Prop where
 p:∀pc∈qs,Pk 5 8 pc/\Jq af pc/\cP (ks++rl) rl lm af pc=true
 c:(aN "coil" qs).Perm c
 l:(aN "lamp" qs).Perm l
theorem wc{a:List (List Pt)}{p x:List Pt}(h:x∈a.take d++[p]++a.drop d):x∈a\/x=p:=by
 erw[mem_append,RZ] at h;rcases h with (h | h) | h
 .exact .inl (mem_of_mem_take h)
 .exact .inr h
 .exact .inl (mem_of_mem_drop h)
section
variable{ks rl lm c l:List Str}{af d:Nat}{qs:List (List Pt)}{z:Str}{ns:List Int}
theorem Jw.Ja(h:Jw ks rl lm af c l qs)(s:z∈rl)(t:Gd 8 z)(q:af<=100)(u:ns.length=2)(k:ns.Nodup)(a:∀i∈ns,0<=i/\i<(af:Int)):Jw ks rl lm af (c++[z]) l (qs.take d++[dZ "coil" [z] ns]++qs.drop d):=by
 refine⟨λ o g=>?_,?_,?_⟩
 .rcases wc g with g | rfl
  .exact h.p o g
  .exact⟨oE 's' (~~~t) (by simp;omega) a q,⟨_,_,_,rfl,.inr ⟨by simp,z,rfl⟩,by omega,k,a⟩,Ea s k a u⟩
 .have e:(nameOf "coil" (dZ "coil" [z] ns)).toList=[z]:=rfl;have f:=gZ "coil" qs d (dZ "coil" [z] ns);rw[e] at f;exact(f.trans (h.c.cons z)).trans (perm_append_comm (l₁:=[z]))
 .have e:(nameOf "lamp" (dZ "coil" [z] ns)).toList=[]:=rfl;have f:=gZ "lamp" qs d (dZ "coil" [z] ns);rw[e] at f;exact f.trans h.l
theorem Jw.O4(h:Jw ks rl lm af c l qs)(s:z∈lm)(t:Gd 8 z)(q:af<=100)(u:ns.length=2)(k:ns.Nodup)(a:∀i∈ns,0<=i/\i<(af:Int)):Jw ks rl lm af c (l++[z]) (qs.take d++[dZ "lamp" [z] ns]++qs.drop d):=by
 refine⟨λ o g=>?_,?_,?_⟩
 .rcases wc g with g | rfl
  .exact h.p o g
  .exact⟨oE 's' (~~~t) (by simp;omega) a q,⟨_,_,_,rfl,.inr ⟨by simp,z,rfl⟩,by omega,k,a⟩,Eb s k a u⟩
 .have e:(nameOf "coil" (dZ "lamp" [z] ns)).toList=[]:=rfl;have f:=gZ "coil" qs d (dZ "lamp" [z] ns);rw[e] at f;exact f.trans h.c
 .have e:(nameOf "lamp" (dZ "lamp" [z] ns)).toList=[z]:=rfl;have f:=gZ "lamp" qs d (dZ "lamp" [z] ns);rw[e] at f;exact(f.trans (h.l.cons z)).trans (perm_append_comm (l₁:=[z]))
theorem Jw.start{ps:List (List Pt)}(h:∀a∈ps,Pk 5 8 a/\Vp (ks++rl) af a):Jw ks rl lm af [] [] ps:=by
 have f:∀{w:Str},(∀a∈ps,nameOf w a=none)->(aN w ps).Perm []:=λ {w} hn=>by
  have:aN w ps=[]:=List.filterMap_eq_nil_iff.mpr hn;rw[this]
 exact⟨λ a g=>⟨(h a g).1,(h a g).2.PZ,((h a g).2.ok).1⟩,f λ a g=>((h a g).2.ok (lm:=lm)).2.1,f λ a g=>((h a g).2.ok (lm:=lm)).2.2⟩
end
abbrev wL(p q af:Nat)(ks rl lm:List Str)(a o7 o8:Option W):D.Loc:=[@(.ref p),@(bE ks),@(bE rl),@(bE lm),@(.int af),@(.ref q),a,o7,o8,none,none]
section
variable{m:Mem}{n p af:Nat}{A B:Int}{ks rl lm:List Str}{ps:List (List Pt)}
theorem Mn(k:Nat)(ps:List (List Pt)):dF k (.lst (ps.map aO))=true:=bw _ (dQ _)
theorem O5(f:p<m.length)(P:ps.length<=100)(x:3<=af)(F:af<=100) :
  ∃(a:List (List Pt)) (O L:Int),aD (Cn pg (n+1+1+1)) Bo (wL p m.length af ks rl lm @(.str w) o7 @(.str z)) (MG m p A B [.lst (ps.map aO)])=.ok (.nx (wL p m.length af ks rl lm @(.str w) o7 @(.str z))) (MG m p O L [.lst (a.map aO)])/\
   ∃d ns,a=ps.take d++[dZ w [z] ns]++ps.drop d/\ns.length=2/\ns.Nodup/\∀i∈ns,0<=i/\i<(af:Int):=by
 have k:∀{A B:Int} {ps:List (List Pt)},(MG m p A B [.lst (ps.map aO)])[m.length]?=some (.lst (ps.map aO)):=λ {A B ps}=>MG.at_ 0;let⟨d,m1,I,s,Q⟩:=draw (n:=n+1+1) (many:=(ps.length:Int)+1) (MG.iA (A:=A) (B:=B) (l:=[.lst (ps.map aO)]) f) (by omega) (by omega);let⟨N,K,rfl⟩:=MG.ps f s;let⟨ns,m2,e,q,G,u,t⟩:=Ja (n:=n) (w:=w) (z:=z) (MG.iA (A:=N) (B:=K) (l:=[.lst (ps.map aO)]) f) x F;let⟨h,g,rfl⟩:=MG.ps f q;have H:d<=ps.length:=by omega
 let a:=ps.take d++[dZ w [z] ns]++ps.drop d
 have J:bQ (.ref m.length) "insert" [.int d,aO (dZ w [z] ns)] (MG m p h g [.lst (ps.map aO)])=.ok .non (MG m p h g [.lst (a.map aO)]):=by
  erw[bQ,k,ee];rw[Ri 'd',Ri 'd',Ri 'd',Ri 'd',Ri 'd',Rf trivial];erw[lC];rw[Rf ⟨by omega,by rw[Rn];omega,by rw[Rn];erw[lim];omega⟩];have:=MG.Mm (m:=m) (p:=p) (A:=h) (B:=g) (l:=[.lst (ps.map aO)]) 0 (.lst (a.map aO));rw[VA] at this;erw[a,T9,Vh,VD,RU,Vi,S4] at this ⊢;rw[this];rfl
 refine⟨a,h,g,(aj (jb (w:=.non) ?_)).trans rfl,d,ns,rfl,G,u,t⟩;have o:=bX (m:=MG m p A B [.lst (ps.map aO)]) (w:=.ref m.length) (gm (aG k));rw[Rn] at o;rw[cL,aH];erw[fC,fD,fE,fF,ay];rw[Rf (by rw[p8 k];decide)];erw[EWs,o,rY,I,e];exact J
theorem r9{o8:Option W}(P:p<m.length)(Y:ps.length<=50)(QI:zs.length<=10)(N:3<=af)(O:af<=100)(q:Nat->List (List Pt)->Prop)(F:q 0 ps)
  (R:∀(j:Nat) (H:j<zs.length) (G:List (List Pt)) (d:Nat) (ns:List Int),q j G->ns.length=2->ns.Nodup->(∀i∈ns,0<=i/\i<(af:Int))->q (j+1) (G.take d++[dZ w [zs[j]] ns]++G.drop d)) :
  ∃(f:List (List Pt)) (X V:Int) (k:Option W),aD (Cn pg (n+1+1+1)) rQ (wL p m.length af ks rl lm @(.str w) @(bE zs) o8) (MG m p A B [.lst (ps.map aO)])=.ok (.nx (wL p m.length af ks rl lm @(.str w) @(bE zs) k)) (MG m p X V [.lst (f.map aO)])/\f.length=ps.length+zs.length/\q zs.length f:=by
 let⟨L,M2,Q,k,a,x,u,rfl,rfl,o,g⟩:=kK (C:=Cn pg (n+1+1+1)) (t:=.var 8) (it:=.var 7) (b:=Bo) (Z:=wL p m.length af ks rl lm @(.str w) @(bE zs) o8) (m:=MG m p A B [.lst (ps.map aO)]) (m1:=MG m p A B [.lst (ps.map aO)]) (s:=.tup (zs.map .str)) rfl (n:=zs.length) (by simp[Src.len])
  (λ j Z I=>∃(k:Option W) (a:List (List Pt)) (x u:Int),Z=wL p m.length af ks rl lm @(.str w) @(bE zs) k/\I=MG m p x u [.lst (a.map aO)]/\a.length=ps.length+j/\q j a) ⟨o8,ps,A,B,rfl,rfl,rfl,F⟩ (λ j Z I H=>by
   rintro⟨k,a,x,u,rfl,rfl,o,g⟩;let⟨l,K,J,e,d,ns,F,U,T,S⟩:=O5 (n:=n) (A:=x) (B:=u) (ks:=ks) (rl:=rl) (lm:=lm) (ps:=a) (w:=w) (z:=zs[j]) (o7:=@(bE zs)) P (by omega) N O;exact⟨.str zs[j],wL p m.length af ks rl lm @(.str w) @(bE zs) @(.str zs[j]),wL p m.length af ks rl lm @(.str w) @(bE zs) @(.str zs[j]),MG m p K J [.lst (l.map aO)],by rw[bg (~~~H),Sx],rfl,.inl e,@(.str zs[j]),l,K,J,rfl,rfl,by rw[F];simp;omega,F▸R j H a d ns g U T S⟩) (fun Z I h=>aR 's')
 exact⟨a,x,u,k,(aj Q).trans rfl,o,g⟩
end
section
variable{m:Mem}{n p:Nat}{A B:Int}
theorem MG.mg{h g:Int}{l a:Mem}(f:p<m.length):MG (MG m p h g l) p A B a=MG m p A B (l++a):=by
 rw[MG,MG,set_append_left _ _ (~~~f),UG,Rt]
theorem names{L:List Str}{K:Int}{r:D.Loc}(a:p<m.length)(h:Cm m)(G:0<K)(F:K<=100)
  (k:∀A B,aq (Cn pg (n+1)) (.frz (.lst es)) (some (.ref p)::r) (MG m p A B [])=.ok (bE L) (MG m p A B [])) :
  ∃(d:Nat) (u s:Int),aq (Cn pg (n+1)) (.frz (.slc (.frz (.lst es)) .none (.some (.call 25 %[@0,|.cst (.int K)])))) (some (.ref p)::r) (MG m p A B [])=.ok (bE (L.take d)) (MG m p u s [])/\(d:Int)<K:=by
 let⟨d,m1,o,g,x⟩:=draw (n:=n) (many:=K) (MG.iA (A:=A) (B:=B) (l:=[]) a) (by omega) (by omega);let⟨t,q,rfl⟩:=MG.ps a g;refine⟨d,t,q,bD ?_ (by rw[MG.len,MG.len]) (MG.cm h 's') (bG _),by omega⟩;rw[fK,k];have f:∀M,dW (bE L) none (some (d:Int)) M=.ok (.ref M.length) (M++[.lst ((L.take d).map .str)]):=λ M=>by
  erw[dW,getL,jf,Vh,new]
 erw[ay,jx,f9,EWs,o,f]
structure jQ(ks rl lm:List Str)(af:Nat)(ps:List (List Pt))(ts:List (List Int)):Prop where
 g:Good ks rl lm af ps ts
 p:∀pc∈ps,Pk 5 8 pc/\Jq af pc
 t:∀t∈ts,Tk 4 t
 n:af<=100
 l:ps.length<=100
abbrev BO:List Str:=["ka","kb"]
abbrev Eg:List Str:=["ra","rb","rc","rd"]
abbrev F5:List Str:=["la","lb"]
theorem fixed{a b:Nat}:Wn (BO.take a++Eg.take b++F5.take c):=by
 have f:(BO.take a++Eg.take b++F5.take c).Sublist (BO++Eg++F5):=((UW ..).append (UW ..)).append (UW ..);refine⟨λ z g=>?_,f.nodup 'k'⟩;have:=f.subset g;erw[BO,Eg,F5,cons_append,Vs,RM,Rx,R0] at this;rcases this with rfl | rfl | rfl | rfl | rfl | rfl | rfl | rfl<;>exact⟨by decide +kernel,by decide +kernel,by decide +kernel⟩
theorem Eh{af:Nat}{ks rl lm:List Str}(G:p<m.length)(R:Cm m)(T:∀z∈ks++rl,Gd 8 z)(hl:ks.length+rl.length<=20)(P:3<=af)(Q:af<=100) :
  ∃(ps:List (List Pt)) (A' X:Int),aq (Cn pg (n+1+1+1)) (.comp (.gen @10 [10] (.rng (.bin .Add @(2) (.call 25 %[@0,|@(12)]))) .nil (.elt (.call 27 %[@0,.frz (.bin .Add @1 @2),|@4])))) [@(.ref p),@(bE ks),@(bE rl),@(bE lm),@(.int af),none,none,none,none,none,none] (MG m p A B [])=.ok (.ref m.length) (MG m p A' X [.lst (ps.map aO)])/\
   ps.length<=20/\∀a∈ps,Pk 5 8 a/\Vp (ks++rl) af a:=by
 let⟨d,m1,e1,O,z1⟩:=draw (n:=n+1+1) (many:=12) (MG.iA (A:=A) (B:=B) (l:=[]) G) 'd' 'd';let⟨N,L,rfl⟩:=MG.ps G O;have H:=r8 (C:=Cn pg (n+1+1+1)) (i:=10) (js:=[10]) (it:=.rng (.bin .Add @(2) (.call 25 %[@0,|@(12)]))) (e:=.call 27 %[@0,.frz (.bin .Add @1 @2),|@4])
  (Z:=[@(.ref p),@(bE ks),@(bE rl),@(bE lm),@(.int af),none,none,none,none,none,none]) (m0:=MG m p A B []) (m:=MG m p N L []) (s:=.rng 0 (2+d)) (xs:=(List.range (2+d)).map λ t=>W.int (t:Nat))
  (λ j M F=>∃(u q:Int) (f:List (List Pt)),M=MG m p u q []/\F=f.map aO/\f.length=j/\∀a∈f,Pk 5 8 a/\Vp (ks++rl) af a)
  (Bc (by erw[EWs,e1,rY];rfl) (by omega)) (λ M j _=>v9 (2+d) M j) (by simp[Src.len]) (by simp[lim];omega) ⟨N,L,[],rfl,rfl,rfl,by simp⟩ (λ j hj M F h U=>by
   let⟨u,q,f,rfl,rfl,g,I⟩:=h;have K:=MG.cm (p:=p) (A:=u) (B:=q) (l:=[]) R 's';let⟨a,M2,e,s,k,v⟩:=Ed (n:=n) (zs:=ks++rl) (MG.iA (A:=u) (B:=q) (l:=[]) G) K T (by rw[Ru];omega) P Q;let⟨Y,V,rfl⟩:=MG.ps G s;refine⟨aO a,_,?_,by simp[aO,aM,lY],Y,V,f++[a],rfl,by simp,by simp[g],λ x o=>?_⟩
   .have J:=IZ (C:=Cn pg (n+1+1+1)) (e1:=.var 1) (e2:=.var 2) (Z:=((fR [10] [@(.ref p),@(bE ks),@(bE rl),@(bE lm),@(.int af),none,none,none,none,none,none]).set 10 @(((List.range (2+d)).map λ t=>W.int (t:Nat))[j]))) K rfl rfl rfl rfl (bG ks) (bG rl) (by simp[lim];omega);rw[<-T9] at J;erw[bK,av,aF,aH,fR,fC,fD,fE,fF,ay] at J ⊢;rw[J];erw[ay,e]
   .rcases RC.mp o with o | o
    .exact I x o
    .rw[RZ] at o;subst o;exact⟨k,v⟩)
 let⟨ws,M',e,⟨u,q,f,rfl,rfl,g,I⟩,S,_⟩:=H;refine⟨f,u,q,?_,by rw[g];simp;omega,I⟩;rw[e,MG.len,MG.app];rfl
theorem Mp{k:Nat}(h:k<=4):∃most:Nat,aY (.fz [.int 4,.int 4,.int 4,.int 2,.int 1]) (.int k) M=.ok (.int most) M/\1<=most/\most<=4:=by
 match k,h with
 |0,_=>exact⟨4,rfl,by decide,by decide⟩
 |1,_=>exact⟨4,rfl,by decide,by decide⟩
 |2,_=>exact⟨4,rfl,by decide,by decide⟩
 |3,_=>exact⟨2,rfl,by decide,by decide⟩
 |4,_=>exact⟨1,rfl,by decide,by decide⟩
theorem Jb{ps:List (List Pt)}{rl:List Str}(N:p<m.length)(P:Cm m)(hr:rl.length<=4)(U:∀x,aq (Cn pg (n+1+1)) @0 ((fR [8] Z).set 8 x)=λ M=>.ok (.ref p) M)(T:∀x,aq (Cn pg (n+1+1)) @2 ((fR [8] Z).set 8 x)=λ M=>.ok (bE rl) M)(S:∀M,dR (Cn pg (n+1+1)) @2 Z M=.ok (.tup (rl.map .str)) M) :
  ∃(ts:List (List Int)) (A' B':Int),aq (Cn pg (n+1+1)) (.frz (.comp (.gen @8 [8] @2 .nil (.elt (.call 29 %[@0,|.idx (.frz (.lst %[@(4),@(4),@(4),@(2),|@(1)])) (.blt .len %[|@2])]))))) Z (MG m p A B [.lst (ps.map aO)])=.ok (.fz (ts.map tupI)) (MG m p A' B' [.lst (ps.map aO)])/\
   ts.length=rl.length/\∀t∈ts,Tk 4 t/\dU t=true:=by
 have H:=r8 (C:=Cn pg (n+1+1)) (i:=8) (js:=[8]) (it:=.var 2) (e:=.call 29 %[@0,|.idx (.frz (.lst %[@(4),@(4),@(4),@(2),|@(1)])) (.blt .len %[|@2])])
  (Z:=Z) (m0:=MG m p A B [.lst (ps.map aO)]) (m:=MG m p A B [.lst (ps.map aO)]) (s:=.tup (rl.map .str)) (xs:=rl.map .str)
  (λ j M G=>∃(q f:Int) (g:Mem) (ts:List (List Int)),M=MG m p q f (.lst (ps.map aO)::g)/\(∀o∈g,dF 0 o=true)/\G=ts.map tupI/\ts.length=j/\∀t∈ts,Tk 4 t/\dU t=true)
  (S _) (λ M j _=>rfl) (by simp[Src.len]) (by simp[lim];omega) ⟨A,B,[],[],rfl,by simp,rfl,rfl,by simp⟩ (λ j hj M G h hac=>by
   let⟨q,f,g,ts,rfl,L,rfl,u,I⟩:=h;have bl:∀o∈(O.lst (ps.map aO)::g),dF 0 o=true:=λ o a=>by
    rcases Rk.mp a with rfl | a
    .exact Mn _ _
    .exact L o a
   have R:=MG.cm (p:=p) (A:=q) (B:=f) P bl;let⟨most,K,X,V⟩:=Mp (k:=rl.length) (M:=MG m p q f (.lst (ps.map aO)::g)) hr;let⟨t,A3,B3,l,e,hl,k1,Y⟩:=time (n:=n) (most:=most) (MG.iA (A:=q) (B:=f) (l:=.lst (ps.map aO)::g) N) R X V;rw[MG.mg N] at e;refine⟨tupI t,_,?_,by simp[aM,oi],A3,B3,g++l,ts++[t],rfl,λ o a=>?_,by simp,by simp[u],λ x F=>?_⟩
   .have hf:=rZ (C:=Cn pg (n+1+1)) (Z:=((fR [8] Z).set 8 @((rl.map W.str)[j]))) (es:=.cons @(4) %[@(4),@(4),@(2),|@(1)]) R rfl rfl 'm';have jE:bA .len [bE rl] (MG m p q f (.lst (ps.map aO)::g))=.ok (.int rl.length) (MG m p q f (.lst (ps.map aO)::g)):=by
     have:=bX (m:=MG m p q f (.lst (ps.map aO)::g)) (w:=bE rl) rfl;rw[Rn] at this;exact this
    rw[bK,av,U];erw[ay];rw[av,bN,hf];erw[ay,cU,av,T,aF,jE,K,e];rfl
   .rcases RC.mp a with a | a
    .exact L o a
    .exact hl o a
   .rcases RC.mp F with F | F
    .exact I x F
    .rw[RZ] at F;subst F;exact⟨k1,Y⟩)
 let⟨ws,M',e,⟨q,f,g,ts,rfl,L,rfl,u,I⟩,hl2,J⟩:=H;refine⟨ts,q,f,?_,by rw[u];simp,I⟩;have Q:MG m p q f (.lst (ps.map aO)::g)++[.lst (ts.map tupI)]=MG m p q f [.lst (ps.map aO)]++(g++[.lst (ts.map tupI)]):=by
  rw[MG.app,MG.app];rfl
 rw[Q] at e;refine vM e (by rw[MG.len,MG.len]) (MG.cm P λ o a=>?_) (by rw[MG.len,MG.len];simp) ?_ J
 .rw[RZ] at a;subst a;exact Mn _ _
 .rw[<-Q,Rp (Q7 _)];simp
end
section
variable{m:Mem}{n p:Nat}
theorem O7(hp:lV m p)(G:Cm m):∃ks rl lm af ps ts A B,aT (D.runN pg (n+1+1+1+1) 30) [.ref p] m=.ok (.tup [bE ks,bE rl,bE lm,.int (af:Nat),.ref m.length,.fz (ts.map tupI)]) (MG m p A B [.lst (ps.map aO)])/\jQ ks rl lm af ps ts:=by
 let⟨A0,B0,e0⟩:=Bx hp;have a:=hp.lt;have V:∀A B,Cm (MG m p A B []):=λ A B=>MG.cm G 's';let⟨I,A1,B1,X,z1⟩:=names (n:=n+1+1) (A:=A0) (B:=B0) (L:=BO) (es:=%[@"ka",|@"kb"]) (K:=3) (r:=[none,none,none,none,none,none,none,none,none,none]) a G 'd' 'd' (λ A B=>rZ (V A B) rfl rfl 'm');rw[<-e0] at X;let⟨N,A2,B2,x2,z2⟩:=names (n:=n+1+1) (A:=A1) (B:=B1) (L:=Eg) (es:=%[@"ra",@"rb",@"rc",|@"rd"]) (K:=5) (r:=[@(bE (BO.take I)),none,none,none,none,none,none,none,none,none]) a G 'd' 'd' (λ A B=>rZ (V A B) rfl rfl 'm');let⟨U,A3,B3,x3,z3⟩:=names (n:=n+1+1) (A:=A2) (B:=B2) (L:=F5) (es:=%[@"la",|@"lb"]) (K:=3) (r:=[@(bE (BO.take I)),@(bE (Eg.take N)),none,none,none,none,none,none,none,none]) a G 'd' 'd' (λ A B=>rZ (V A B) rfl rfl 'm');have W0:Wn (BO.take I++Eg.take N++F5.take U):=fixed;have k1:(BO.take I).length<=2:=by rw[Sb];exact To ..
 have k2:(Eg.take N).length<=4:=by rw[Sb];exact To ..
 have k3:(F5.take U).length<=2:=by rw[Sb];exact To ..
 generalize BO.take I=ks at *;generalize Eg.take N=rl at *;generalize F5.take U=lm at *;let⟨f,m4,h4,s4,z4⟩:=draw (n:=n+1+1) (many:=5) (MG.iA (A:=A3) (B:=B3) (l:=[]) a) 'd' 'd';let⟨A4,B4,rfl⟩:=MG.ps a s4;have T:∀z∈ks++rl++lm,Gd 8 z:=λ z q=>(W0.1 z q).gd;let⟨o,A5,B5,x5,l5,q5⟩:=Eh (n:=n) (A:=A4) (B:=B4) (af:=3+f) (ks:=ks) (rl:=rl) (lm:=lm) a G (λ z q=>T z (RJ _ q)) (by omega) (by omega) (by omega);have J0:Jw ks rl lm (3+f) [] [] o:=Jw.start q5;have R:∀z∈rl,Gd 8 z:=λ z q=>T z (RJ _ (RB _ q));have QK:∀z∈lm,Gd 8 z:=λ z q=>T z (RB _ q);have Y:∀{l:List Str} {j:Nat} (h:j<l.length),l.take j++[l[j]]=l.take (j+1):=λ {l j} h=>by rw[take_succ_eq_append_getElem h]
 let⟨P,A6,B6,o6,x6,l6,j6⟩:=r9 (n:=n) (A:=A5) (B:=B5) (ks:=ks) (rl:=rl) (lm:=lm) (w:="coil") (zs:=rl) (o8:=none) (af:=3+f) (ps:=o) a (by omega) (by omega) (by omega) (by omega) (λ j H=>Jw ks rl lm (3+f) (rl.take j) [] H) J0 (λ j u H d ns h S Q O=>by
  have:=h.Ja (d:=d) (RK u) (R _ (RK u)) (by omega) S Q O;rw[Y u] at this;exact this)
 rw[Vg] at j6;let⟨g,A7,B7,o7,x7,l7,F⟩:=r9 (n:=n) (A:=A6) (B:=B6) (ks:=ks) (rl:=rl) (lm:=lm) (w:="lamp") (zs:=lm) (o8:=o6) (af:=3+f) (ps:=P) a (by omega) (by omega) (by omega) (by omega) (λ j H=>Jw ks rl lm (3+f) rl (lm.take j) H) j6 (λ j u H d ns h S Q O=>by
  have:=h.O4 (d:=d) (RK u) (QK _ (RK u)) (by omega) S Q O;rw[Y u] at this;exact this)
 rw[Vg] at F;let⟨ts,A8,B8,x8,l8,t8⟩:=Jb (n:=n+1) (A:=A7) (B:=B7) (ps:=g) (rl:=rl) (Z:=wL p m.length (3+f) ks rl lm @(.str "lamp") @(bE lm) o7) a G k2 (λ x=>funext λ _=>rfl) (λ x=>funext λ _=>rfl) (λ M=>rfl);refine⟨ks,rl,lm,3+f,g,ts,A8,B8,?_,⟨⟨W0,k1,k2,k3,⟨by omega,by omega⟩,by omega,λ J h=>(F.p J h).2.2,F.c,F.l,l8,λ t h=>(t8 t h).2⟩,λ J h=>⟨(F.p J h).1,(F.p J h).2.1⟩,λ t h=>(t8 t h).1,by omega,by omega⟩⟩;rw[bB rfl];refine bC rfl rfl ?_;show aD _ OO [@(.ref p),none,none,none,none,none,none,none,none,none,none] m=_;have lp:bu (Cn pg (n+1+1+1)) (.for_ (.tup %[@6,|@7]) (.tup %[.tup %[@"coil",|@2],|.tup %[@"lamp",|@3]]) rQ) (wL p m.length (3+f) ks rl lm none none none) (MG m p A5 B5 [.lst (o.map aO)])=.ok (.nx (wL p m.length (3+f) ks rl lm @(.str "lamp") @(bE lm) o7)) (MG m p A7 B7 [.lst (g.map aO)]):=by
  refine lR (s:=.tup [.tup [.str "coil",bE rl],.tup [.str "lamp",bE lm]]) rfl ?_;show er _ _ _ 2 0 _ _=_;refine(gX (get:=(Src.tup [.tup [.str "coil",bE rl],.tup [.str "lamp",bE lm]]).get) (t:=.tup %[@6,|@7]) (kJ:=fun Z m=>aD (Cn pg (n+1+1+1)) rQ Z m) (k:=1) (i:=0) (Z:=wL p m.length (3+f) ks rl lm none none none) rfl rfl x6).trans ?_;refine(gX (get:=(Src.tup [.tup [.str "coil",bE rl],.tup [.str "lamp",bE lm]]).get) (t:=.tup %[@6,|@7]) (kJ:=fun Z m=>aD (Cn pg (n+1+1+1)) rQ Z m) (k:=0) (i:=1) (Z:=wL p m.length (3+f) ks rl lm @(.str "coil") @(bE rl) o6) rfl rfl x7).trans ?_;exact i9 rfl
 rw[OO,aj (Z1:=[@(.ref p),@(bE ks),none,none,none,none,none,none,none,none,none]) (aQ X rfl),aj (Z1:=[@(.ref p),@(bE ks),@(bE rl),none,none,none,none,none,none,none,none]) (aQ x2 rfl),aj (Z1:=[@(.ref p),@(bE ks),@(bE rl),@(bE lm),none,none,none,none,none,none,none]) (aQ x3 rfl),aj (Z1:=[@(.ref p),@(bE ks),@(bE rl),@(bE lm),@(.int (3+f:Nat)),none,none,none,none,none,none]) (m1:=MG m p A4 B4 []) (aQ (w:=.int (3+f:Nat)) (by erw[EWs,h4,rY];rfl) rfl),
  aj (Z1:=wL p m.length (3+f) ks rl lm none none none) (aQ x5 rfl),aj lp,aj (Z1:=[@(.ref p),@(bE ks),@(bE rl),@(bE lm),@(.int (3+f:Nat)),@(.ref m.length),@(.str "lamp"),@(bE lm),o7,@(.fz (ts.map tupI)),none]) (aQ x8 rfl),aL (bz ?_)]
 erw[bZ,av,aF,aH,fC,fD,fE,fF,ay];rfl
end
section
variable{M:Mem}{n q:Nat}{ks rl lm:List Str}{af:Nat}{ps:List (List Pt)}{ts:List (List Int)}
theorem jQ.bf(g:jQ ks rl lm af ps ts):Bf ks rl lm ps ts:=by
 have A:=g.g.k;have x:=g.g.r;have u:=g.g.l;have s:=g.g.nt;have o:=g.l;refine⟨λ z a=>(g.g.w.1 z a).gd.asc 'd',by rw[Ru,Ru];omega,λ p f z a=>((g.p p f).1.2 _ a:Gd 8 z).sm,λ p f=>?_,by omega,λ t h=>?_,by omega⟩
 .have:=(g.p p f).1.1;omega
 .have:=(g.t t h).1;omega
theorem Ei{l:Mem}{x y:O}:(M++[x]++l).set M.length y=M++(y::l):=by
 rw[Rt,Ua _ _ (Q7 _)];simp
theorem we{a b e:Nat}(s:Cm M)(t:Hf M a b c d e ks rl lm ps ts)(g:jQ ks rl lm af ps ts):∃L Z,D.bL pg (n+1+1+1+1+1+1) 0 [.ref M.length,.ref a,.ref b,.ref c,.int af,.ref d,.ref e] (M++[.ins "Net" []])=.ok (.nx Z) (M++L)/\Cm (M++L)/\(M++L)[M.length]?=some (.ins "Net" (N6 ks rl lm af ps ts)):=by
 have x:Cm (M++[.ins "Net" []]):=s.push rfl;have o:(M++[O.ins "Net" []])[M.length]?=some (.ins "Net" []):=by simp
 let⟨l,u,f⟩:=rX (n:=n) (af:=af) x o t.app g.bf;rw[g.g.ok] at f;let⟨h,k⟩:=f;rw[Ei] at h k;exact⟨_,u,h,k,by simp⟩
abbrev NI(ks rl lm:List Str)(af:Nat)(ps:List (List Pt))(ts:List (List Int)):O:=.ins "Net" (N6 ks rl lm af ps ts)
theorem cz{L:Mem}{o:O}(h:M[q]?=some o):(M++L)[q]?=some o:=by rw[Rc (Q4.mp h).1];exact h
theorem tell{f:Nat}{x:Str}{b:Ss}(g:M[q]?=@(NI ks rl lm af ps ts))(l:pg.fns[f]?=some ⟨1,1,b⟩)(s:b=.cons (.ret (.blt .list %[|.fld @0 x])) .nil)(o:pg.cs.flds.contains ("Net",x)=true)(a:(N6 ks rl lm af ps ts).lookup x=@(.fz xs)) :
  aT (D.runN pg (n+1) f) [.ref q] M=.ok (.ref M.length) (M++[.lst xs]):=by
 rw[bB rfl];refine bC l rfl ?_;show aD _ b [@(.ref q)] M=_;have h:jY pg.cs (.ref q) x M=.ok (.fz xs) M:=by
  erw[jY,iw,g];rw[Rf o,a]
 have k:aq (Cn pg n) (.fld @0 x) [@(.ref q)] M=.ok (.fz xs) M:=by
  rw[lT,aH];erw[fC,fD,fE,fF,ay,h]
 rw[s,aL (bz ?_)];rw[cU,av,k];rfl
theorem yc{a:E}{x:Str}{k:Nat}{w:W}{f:Mem}(l:aq (Cn pg (n+1)) a Z M=.ok (.ref q) M)(h:M[q]?=@(NI ks rl lm af ps ts))(t:(N6 ks rl lm af ps ts).lookup x=none)(s:pg.cs.mths.lookup (("Net":Str),x)=some k)(o:aT (D.runN pg (n+1) k) [.ref q] M=.ok w f) :
  aq (Cn pg (n+1)) (.mth a x .nil) Z M=.ok w f:=by
 have g:nk pg.cs (.ref q) x M=some k:=by
  erw[nk,iw,h,t];exact s
 rw[pV,l];erw[ay,g,aF,o]
section
variable{a:E}{Z:D.Loc}
theorem m_keys(g:aq (Cn pg (n+1)) a Z M=.ok (.ref q) M)(f:M[q]?=@(NI ks rl lm af ps ts)):aq (Cn pg (n+1)) (.mth a "key_words" .nil) Z M=.ok (.ref M.length) (M++[.lst (ks.map .str)]):=yc g f rfl rfl (tell f rfl rfl rfl rfl)
theorem sd(g:aq (Cn pg (n+1)) a Z M=.ok (.ref q) M)(f:M[q]?=@(NI ks rl lm af ps ts)):aq (Cn pg (n+1)) (.mth a "relays" .nil) Z M=.ok (.ref M.length) (M++[.lst (rl.map .str)]):=yc g f rfl rfl (tell f rfl rfl rfl rfl)
theorem wg(g:aq (Cn pg (n+1)) a Z M=.ok (.ref q) M)(f:M[q]?=@(NI ks rl lm af ps ts)):aq (Cn pg (n+1)) (.mth a "lamps" .nil) Z M=.ok (.ref M.length) (M++[.lst (lm.map .str)]):=yc g f rfl rfl (tell f rfl rfl rfl rfl)
theorem se(g:aq (Cn pg (n+1)) a Z M=.ok (.ref q) M)(f:M[q]?=@(NI ks rl lm af ps ts)):aq (Cn pg (n+1)) (.mth a "pieces" .nil) Z M=.ok (.ref M.length) (M++[.lst (ps.map aO)]):=yc g f rfl rfl (tell f rfl rfl rfl rfl)
theorem p9(g:aq (Cn pg (n+1)) a Z M=.ok (.ref q) M)(f:M[q]?=@(NI ks rl lm af ps ts)):aq (Cn pg (n+1)) (.mth a "times" .nil) Z M=.ok (.ref M.length) (M++[.lst (ts.map tupI)]):=yc g f rfl rfl (tell f rfl rfl rfl rfl)
theorem wj(h:aq (Cn pg (n+1)) a Z M=.ok (.ref q) M)(f:M[q]?=@(NI ks rl lm af ps ts)):aq (Cn pg (n+1)) (.mth a "nodes" .nil) Z M=.ok (.int af) M:=yc h f rfl rfl (by
 rw[bB rfl];refine bC rfl rfl ?_;show aD _ b4 [@(.ref q)] M=_;have g:jY pg.cs (.ref q) "many_nodes" M=.ok (.int af) M:=by
  erw[jY,iw,f];rfl
 rw[b4,aL (bz (w:=.int af) (m1:=M) (by rw[lT,aH];erw[fC,fD,fE,fF,ay,g]))])
theorem mh(g:Cm M)(h:aq (Cn pg (n+1)) a Z M=.ok (.ref q) M)(f:M[q]?=@(NI ks rl lm af ps ts)):aq (Cn pg (n+1)) (.frz (.mth a "pieces" .nil)) Z M=.ok (.fz (ps.map aO)) M:=bD (se h f) rfl g (dQ _)
end
abbrev aV(ks rl lm:List Str)(af:Nat)(ps:List (List Pt))(ts:List (List Int)):W:=.tup [bE ks,bE rl,bE lm,.int af,.fz (ps.map aO),.fz (ts.map tupI)]
theorem shown(g:Cm M)(f:M[q]?=@(NI ks rl lm af ps ts)):aT (D.runN pg (n+1+1) 31) [.ref q] M=.ok (aV ks rl lm af ps ts) M:=by
 rw[bB rfl];refine bC rfl rfl ?_;show aD _ OP [@(.ref q)] M=_;have a:aq (Cn pg (n+1)) @0 [@(.ref q)] M=.ok (.ref q) M:=rfl;rw[OP,aL (bz ?_)];rw[bZ,av,bD (m_keys a f) rfl g (bG _)];erw[ay];rw[av,bD (sd a f) rfl g (bG _)];erw[ay];rw[av,bD (wg a f) rfl g (bG _)];erw[ay];rw[av,wj a f];erw[ay];rw[av,mh g a f];erw[ay];rw[av,bD (p9 a f) rfl g (jg _)];erw[ay,aF];rfl
theorem sj{a:List (List Pt)}(A:Cm M)(l:M[q]?=@(NI ks rl lm af ps ts))(F:M[d]?=@(.lst (a.map aO)))(g:jQ ks rl lm af a ts) :
  ∃r L,D.bL pg (n+1+1+1+1+1+1+1) 23 [.ref q,.int af,.ref d] M=.ok (.rt (.ref r)) (M++L)/\Cm (M++L)/\(M++L)[r]?=some (NI ks rl lm af a ts)/\M.length<=r:=by
 let f:Mem:=[.lst (ks.map .str),.lst (rl.map .str),.lst (lm.map .str),.lst (ts.map tupI)]
 have u:∀zs:List Str,∀k,dF k (.lst (zs.map .str))=true:=λ zs k=>bw _ (bG zs);have t:Cm (M++f):=A.app λ o x=>by
  erw[f,RM,Rx,R0] at x;rcases x with rfl | rfl | rfl | rfl
  .exact u _ _
  .exact u _ _
  .exact u _ _
  .exact bw _ (jg _)
 have s:∀(i:Nat),(M++f)[M.length+i]?=f[i]?:=λ i=>by
  rw[Rp (by omega),SJ]
 have B:Hf (M++f) M.length (M.length+1) (M.length+2) d (M.length+3) ks rl lm a ts:=⟨s 0,s 1,s 2,cz F,s 3⟩;let⟨L,K,H,I,G⟩:=we (n:=n) (af:=af) t B g;refine⟨(M++f).length,f++L,?_,by rw[<-Rt];exact I,by rw[<-Rt];exact G,by simp⟩;rw[cK rfl rfl];show aD _ OH [@(.ref q),@(.int af),@(.ref d)] M=_;have h:∀M,aq (Cn pg (n+1+1+1+1+1+1)) @0 [@(.ref q),@(.int af),@(.ref d)] M=.ok (.ref q) M:=λ M=>rfl;have J:aS (Cn pg (n+1+1+1+1+1+1)) %[.mth @0 "key_words" .nil,.mth @0 "relays" .nil,.mth @0 "lamps" .nil,@1,@2,|.mth @0 "times" .nil] [@(.ref q),@(.int af),@(.ref d)] M=.ok [.ref M.length,.ref (M.length+1),.ref (M.length+2),.int af,.ref d,.ref (M.length+3)] (M++f):=by
  rw[av,m_keys (h _) l];erw[ay];rw[av,sd (h _) (cz l)];erw[ay];rw[av,wg (h _) (cz (cz l))];erw[ay,av,aH,fC,fD,fE,fF];rw[p9 (h _) (cz (cz (cz l)))];erw[ay,aF,Rt,Ru,RD,Uv];rfl
 rw[OH,aL (by rw[Bb J H];rfl)];rw[Rt]
end
section
variable{M:Mem}{n q:Nat}{ks rl lm:List Str}{af:Nat}{ps:List (List Pt)}{ts:List (List Int)}
def qa(a:List Pt):Bool:=match a with
 |.inl w::_=>decide (w∈(["made","broken","swap"]:List Str))
 |_=>false
theorem QL:∀z∈(["made","broken","swap"]:List Str),Sm z:=λ z a=>by
 erw[RM,Rx,R0] at a;rcases a with rfl | rfl | rfl<;>decide +kernel
theorem By(h:Sm w):aE .NotIn (.str w) (.tup [.str "made",.str "broken",.str "swap"]) M=.ok (!decide (w∈(["made","broken","swap"]:List Str))) M:=by
 have:=rP (m:=M) h QL;erw[RU,Vi] at this;erw[aE,this,ay]
theorem Jq.sm{a:List Pt}(h:Jq af a):∃w r,a=.inl w::r/\Sm w:=by
 let⟨w,zs,ns,rfl,h,_⟩:=h;refine⟨w,_,rfl,?_⟩;rcases h with⟨rfl,_⟩ | ⟨rfl | rfl | rfl | rfl | rfl,_⟩<;>decide +kernel
theorem uq{i:Int}(L:Cm M)(K:M[q]?=@(NI ks rl lm af ps ts))(g:jQ ks rl lm af ps ts) :
  (∃(j:Nat),i=j/\∃h:j<ps.length,qa ps[j]=true/\D.bL pg (n+1+1+1) 22 [.ref q,.int i] M=.ok (.rt (aO ps[j])) M)\/
  ((∀(j:Nat) (h:j<ps.length),i=j->qa ps[j]=false)/\∃Z,D.bL pg (n+1+1+1) 22 [.ref q,.int i] M=.ok (.rz "NoPiece" none Z) M):=by
 let Z:D.Loc:=[@(.ref q),@(.int i),@(.fz (ps.map aO))]
 have f:∀{G:F},aD (Cn pg (n+1+1)) (match MS with | .cons _ r=>r | r=>r) Z M=.ok G M->D.bL pg (n+1+1+1) 22 [.ref q,.int i] M=.ok G M:=λ h=>by
  rw[cK rfl rfl];show aD _ MS [@(.ref q),@(.int i),none] M=_;rw[MS,aj (Z1:=Z) (aQ (mh L rfl K) rfl)];exact h
 have I:bA .len [.fz (ps.map aO)] M=.ok (.int ps.length) M:=by
  have:=bX (m:=M) (w:=.fz (ps.map aO)) rfl;rw[Rn] at this;exact this
 have l:bq (Cn pg (n+1+1)) (.chain .LtE .Lt @(0) @1 (.blt .len %[|@2])) Z M=.ok (decide (0<=i)&&decide (i<ps.length)) M:=by
  by_cases h:0<=i<;>simp[Z,nv,ny,nA,nB,nE,nF,nG,nH,gE,lE,nJ,jr,jt,ju,iR,nK,nL,jv,nM,jw,jZ,iF,dN,bO,eU,lH,aH,bh,cZ,lD,gC,dM,mH,gp,dg,gq,bZ,dX,bN,fK,gD,cU,iy,cL,fY,bT,lF,fZ,lG,fc,gF,iS,dG,R.bind,aE,I,h,D.truthy]
 have x:bq (Cn pg (n+1+1)) (.or (.not (.chain .LtE .Lt @(0) @1 (.blt .len %[|@2]))) (.cmp .NotIn (.idx (.idx @2 @1) @(0)) (.cst (.tup [.str "made",.str "broken",.str "swap"])))) Z M=.ok true M->
   ∃Z,D.bL pg (n+1+1+1) 22 [.ref q,.int i] M=.ok (.rz "NoPiece" none Z) M:=λ h=>⟨Z,f (by
  show aD _ (.cons (.ife _ _ _) _) Z M=_;refine br ?_;rw[fP h];exact br rfl)⟩
 by_cases B:0<=i/\i<ps.length
 .obtain⟨j,rfl⟩:∃j:Nat,i=j:=⟨i.toNat,by omega⟩;have t:j<ps.length:=by omega
  have u:(decide (0<=(j:Int))&&decide ((j:Int)<ps.length))=true:=by simp;omega
  have s:=bY (m:=M) (w:=.fz (ps.map aO)) (i:=j) rfl (~~~t);rw[Sx] at s;let⟨w,r,A,H⟩:=(g.p _ (RK t)).2.sm;have J:aY (aO ps[j]) (.int 0) M=.ok (.str w) M:=by
   rw[A];exact bY (xs:=(Sum.inl w::r).map pw) rfl 's'
  have o:bq (Cn pg (n+1+1)) (.or (.not (.chain .LtE .Lt @(0) @1 (.blt .len %[|@2]))) (.cmp .NotIn (.idx (.idx @2 @1) @(0)) (.cst (.tup [.str "made",.str "broken",.str "swap"])))) Z M=.ok (!qa ps[j]) M:=by
   rw[iF,dN,l,u];erw[ay,Vn,RA,Rz];erw[Z,bO,bN,aH,bh,fC,fD,fE,fF,ay,s,J,By H];rw[A];rfl
  cases a:qa ps[j] with
  |true=>
   refine .inl ⟨j,rfl,t,a,f ?_⟩;show aD _ (.cons (.ife _ _ _) _) Z M=_;rw[a] at o;rw[aj (by rw[eE o,aI])];refine aL (bz ?_);erw[Z,bN,aH,fC,fD,fE,fF,ay,s]
  |false=>
   rw[a] at o;refine .inr ⟨λ k N e=>?_,x o⟩;obtain rfl:k=j:=by omega
   exact a
 .have u:(decide (0<=i)&&decide (i<ps.length))=false:=by
   rw[Bool.and_eq_false_iff]
   by_cases h:0<=i
   .exact .inr (Ry λ O=>B ⟨h,O⟩)
   .exact .inl (Ry h)
  refine .inr ⟨λ k N e=>absurd ⟨by omega,by omega⟩ B,x ?_⟩;rw[iF,dN,l,u];erw[ay,Bool.not_false,RQ]
def cC(ps:List (List Pt))(j:Nat)(w:Str)(a b:Int):List (List Pt):=ps.take j++(if w="made" then [dZ "wire" [] [a,b]] else [])++ps.drop (j+1)
theorem oG{f:List Pt}(h:Jq af f)(t:qa f=true):∃w y a b r,f=dZ w [y] (a::b::r)/\(w="made"\/w="broken"\/w="swap")/\a≠b/\(0<=a/\a<af)/\(0<=b/\b<af):=by
 let⟨w,zs,ns,rfl,h,s,l,g⟩:=h;have k:w∈(["made","broken","swap"]:List Str):=SH t;have o:∃y,zs=[y]:=by
  rcases h with⟨rfl,_⟩ | ⟨_,h⟩
  .exact absurd k 'k'
  .exact h
 let⟨y,rfl⟩:=o;obtain⟨a,b,r,rfl⟩:∃a b r,ns=a::b::r:=by
  match ns,s with
  |a::b::r,_=>exact⟨a,b,r,rfl⟩
 refine⟨w,y,a,b,r,rfl,~~~k,λ e=>?_,g a 's',g b 's'⟩;subst e;simp at l
theorem BA{y:Str}{a:Int}(g:jQ ks rl lm af ps ts)(Q:j<ps.length)(e:ps[j]=dZ w [y] (a::b::r))(hw:w="made"\/w="broken"\/w="swap")(B:a≠b)(S:0<=a/\a<af)(R:0<=b/\b<af):jQ ks rl lm af (cC ps j v a b) ts:=by
 have H:∀i∈[a,b],0<=i/\i<(af:Int):=λ i L=>by
  erw[RM,Rx,R0] at L;rcases L with rfl | rfl
  .exact S
  .exact R
 have O:[a,b].Nodup:=by simpa using B
 have F:Vp (ks++rl) af (dZ "wire" [] [a,b]):=⟨_,_,_,rfl,O,H,.inl ⟨rfl,rfl,rfl⟩⟩;have A:∀x∈cC ps j v a b,x∈ps\/x=dZ "wire" [] [a,b]:=λ x o=>by
  erw[cC,mem_append] at o;rcases o with (o | o) | o
  .exact .inl (mem_of_mem_take o)
  .split at o
   .exact .inr (TJ.mp o)
   .cases o
  .exact .inl (mem_of_mem_drop o)
 have s:(cC ps j v a b).length<=ps.length:=by
  erw[cC,Ru,Sb,Ud];split<;>simp<;>omega
 have N:∀u:Str,u="coil"\/u="lamp"->aN u (cC ps j v a b)=aN u ps:=λ u K=>by
  have T:ps=ps.take j++(ps[j]::ps.drop (j+1)):=by
   rw[<-Ue Q,UR]
  have P:nameOf u ps[j]=none:=by
   rw[e];rcases K with rfl | rfl<;>rcases hw with rfl | rfl | rfl<;>rfl
  have J:aN u (if v="made" then [dZ "wire" [] [a,b]] else [])=[]:=by
   split
   .rcases K with rfl | rfl<;>rfl
   .rfl
  have I:aN u ps=aN u (ps.take j)++aN u (ps.drop (j+1)):=by
   conv=>lhs;rw[T]
   erw[aN,Tp,filterMap_cons_none P]
  erw[aN] at J I ⊢;rw[cC,Tp,Tp,J,R6,I]
 have G:=g.g;refine⟨⟨G.w,G.k,G.r,G.l,G.n,Rv s G.np,λ x o=>?_,by rw[N _ (.inl rfl)];exact G.c,by rw[N _ (.inr rfl)];exact G.f,G.nt,G.t⟩,λ x o=>?_,g.t,g.n,Rv s g.l⟩
 .rcases A x o with h | rfl
  .exact G.p x h
  .exact F.ok.1
 .rcases A x o with h | rfl
  .exact g.p x h
  .exact⟨oE 's' 's' 's' H g.n,F.PZ⟩
end
section
variable{M:Mem}{n q:Nat}{ks rl lm:List Str}{af:Nat}{ps:List (List Pt)}{ts:List (List Int)}
theorem Mq{y:Str}{a:Int}:dW (aO (dZ w [y] (a::b::r))) (some 2) (some 4) M=.ok (.tup [.int a,.int b]) M:=by
 rw[j8];erw[dW,gB];rw[show (2:Int)=((2:Nat):Int) from rfl,show (4:Int)=((4:Nat):Int) from rfl,HT.iM,HT.iM];have g:min 2 (W.str w::(List.map W.str [y]++List.map W.int (a::b::r))).length=2:=by simp
 have f:min 4 (W.str w::(List.map W.str [y]++List.map W.int (a::b::r))).length=4:=by simp
 rw[g,f];rfl
theorem Ej{ws:List W}{w x:W}{k:Nat}{lo hi:Int}(h:aS (Cn p n) es Z m=.ok ws m1)(f:D.bL p n i ws m1=.ok (.rt w) m2)(a:dW w (some lo) (some hi) m2=.ok (.tup [x,y]) m2) :
  bu (Cn p n) (.xc (.slc (.tup %[.pt (.var j),|.pt (.var k)]) (.some (.cst (.int lo))) (.some (.cst (.int hi)))) none i es) Z m=.ok (.nx ((Z.set j (some x)).set k (some y))) m2:=by
 erw[iV,h,f,R.bind,yh,outF,iU,f9,bh,a];rfl
theorem mj{e5 e6:E}{mid:List (List Pt)}{x y:W}(a:Cm M)(f:aq C e5 Z M=.ok (.fz (ps.map aO)) M)(g:∀M,aq C @1 Z M=.ok (.int j) M)(o:aq C e6 Z M=.ok (.fz (mid.map aO)) M)(A:ps.length<=100)(s:mid.length<=1) :
  aq C (.bin .Add (.frz (.bin .Add (.frz (.slc e5 .none (.some @1))) e6)) (.frz (.slc e5 (.some (.bin .Add @1 @(1))) .none))) Z M=.ok (.ref M.length) (M++[.lst ((ps.take j++mid++ps.drop (j+1)).map aO)]):=by
 have t:aq C (.frz (.slc e5 .none (.some @1))) Z M=.ok (.fz ((ps.take j).map aO)) M:=by
  have:=I0 (lo:=.none) (hi:=.some @1) (l:=none) (u:=some (j:Int)) a f rfl rfl (by rw[f9,g];rfl) (by rw[jf,<-Vh];exact dQ _);rw[jf,<-Vh] at this;exact this
 have k:=IZ a t o rfl rfl (dQ _) (dQ _) (by simp[lim];omega);have h:aq C (.frz (.slc e5 (.some (.bin .Add @1 @(1))) .none)) Z M=.ok (.fz ((ps.drop (j+1)).map aO)) M:=by
  have:=I0 (lo:=.some (.bin .Add @1 @(1))) (hi:=.none) (l:=some ((j+1:Nat):Int)) (u:=none) a f rfl (by rw[f9,cZ,g];rfl) rfl (by rw[je,<-VD];exact dQ _);rw[je,<-VD] at this;exact this
 erw[cZ,h] at k ⊢;rw[show aq C (.frz (.bin .Add (.frz (.slc e5 .none (.some @1))) e6)) Z M=_ from k];erw[ay,h];rw[rS rfl rfl (by simp[lim];omega)];simp
theorem Mr{a:Int}{k:Nat}{ea eb:E}(f:Cm M)(l:Sm v)(g:aq C @2 Z M=.ok (.str v) M)(s:aq C ea Z M=.ok (.int a) M)(o:aq C eb Z M=.ok (.int b) M) :
  aq C (.ife (.cmp .Eq @2 @"made") (.frz (.lst %[|.tup %[@"wire",ea,|eb]])) (.frz (.lst .nil))) Z M=.ok (.fz ((if v="made" then [dZ "wire" [] [a,b]] else []).map aO)) M:=by
 have t:bq C (.cmp .Eq @2 @"made") Z M=.ok (decide (v="made")) M:=by
  erw[bO,g,bh,ay,aE,Bt l (show Sm "made" by decide +kernel)]
 rw[gq,t]
 by_cases h:v="made"
 .rw[RX h,Rf h];have:=rZ (C:=C) (Z:=Z) (es:=.cons (.tup %[@"wire",ea,|eb]) .nil) (xs:=[aO (dZ "wire" [] [a,b])]) f (by
   erw[av,aF,bZ,bh,s,o,ay];rw[Rf 'm'];erw[ay,j8];rfl) (by simp[aA,aO,aM,pw]) 'm'
  erw[ay,RQ];exact this
 .rw[Ry h,Ri h];erw[ay,RA,Rz];exact v8 f
theorem sr{i:Int}(f:Cm M)(K:Sm v)(s:M[q]?=@(NI ks rl lm af ps ts))(g:jQ ks rl lm af ps ts) :
  (∃(j:Nat) (w y:Str) (a b:Int) (r:List Int),i=j/\∃h:j<ps.length,qa ps[j]=true/\ps[j]=dZ w [y] (a::b::r)/\∃(t:Nat) (L:Mem),D.bL pg (n+1+1+1+1+1+1+1+1) 21 [.ref q,.int i,.str v] M=.ok (.rt (.ref t)) (M++L)/\Cm (M++L)/\(M++L)[t]?=@(NI ks rl lm af (cC ps j v a b) ts))\/
  ((∀(j:Nat) (h:j<ps.length),i=j->qa ps[j]=false)/\∃Z,D.bL pg (n+1+1+1+1+1+1+1+1) 21 [.ref q,.int i,.str v] M=.ok (.rz "NoPiece" none Z) M):=by
 have G:aS (Cn pg (n+1+1+1+1+1+1+1)) %[@0,|@1] [@(.ref q),@(.int i),@(.str v),none,none,none,none] M=.ok [.ref q,.int i] M:=rfl;rcases uq (n:=n+1+1+1+1) (i:=i) f s g with⟨j,rfl,B,hc,e⟩ | ⟨hn,I,e⟩
 .let⟨w,y,a,b,r,A,u,F,P,O⟩:=oG (g.p _ (RK B)).2 hc;rw[A] at e
  let H:D.Loc:=[@(.ref q),@(.int j),@(.str v),@(.int a),@(.int b),@(.fz (ps.map aO)),none]
  let mid:=if v="made" then [dZ "wire" [] [a,b]] else []
  have Q:=Mr (C:=Cn pg (n+1+1+1+1+1+1+1)) (Z:=H) (a:=a) (b:=b) (ea:=.var 3) (eb:=.var 4) (k:=0) f K rfl rfl rfl
  let o:D.Loc:=[@(.ref q),@(.int j),@(.str v),@(.int a),@(.int b),@(.fz (ps.map aO)),@(.fz (mid.map aO))]
  have J:mid.length<=1:=by erw[mid];split<;>simp
  have N:=mj (e5:=.var 5) (e6:=.var 6) (C:=Cn pg (n+1+1+1+1+1+1+1)) (Z:=o) (ps:=ps) (j:=j) (mid:=mid) (x:=.non) (y:=.non) f rfl (λ _=>rfl) rfl g.l J;have S:=BA (v:=v) g B A u F P O;have Y:Cm (M++[.lst ((cC ps j v a b).map aO)]):=f.push (bw _ (dQ _));let⟨t,L,U,V,T,_⟩:=sj (n:=n) (M:=M++[.lst ((cC ps j v a b).map aO)]) (d:=M.length) Y (cz s) 's' S;refine .inl ⟨j,w,y,a,b,r,rfl,B,hc,A,t,[.lst ((cC ps j v a b).map aO)]++L,?_,by rw[<-Rt];exact V,by rw[<-Rt];exact T⟩;rw[cK rfl rfl];show aD _ Ma [@(.ref q),@(.int j),@(.str v),none,none,none,none] M=_;rw[Ma,aj (Ej G e Mq)];show aD _ _ [@(.ref q),@(.int j),@(.str v),@(.int a),@(.int b),none,none] M=_;rw[aj (Z1:=H) (aQ (mh f rfl s) rfl),aj (Z1:=o) (aQ Q rfl)];have X:aS (Cn pg (n+1+1+1+1+1+1+1)) %[@0,.mth @0 "nodes" .nil,|.bin .Add (.frz (.bin .Add (.frz (.slc @5 .none (.some @1))) @6)) (.frz (.slc @5 (.some (.bin .Add @1 @(1))) .none))] o M=.ok [.ref q,.int af,.ref M.length] (M++[.lst ((cC ps j v a b).map aO)]):=by
   rw[av,show aq (Cn pg (n+1+1+1+1+1+1+1)) @0 o M=.ok (.ref q) M from rfl];erw[ay];rw[av,wj (a:=.var 0) (Z:=o) rfl s];erw[ay];rw[av,N];rfl
  rw[aL (by erw[iV,X,R.bind,U,yh,outF,iU];rfl)];rw[Rt]
 .refine .inr ⟨hn,[@(.ref q),@(.int i),@(.str v),none,none,none,none],?_⟩;rw[cK rfl rfl];show aD _ Ma [@(.ref q),@(.int i),@(.str v),none,none,none,none] M=_;rw[Ma];exact br (pT G e)
end
section
variable{M:Mem}{n q:Nat}{ks rl lm:List Str}{af:Nat}{ps:List (List Pt)}{ts:List (List Int)}
abbrev F6:O:=.exc "NoPiece" "" []
theorem Ms{x:Nat}{tab:List (Str×Bool)}{b:Bool}(f:aq C e Z M=.ok (.ref x) M)(a:M[x]?=some F6)(g:tab.lookup ("NoPiece":Str)=some b):aq C (.fus (.isx tab) e) Z M=.ok (.bl b) M:=by
 rw[bT,f];erw[ay,ck,uL,a,g]
abbrev sC(k:Nat):O:=.lst (List.replicate k (.bl false))
theorem Ek{x:Nat}(O:Cm M)(K:M[x]?=some F6):∃L,aT (D.runN pg (n+1) 32) [.ref x] M=.ok (.bl true) (M++L)/\Cm (M++L):=by
 have P:∀j k,dF j (sC k)=true:=λ j k=>bw _ (by rw[eK];intro w N;rw[eq_of_mem_replicate N];rfl)
 let a:List (Str×Bool):=[("NoNet",false),("NoPiece",false),("RelayError",false)]
 have v:∀{L:Mem} {o:Option W} {tab:List (Str×Bool)} {b:Bool},tab.lookup ("NoPiece":Str)=some b->aq (Cn pg n) (.fus (.isx tab) @0) [@(.ref x),o] (M++L)=.ok (.bl b) (M++L):=λ h=>Ms rfl (cz K) h;have A:∀(L:Mem) (o:Option W),aq (Cn pg n) (.fus (.isx a) @0) [@(.ref x),o] (M++L)=.ok (.bl false) (M++L):=λ L o=>v rfl;have B:∀{L:Mem} {o:Option W} {t1:List (Str×Bool)},t1.lookup ("NoPiece":Str)=some false->aq (Cn pg n) (.lst %[.fus (.isx t1) @0,.fus (.isx a) @0,.fus (.isx a) @0,|.fus (.isx a) @0]) [some (.ref x),o] (M++L)=.ok (.ref (M++L).length) (M++L++[sC 4]):=λ {L o t1} h=>by
  rw[dX,av,v h];erw[ay,av,aF,A];rfl
 have J:∀{L:Mem} {o:Option W},aq (Cn pg n) (.lst %[.fus (.isx a) @0,|.fus (.isx a) @0]) [some (.ref x),o] (M++L)=.ok (.ref (M++L).length) (M++L++[sC 2]):=λ {L o}=>by
  rw[dX];erw[ay,av,aF,A];rfl
 let s:Mem:=[sC 4]
 let L2:Mem:=[sC 4,sC 4,sC 8]
 let f:Mem:=[sC 4,sC 4,sC 8,sC 2,sC 10]
 have l:∀{L:Mem} {i:Nat},(M++L)[M.length+i]?=L[i]?:=λ {L i}=>by
  rw[Rp (by omega),SJ]
 have I:aq (Cn pg n) (.lst %[.fus (.isx [("NoNet",true),("NoPiece",false),("RelayError",false)]) @0,.fus (.isx a) @0,.fus (.isx a) @0,|.fus (.isx a) @0]) [@(.ref x),none] M=.ok (.ref M.length) (M++s):=by
  have:=B (L:=[]) (o:=none) (t1:=[("NoNet",true),("NoPiece",false),("RelayError",false)]) rfl;rw[R6] at this;exact this
 have H:aq (Cn pg n) (.bin .Add @1 (.lst %[.fus (.isx a) @0,.fus (.isx a) @0,.fus (.isx a) @0,|.fus (.isx a) @0])) [@(.ref x),@(.ref M.length)] (M++s)=.ok (.ref (M.length+2)) (M++L2):=by
  rw[cZ,aH];erw[fC,fD,fE,fF,ay];rw[B (t1:=a) rfl];erw[ay,Rt];have u:getL (M++(s++[sC 4])) (.ref M.length)=some (List.replicate 4 (.bl false)):=aG (l (i:=0));have t:getL (M++(s++[sC 4])) (.ref (M++s).length)=some (List.replicate 4 (.bl false)):=aG (by rw[Ru];exact l (i:=1));rw[rS u t 'm'];rw[Ru,Rt];rfl
 have G:aq (Cn pg n) (.bin .Add @1 (.lst %[.fus (.isx a) @0,|.fus (.isx a) @0])) [@(.ref x),@(.ref (M.length+2))] (M++L2)=.ok (.ref (M.length+4)) (M++f):=by
  rw[cZ,aH];erw[fC,fD,fE,fF,ay];rw[J];erw[ay,Rt];have u:getL (M++(L2++[sC 2])) (.ref (M.length+2))=some (List.replicate 8 (.bl false)):=aG (l (i:=2));have t:getL (M++(L2++[sC 2])) (.ref (M++L2).length)=some (List.replicate 2 (.bl false)):=aG (by rw[Ru];exact l (i:=3));rw[rS u t 'm'];rw[Ru,Rt];rfl
 have Q:bA .any [.ref (M.length+4)] (M++f)=.ok (.bl false) (M++f):=by
  have g:getL (M++f) (.ref (M.length+4))=some (List.replicate 10 (.bl false)):=aG (l (i:=4));erw[bA,g];rfl
 refine⟨f,?_,O.app λ o F=>?_⟩
 .rw[bB rfl];refine bC rfl rfl ?_;show aD _ OQ [@(.ref x),none] M=_;rw[OQ,aj (Z1:=[@(.ref x),@(.ref M.length)]) (aQ I rfl),aj (Z1:=[@(.ref x),@(.ref (M.length+2))]) (aQ H rfl),aL (bz ?_)];rw[dM,v (tab:=[("NoNet",true),("NoPiece",true),("RelayError",true)]) rfl];erw[ay,D.truthy,RQ];rw[gC,cU,av,G];erw[ay,aF,Q,D.truthy];rfl
 .erw[f,RM,Rx,R0] at F;rcases F with rfl | rfl | rfl | rfl | rfl<;>exact P _ _
theorem mq{i:Int}(k:Cm M)(s:Sm v)(t:M[q]?=@(NI ks rl lm af ps ts))(g:jQ ks rl lm af ps ts)(hi:∀(j:Nat) (h:j<ps.length),i=j->qa ps[j]=false) :
  ∃L,aT (D.runN pg (n+1+1+1+1+1+1+1+1+1) 33) [.ref q,.int i,.str v] M=.ok (.bl true) (M++L)/\Cm (M++L):=by
 rcases sr (n:=n) (i:=i) k s t g with⟨j,w,y,a,b,r,rfl,u,hc,_⟩ | ⟨_,l,e⟩
 .rw[hi j u rfl] at hc;cases hc
 have F:aS (Cn pg (n+1+1+1+1+1+1+1+1)) %[@0,@1,|@2] [@(.ref q),@(.int i),@(.str v),some .non,none] M=.ok [.ref q,.int i,.str v] M:=rfl;have G:Cm (M++[F6]):=k.push rfl;have f:(M++[F6])[M.length]?=some F6:=by simp
 let⟨L,A,B⟩:=Ek (n:=n+1+1+1+1+1+1+1) G f;refine⟨[F6]++L,?_,by rw[<-Rt];exact B⟩;rw[bB rfl];refine bC rfl rfl ?_;show aD _ OR [@(.ref q),@(.int i),@(.str v),none,none] M=_;have o:=LR (h:=.cons (.asg (.pt @3) @4) .nil) (cs:=["NoNet","NoPiece","RelayError"]) (i:=some 4) (fl:=.nx [@(.ref q),@(.int i),@(.str v),@(.ref M.length),@(.ref M.length)]) (m2:=M++[F6]) (br (r:=.nil) (pT (hw:=.drop) F e)) rfl rfl;rw[OR,aj (Z1:=[@(.ref q),@(.int i),@(.str v),some .non,none]) (aQ (w:=.non) rfl rfl),aj o];show aD _ _ [@(.ref q),@(.int i),@(.str v),@(.ref M.length),none] (M++[F6])=_;rw[aL (bz ?_)];rw[dM,Ms (x:=M.length) (b:=true) rfl f rfl];erw[ay,D.truthy,RQ];rw[bK,av,aH];erw[fC,fD,fE,fF,ay,aF,A,Rt]
end
def MX:Pt->PyData
 |.inl z=>.str z
 |.inr i=>.int i
theorem Jc{k:Nat}{x:Pt}(h:∀z,x=.inl z->Sm z):toD (k+1) m (pw x)=some (MX x):=by
 cases x with
 |inl z=>exact pY (h z rfl)
 |inr i=>rfl
theorem Jd{k:Nat}{p:List Pt}(h:∀z,.inl z∈p->Sm z):toD (k+1+1) m (aO p)=some (.tuple (p.map MX)):=by
 rw[pZ,jc λ x a=>Jc λ z e=>h z (by rw[<-e];exact a)];rfl
theorem Je{k:Nat}{t:List Int}:toD (k+1+1) m (tupI t)=some (.tuple (t.map .int)):=by
 rw[pZ,oj];rfl
section
variable{M:Mem}{n q:Nat}{ks rl lm:List Str}{af:Nat}{ps:List (List Pt)}{ts:List (List Int)}
theorem BB(o:Bf ks rl lm ps ts):∃d,toD 60 M (aV ks rl lm af ps ts)=some d:=by
 have w:=λ z a=>(o.wd z a).small;have u:toD 59 M (bE ks)=some (.list (ks.map .str)):=by
  rw[jM,dI λ z a=>w z (RJ _ (RJ _ a))];rfl
 have s:toD 59 M (bE rl)=some (.list (rl.map .str)):=by
  rw[jM,dI λ z a=>w z (RJ _ (RB _ a))];rfl
 have l:toD 59 M (bE lm)=some (.list (lm.map .str)):=by
  rw[jM,dI λ z a=>w z (RB _ a)];rfl
 have k:toD 59 M (.fz (ps.map aO))=some (.list (ps.map λ p=>.tuple (p.map MX))):=by
  rw[jM,jc λ p f=>Jd (o.sm p f)];rfl
 have h:toD 59 M (.fz (ts.map tupI))=some (.list (ts.map λ t=>.tuple (t.map .int))):=by
  rw[jM,jc λ t _=>Je];rfl
 have g:toD 59 M (.int af)=some (.int af):=rfl;refine⟨.tuple [.list (ks.map .str),.list (rl.map .str),.list (lm.map .str),.int af,.list (ps.map λ p=>.tuple (p.map MX)),.list (ts.map λ t=>.tuple (t.map .int))],?_⟩;rw[pZ];erw[eO,u,s,l,k,h,g];rfl
theorem qb(o:Bf ks rl lm ps ts):qc M (aV ks rl lm af ps ts) (aV ks rl lm af ps ts)=.ok true M:=by
 let⟨d,h⟩:=BB (M:=M) (af:=af) o;exact DZ h h
theorem yd:aM (aV ks rl lm af ps ts)=true:=by simp[aM,aA,bG,dQ,jg]
theorem ye{y:Str}{a:Int}(A:Sm v)(g:jQ ks rl lm af ps ts)(F:j<ps.length)(e:ps[j]=dZ w [y] (a::b::r)) :
  aT (D.runN pg (n+1) 34) [.fz (ps.map aO),.int j,.str v] M=.ok (.fz ((cC ps j v a b).map aO)) M:=by
 refine bR (m1:=[]) (by simp[aA,aM,dQ]) (bC rfl rfl ?_) (by simp[aM,dQ]);show aD _ OS [@(.fz (ps.map aO)),@(.int j),@(.str v),none,none] []=_;have h:=bY (m:=[]) (w:=.fz (ps.map aO)) (i:=j) rfl (~~~F);rw[Sx,e] at h
 let f:D.Loc:=[@(.fz (ps.map aO)),@(.int j),@(.str v),@(aO (dZ w [y] (a::b::r))),none]
 have u:aY (aO (dZ w [y] (a::b::r))) (.int 2) []=.ok (.int a) []:=by rw[j8];exact bY (m:=[]) (w:=.tup (.str w::([y].map .str++(a::b::r).map .int))) (xs:=.str w::([y].map .str++(a::b::r).map .int)) (i:=2) rfl 's'
 have t:aY (aO (dZ w [y] (a::b::r))) (.int 3) []=.ok (.int b) []:=by rw[j8];exact bY (m:=[]) (w:=.tup (.str w::([y].map .str++(a::b::r).map .int))) (xs:=.str w::([y].map .str++(a::b::r).map .int)) (i:=3) rfl 's'
 have G:=Mr (C:=Cn pg n) (M:=[]) (Z:=f) (v:=v) (a:=a) (b:=b) (ea:=.idx @3 @(2)) (eb:=.idx @3 @(3)) (k:=0) Cm.nil A rfl (by erw[f,bN,aH,bh,fC,fD,fE,fF,ay,u]) (by erw[f,bN,aH,bh,fC,fD,fE,fF,ay,t])
 let mid:=if v="made" then [dZ "wire" [] [a,b]] else []
 have s:mid.length<=1:=by erw[mid];split<;>simp
 let o:D.Loc:=[@(.fz (ps.map aO)),@(.int j),@(.str v),@(aO (dZ w [y] (a::b::r))),@(.fz (mid.map aO))]
 have B:=mj (e5:=.var 0) (e6:=.var 4) (C:=Cn pg n) (M:=[]) (Z:=o) (ps:=ps) (j:=j) (mid:=mid) (x:=.non) (y:=.non) Cm.nil rfl (λ _=>rfl) rfl g.l s;rw[OS,aj (Z1:=f) (m1:=[]) (aQ (w:=aO (dZ w [y] (a::b::r))) (by erw[bN,aH,fC,fD,fE,fF,ay,h]) rfl),aj (Z1:=o) (aQ G rfl),aL (bz (bD (m0:=[]) B rfl Cm.nil (dQ _)))];rfl
theorem El{ws:List W}{w:W}(h:aS (Cn p n) es Z m=.ok ws m1)(a:D.bL p n i ws m1=.ok (.rt w) m2):bu (Cn p n) (.xc (.asg (.pt (.var j))) none i es) Z m=.ok (.nx (Z.set j (some w))) m2:=by erw[iV,h,a,R.bind,yh,outF,iU];rfl
theorem right(hm:Cm M)(S:Sm v)(T:M[q]?=@(NI ks rl lm af ps ts))(g:jQ ks rl lm af ps ts)(B:j<ps.length) :
  ∃L,aT (D.runN pg (n+1+1+1+1+1+1+1+1+1+1) 35) [aV ks rl lm af ps ts,.ref q,.int j,.str v] M=.ok (.bl true) (M++L)/\Cm (M++L):=by
 have ex:∀{L},(aD (Cn pg (n+1+1+1+1+1+1+1+1+1)) MU [@(aV ks rl lm af ps ts),@(.ref q),@(.int j),@(.str v),none,none] M=.ok (.rt (.bl true)) (M++L))->aT (D.runN pg (n+1+1+1+1+1+1+1+1+1+1) 35) [aV ks rl lm af ps ts,.ref q,.int j,.str v] M=.ok (.bl true) (M++L):=λ h=>by
  rw[bB (by simp[aA,aM])];exact bC rfl rfl h
 let o:D.Loc:=[@(aV ks rl lm af ps ts),@(.ref q),@(.int j),@(.str v),none,none]
 let⟨Y,r0,H,P⟩:=(g.p _ (RK B)).2.sm;have i1:=bY (m:=M) (w:=.fz (ps.map aO)) (i:=j) rfl (~~~B);rw[Sx] at i1;have i2:aY (aO ps[j]) (.int 0) M=.ok (.str Y) M:=by
  rw[H];exact bY (xs:=(Sum.inl Y::r0).map pw) rfl 's'
 have i4:∀M,aY (aV ks rl lm af ps ts) (.int 4) M=.ok (.fz (ps.map aO)) M:=λ M=>rfl;have i5:∀M,aY (aV ks rl lm af ps ts) (.int 5) M=.ok (.fz (ts.map tupI)) M:=λ M=>rfl;have N:bq (Cn pg (n+1+1+1+1+1+1+1+1+1)) (.cmp .NotIn (.idx (.idx (.idx @0 @(4)) @2) @(0)) (.tup %[@"made",@"broken",|@"swap"])) o M=.ok (!qa ps[j]) M:=by
  rw[bO];erw[o,bN,aH,bh,bZ,av,aF,fC,fD,fE,fF,ay,i4,i1,i2];rw[Rf 'm'];erw[ay,By P];rw[H];rfl
 have ar:aS (Cn pg (n+1+1+1+1+1+1+1+1+1)) %[@1,@2,|@3] o M=.ok [.ref q,.int j,.str v] M:=rfl;rcases sr (n:=n+1) (i:=j) hm S T g with⟨j',w,y,a,b,r,ej,hj',u,hw,t,L,e,V,gt⟩ | ⟨hn,_⟩
 .obtain rfl:j=j':=by omega
  rw[u] at N;let⟨w',y',K,J,r',s,R,U,ha,hb⟩:=oG (g.p _ (RK B)).2 u;rw[s] at hw;obtain⟨rfl,rfl,rfl,rfl,rfl⟩:w'=w/\y'=y/\K=a/\J=b/\r'=r:=by
   erw[dZ,List.cons.injEq,RU,Vi,cons_append,Vs,Sum.inl.injEq,Sum.inr.injEq] at hw;exact⟨hw.1,hw.2.1,hw.2.2.1,hw.2.2.2.1,(List.map_inj_right λ _ _ h=>Sum.inr.inj h).mp hw.2.2.2.2⟩
  have gs:=BA (v:=v) g B s R U ha hb
  let l:=aV ks rl lm af (cC ps j v K J) ts
  let A:D.Loc:=[@(aV ks rl lm af ps ts),@(.ref q),@(.int j),@(.str v),@(.ref t),none]
  let f:D.Loc:=[@(aV ks rl lm af ps ts),@(.ref q),@(.int j),@(.str v),@(.ref t),some l]
  have d5:aq (Cn pg (n+1+1+1+1+1+1+1+1+1)) (.bin .Add (.slc @0 .none (.some @(4))) (.tup %[.frz (.call 34 %[.idx @0 @(4),@2,|@3]),|.idx @0 @(5)])) A (M++L)=.ok l (M++L):=by
   have s1:aq (Cn pg (n+1+1+1+1+1+1+1+1+1)) (.slc @0 .none (.some @(4))) A (M++L)=.ok (.tup [bE ks,bE rl,bE lm,.int af]) (M++L):=by
    erw[A,fK,aH,jx,f9,bh,fC,fD,fE,fF,ay,dW];rfl
   have s2:aq (Cn pg (n+1+1+1+1+1+1+1+1+1)) (.frz (.call 34 %[.idx @0 @(4),@2,|@3])) A (M++L)=.ok (.fz ((cC ps j v K J).map aO)) (M++L):=vN (by
    erw[A,bK,av,aF,bN,aH,bh,fC,fD,fE,fF,ay,i4,ye S g B s]) rfl V (by simp[aM,dQ])
   rw[cZ,s1];erw[ay,bZ,av,s2];erw[A,bN,aH,bh,fC,fD,fE,fF,ay,aF,i5];rw[Rf 'm'];erw[ay];rw[OZ 'm'];rfl
  have Q:∀{x t':Nat} {Z:D.Loc} {F:Mem} {qs:List (List Pt)},(aq (Cn pg (n+1+1+1+1+1+1+1+1+1)) (.var x) Z F=.ok (.ref t') F)->Cm F->F[t']?=some (NI ks rl lm af qs ts)->aq (Cn pg (n+1+1+1+1+1+1+1+1+1)) (.frz (.call 31 %[|.var x])) Z F=.ok (aV ks rl lm af qs ts) F:=λ hx u hg=>vN (by
   rw[bK,av,hx];erw[ay,aF,shown u hg]) rfl u yd
  have n5:bq (Cn pg (n+1+1+1+1+1+1+1+1+1)) (.cmp .NotEq (.frz (.call 31 %[|@4])) @5) f (M++L)=.ok false (M++L):=by
   rw[bO,Q (t':=t) rfl V gt];erw[f,ay,aH,fC,fD,fE,fF,aE,l,qb gs.bf];rfl
  let k:Mem:=[.lst []]
  let G:Mem:=[.lst (ts.map tupI++[.int 0])]
  have QN:Cm (M++L++k):=V.push rfl;have X:Cm (M++L++k++G):=QN.push (bw _ (by rw[FO,jg];rfl));have x1:bu (Cn pg (n+1+1+1+1+1+1+1+1+1)) (.expr (.meth (.mth @4 "pieces" .nil) "clear" .nil)) f (M++L)=.ok (.nx f) (M++L++k):=jb (w:=.non) (by
   have I:(M++L++[O.lst ((cC ps j v K J).map aO)])[(M++L).length]?=some (.lst ((cC ps j v K J).map aO)):=by simp
   rw[cL,se (a:=.var 4) (Z:=f) rfl gt];erw[ay];rw[Rf (by rw[p8 I];decide),aF];erw[ay,bQ,I,ee];rw[Ri 'd',Rf trivial];erw[oY];rw[Ua _ _ (Q7 _),Nat.sub_self];rfl)
  have x2:bu (Cn pg (n+1+1+1+1+1+1+1+1+1)) (.expr (.meth (.mth @4 "times" .nil) "append" %[|@(0)])) f (M++L++k)=.ok (.nx f) (M++L++k++G):=jb (w:=.non) (by
   have I:(M++L++k++[O.lst (ts.map tupI)])[(M++L++k).length]?=some (.lst (ts.map tupI)):=by simp
   have tl:(ts.map tupI).length<lim:=by
    have:=g.g.nt;have:=g.g.r;rw[Rn];erw[lim];omega
   rw[cL,p9 (a:=.var 4) (Z:=f) rfl (cz gt)];erw[ay];rw[Rf (by rw[p8 I];decide),av,bh];erw[ay,aF,bQ,I,ee];rw[Rf trivial];erw[lA];rw[Rf tl,Ua _ _ (Q7 _),Nat.sub_self];rfl)
  have x3:aq (Cn pg (n+1+1+1+1+1+1+1+1+1)) (.and (.cmp .Eq (.frz (.call 31 %[|@4])) @5) (.cmp .Eq (.frz (.call 31 %[|@1])) @0)) f (M++L++k++G)=.ok (.bl true) (M++L++k++G):=by
   rw[dM,gp,Q (t':=t) rfl X (cz (cz gt))];erw[f,ay,aH,fC,fD,fE,fF,aE,l,qb gs.bf,D.truthy,RQ];rw[gp,Q (t':=q) rfl X (cz (cz (cz T)))];erw[ay,aH,fC,fD,fE,fF,aE,qb g.bf]
  refine⟨L++k++G,ex ?_,by rw[<-Rt,<-Rt];exact X⟩;rw[MU,aj (by rw[eE N,aI]),aj (El ar e)];show aD _ _ A (M++L)=_;rw[aj (Z1:=f) (aQ d5 rfl),aj (by rw[eE n5,aI]),aj x1,aj x2,aL (bz x3),<-Rt,<-Rt]
 .have u:=hn j B rfl;rw[u] at N;let⟨L,e,c⟩:=mq (n:=n) (i:=j) hm S T g hn;refine⟨L,ex ?_,c⟩;rw[MU];refine aL ?_;rw[fP N];refine aL (bz ?_);rw[bK,ar];erw[ay,e]
end
section
variable{M m:Mem}{n p q:Nat}{ks rl lm:List Str}{af:Nat}{ps:List (List Pt)}{ts:List (List Int)}
theorem BC{A B:Int}(f:Cm m)(h:aq C e Z m=.ok (.tup [bE ks,bE rl,bE lm,.int af,.ref m.length,.fz (ts.map tupI)]) (MG m p A B [.lst (ps.map aO)])) :
  aq C (.frz e) Z m=.ok (aV ks rl lm af ps ts) (MG m p A B []):=by
 have a:(MG m p A B []).length=m.length:=by rw[MG.len];rfl
 refine ud (l:=[.lst (ps.map aO)]) (by rw[MG.app];exact h) a (MG.cm f 's') ?_;have g:(MG m p A B []++[.lst (ps.map aO)])[m.length]?=some (.lst (ps.map aO)):=by rw[MG.app];exact MG.at_ 0
 erw[mz,fX,CP,a,g,bV _ (bG ks),bV _ (bG rl),bV _ (bG lm),bV _ (dQ ps),bV _ (jg ts),S2,SQ,Rz]
theorem beyond(k:lV M p)(J:Cm M)(U:ps.length<=100)(t:∀M,aq (Cn pg (n+1)) @2 Z M=.ok (.ref p) M)(B:∀M,aq (Cn pg (n+1)) @3 Z M=.ok (aV ks rl lm af ps ts) M) :
  ∃(i:Int) (A:Mem),aq (Cn pg (n+1)) (.idx (.frz (.lst %[.bin .Sub (.neg @(1)) (.call 25 %[@2,|@(40)]),|.bin .Add (.blt .len %[|.idx @3 @(4)]) (.call 25 %[@2,|.bin .Pow @(10) @(6)])])) (.call 25 %[@2,|@(2)])) Z M=.ok (.int i) A/\PS p M A/\∀j:Nat,j<ps.length->i≠j:=by
 let⟨s,V,O,x,T⟩:=draw (n:=n) (many:=40) k 'd' 'd';let⟨o,Q,N,F,S⟩:=draw (n:=n) (many:=1000000) (x.iA k) 'd' 'd';have a:=x.trans F;let⟨l,g,L,u,R⟩:=draw (n:=n) (many:=2) (a.iA k) 'd' 'd';have I:∀M,aY (aV ks rl lm af ps ts) (.int 4) M=.ok (.fz (ps.map aO)) M:=λ M=>rfl;have H:∀M,bA .len [.fz (ps.map aO)] M=.ok (.int ps.length) M:=λ M=>by
  have:=bX (m:=M) (w:=.fz (ps.map aO)) rfl;rw[Rn] at this;exact this
 have P:∀M,binop .Pow (.int 10) (.int 6) M=.ok (.int 1000000) M:=λ M=>rfl;have G:∀M,aq (Cn pg (n+1)) (.neg @(1)) Z M=.ok (.int (-1)) M:=λ M=>rfl;have K:aq (Cn pg (n+1)) (.frz (.lst %[.bin .Sub (.neg @(1)) (.call 25 %[@2,|@(40)]),|.bin .Add (.blt .len %[|.idx @3 @(4)]) (.call 25 %[@2,|.bin .Pow @(10) @(6)])])) Z M=.ok (.fz [.int (-1 - s),.int (ps.length+o)]) Q:=by
  refine bD ?_ a.len (a.cm J) rfl;erw[dX,av,aF,cZ,G,bK,t,B,bh,ay,O,Bv,cU,bN,I,H,P,N,rY];rw[Rf 'm'];rfl
 have f:∀i,aY (.fz [.int (-1 - s),.int (ps.length+o)]) (.int l) g=.ok (.int i) g->aq (Cn pg (n+1)) (.idx (.frz (.lst %[.bin .Sub (.neg @(1)) (.call 25 %[@2,|@(40)]),|.bin .Add (.blt .len %[|.idx @3 @(4)]) (.call 25 %[@2,|.bin .Pow @(10) @(6)])])) (.call 25 %[@2,|@(2)])) Z M=.ok (.int i) g:=λ i h=>by
  rw[bN,K];erw[ay,bK,av,aF,t,bh,L,h]
 rcases (show l=0\/l=1 by omega) with rfl | rfl
 .exact⟨-1 - s,g,f _ rfl,a.trans u,λ j _=>by omega⟩
 .exact⟨ps.length+o,g,f _ rfl,a.trans u,λ j _=>by omega⟩
theorem Jf(x:lV M p)(l:Cm M)(t:∀M,aq (Cn pg (n+1)) @2 Z M=.ok (.ref p) M) :
  ∃(vs:List Str) (s:Mem),dR (Cn pg (n+1)) (.frz (.fus .stp (.tup %[.frz (.lst %[@"made",|@"open"]),|.bin .Sub @(1) (.bin .Mult @(2) (.call 25 %[@2,|@(2)]))]))) Z M=.ok (.tup (vs.map .str)) s/\PS p M s/\∀v∈vs,Sm v:=by
 let⟨d,a,F,g,G⟩:=draw (n:=n) (many:=2) x 'd' 'd';have B:=rZ (C:=Cn pg (n+1)) (Z:=Z) (es:=.cons @"made" %[|@"open"]) (xs:=(["made","open"]:List Str).map .str) l rfl (bG _) 'm';have u:∀M,binop .Mult (.int 2) (.int (d:Nat)) M=.ok (.int (2*d)) M:=λ M=>by
  have:iu 2 d=true:=by simp[iu]
  erw[binop,this,RQ]
 have o:∀(vs:List Str) (k:Int),(1:Int) - 2*d=k->zb (.tup [.fz ((["made","open"]:List Str).map .str),.int k]) a=.ok (.ref a.length) (a++[.lst (vs.map .str)])->dR (Cn pg (n+1)) (.frz (.fus .stp (.tup %[.frz (.lst %[@"made",|@"open"]),|.bin .Sub @(1) (.bin .Mult @(2) (.call 25 %[@2,|@(2)]))]))) Z M=.ok (.tup (vs.map .str)) a:=λ vs k A h=>by
  have:=bD (C:=Cn pg (n+1)) (e:=.fus .stp (.tup %[.frz (.lst %[@"made",|@"open"]),|.bin .Sub @(1) (.bin .Mult @(2) (.call 25 %[@2,|@(2)]))])) (Z:=Z) (m:=M) (m0:=a) (xs:=vs.map .str) (by
   rw[bT,bZ,av,B];erw[ay,av,aF,cZ,bh,bK,t,F,u,Bv,A];rw[Rf 'm'];erw[ay,ck];exact h) g.len (g.cm l) (bG _)
  rw[zj,this];rfl
 rcases (show d=0\/d=1 by omega) with rfl | rfl
 .exact⟨["made","open"],a,o _ 1 rfl rfl,g,λ v f=>by
   erw[RM,Rx,R0] at f;rcases f with rfl | rfl<;>decide +kernel⟩
 .exact⟨["open","made"],a,o _ (-1) rfl rfl,g,λ v f=>by
   erw[RM,Rx,R0] at f;rcases f with rfl | rfl<;>decide +kernel⟩
abbrev tL(w0 w1:W)(p q:Nat)(a:W)(i:Int)(f o7:Option W):D.Loc:=[some w0,some w1,@(.ref p),some a,@(.ref q),@(.int i),f,o7]
theorem asked{w0 w1:W}{i:Int}(H:Cm M)(s:Sm v)(u:M[q]?=@(NI ks rl lm af ps ts))(g:jQ ks rl lm af ps ts)(hi:∀j:Nat,j<ps.length->i≠j) :
  ∃(L:Mem) (f:Option W),aD (Cn pg (n+1+1+1+1+1+1+1+1+1+1)) Bp (tL w0 w1 p q (aV ks rl lm af ps ts) i @(.str v) o7) M=.ok (.nx (tL w0 w1 p q (aV ks rl lm af ps ts) i @(.str v) f)) (M++L)/\Cm (M++L):=by
 let⟨a,N,P⟩:=mq (n:=n+1) (i:=i) H s u g (λ j h e=>absurd e (hi j h));have B:bq (Cn pg (n+1+1+1+1+1+1+1+1+1+1)) (.not (.call 33 %[@4,@5,|@6])) (tL w0 w1 p q (aV ks rl lm af ps ts) i @(.str v) o7) M=.ok false (M++a):=by
  rw[dN];erw[nv,ny,nA,nB,nE,nF,nG,nH,gE,lE,nJ,jr,jt,ju,iR,nK,nL,jv,nM,jw,jZ,iF,dN,bO,eU,lH,bK,av,aF,aH,fC,fD,fE,fF,ay,N,D.truthy];rfl
 have F:bA .len [.fz (ps.map aO)] (M++a)=.ok (.int ps.length) (M++a):=by
  have:=bX (m:=M++a) (w:=.fz (ps.map aO)) rfl;rw[Rn] at this;exact this
 have G:∀M,aY (aV ks rl lm af ps ts) (.int 4) M=.ok (.fz (ps.map aO)) M:=λ M=>rfl;have J:dR (Cn pg (n+1+1+1+1+1+1+1+1+1+1)) (.rng (.blt .len %[|.idx @3 @(4)])) (tL w0 w1 p q (aV ks rl lm af ps ts) i (some (.str v)) o7) (M++a)=.ok (.rng 0 ps.length) (M++a):=Bc (by erw[cU,av,aF,bN,aH,bh,fC,fD,fE,fF,ay,G,F]) (by have:=g.l;omega);let⟨x,k,I,⟨f,rfl⟩,L,rfl,c⟩:=kK (t:=.var 7) (b:=FU) (n:=ps.length) J rfl (λ j r k=>(∃f,r=tL w0 w1 p q (aV ks rl lm af ps ts) i @(.str v) f)/\∃L,k=M++L/\Cm (M++L)) ⟨⟨_,rfl⟩,a,rfl,P⟩ (λ j r k h=>by
   rintro⟨⟨f,rfl⟩,L,rfl,c⟩;let⟨o,K,O⟩:=right (n:=n) c s (cz u) g h;refine⟨.int j,tL w0 w1 p q (aV ks rl lm af ps ts) i @(.str v) @(.int j),tL w0 w1 p q (aV ks rl lm af ps ts) i @(.str v) @(.int j),M++L++o,by rw[eF h];simp,rfl,.inl ?_,⟨_,rfl⟩,L++o,by rw[Rt],by rw[<-Rt];exact O⟩;have A:bq (Cn pg (n+1+1+1+1+1+1+1+1+1+1)) (.not (.call 35 %[@3,@4,@7,|@6])) (tL w0 w1 p q (aV ks rl lm af ps ts) i @(.str v) @(.int j)) (M++L)=.ok false (M++L++o):=by
    rw[dN];erw[nv,ny,nA,nB,nE,nF,nG,nH,gE,lE,nJ,jr,jt,ju,iR,nK,nL,jv,nM,jw,jZ,iF,dN,bO,eU,lH,bK,av,aF,aH,fC,fD,fE,fF,ay,K,D.truthy];rfl
   exact(aj ((eE A).trans rfl)).trans rfl) (λ r k _=>eX (by omega))
 exact⟨L,f,(aj ((eE B).trans rfl)).trans ((aj I).trans rfl),c⟩
end
section
variable{m:Mem}{n k:Nat}{ns:List Int}
theorem Em{c:Str}{Z1:D.Loc}{ws:List W}(h:aS (Cn p n) es Z m=.ok ws m1)(a:D.bL p n i (.ref m1.length::ws) (m1++[.ins c []])=.ok (.nx Z1) m2):bu (Cn p n) (.xc (.asg (.pt (.var j))) (some c) i es) Z m=.ok (.nx (Z.set j @(.ref m1.length))) m2:=by
 rw[Bb h a];rfl
theorem turn{o2 o3 o4 O K:Option W}(hm:Cm m)(hk:k<100):∃o2' o3' o4' Y F G m',aD (Cn pg (n+1+1+1+1+1+1+1+1+1+1)) vZ [@(.fz (ns.map .int)),@(.int k),o2,o3,o4,O,K,o7] m=.ok (.nx [@(.fz (ns.map .int)),@(.int k),o2',o3',o4',Y,F,G]) m'/\Cm m':=by
 let w0:W:=.fz (ns.map .int)
 let w1:W:=.int k
 let⟨U,T,e1⟩:=O1 (n:=n+1+1+1+1+1+1+1+1+1) (m:=m) (ns:=ns) hk;have I:Cm (m++[iA U T]):=hm.push rfl;have P:lV (m++[iA U T]) m.length:=⟨U,T,by simp⟩;let⟨x,f,u,af,s,a,A,B,e2,g⟩:=O7 (n:=n+1+1+1+1+1+1) P I;generalize Js:m++[iA U T]=J at *;have QS:m.length<J.length:=P.lt
 let p:=m.length
 have e3:aq (Cn pg (n+1+1+1+1+1+1+1+1+1+1)) (.frz (.call 30 %[|@2])) [some w0,some w1,@(.ref p),o3,o4,O,K,o7] J=.ok (aV x f u af s a) (MG J p A B []):=BC I (by
  erw[bK,av,aF,aH,fC,fD,fE,fF,ay];exact e2)
 have c2:Cm (MG J p A B []):=MG.cm I 's';have p2:lV (MG J p A B []) p:=MG.iA QS;generalize MG J p A B []=M2 at *
 let H:Mem:=[.lst (x.map .str),.lst (f.map .str),.lst (u.map .str),.lst (s.map aO),.lst (a.map tupI)]
 have c5:Cm (M2++H):=c2.app λ o ho=>by
  erw[H,RM,Rx,R0] at ho;rcases ho with rfl | rfl | rfl | rfl | rfl
  .exact bw _ (bG _)
  .exact bw _ (bG _)
  .exact bw _ (bG _)
  .exact bw _ (dQ _)
  .exact bw _ (jg _)
 have Q:∀(i:Nat),(M2++H)[M2.length+i]?=H[i]?:=λ i=>by
  rw[Rp (by omega),SJ]
 have hf:Hf (M2++H) M2.length (M2.length+1) (M2.length+2) (M2.length+3) (M2.length+4) x f u s a:=⟨Q 0,Q 1,Q 2,Q 3,Q 4⟩;let⟨L,Zi,e4,c4,hq⟩:=we (n:=n+1+1+1+1) c5 hf g
 let q:=(M2++H).length
 let Z3:D.Loc:=[some w0,some w1,@(.ref p),@(aV x f u af s a),o4,O,K,o7]
 have N:∀(i:Nat) (M:Mem) (h:i<6),aY (aV x f u af s a) (.int i) M=.ok ([bE x,bE f,bE u,.int af,.fz (s.map aO),.fz (a.map tupI)][i]'(~~~h)) M:=λ i M h=>bY rfl (~~~h);have x0:∀M,aY (aV x f u af s a) (.int 0) M=.ok (bE x) M:=λ M=>N 0 M 'd';have x1:∀M,aY (aV x f u af s a) (.int 1) M=.ok (bE f) M:=λ M=>N 1 M 'd';have x2:∀M,aY (aV x f u af s a) (.int 2) M=.ok (bE u) M:=λ M=>N 2 M 'd';have x3:∀M,aY (aV x f u af s a) (.int 3) M=.ok (.int af) M:=λ M=>N 3 M 'd';have x4:∀M,aY (aV x f u af s a) (.int 4) M=.ok (.fz (s.map aO)) M:=λ M=>N 4 M 'd';have x5:∀M,aY (aV x f u af s a) (.int 5) M=.ok (.fz (a.map tupI)) M:=λ M=>N 5 M 'd';have nl:∀(xs:List W) (M:Mem),bA .list [.fz xs] M=.ok (.ref M.length) (M++[.lst xs]):=λ xs M=>rfl;have ar:aS (Cn pg (n+1+1+1+1+1+1+1+1+1+1)) %[.blt .list %[|.idx @3 @(0)],.blt .list %[|.idx @3 @(1)],.blt .list %[|.idx @3 @(2)],.idx @3 @(3),.blt .list %[|.idx @3 @(4)],|.blt .list %[|.idx @3 @(5)]] Z3 M2=.ok [.ref M2.length,.ref (M2.length+1),.ref (M2.length+2),.int af,.ref (M2.length+3),.ref (M2.length+4)] (M2++H):=by
  erw[Z3,av,aF,cU,bN,aH,bh,fC,fD,fE,fF,ay,x0,x1,x2,x3,x4,x5,nl,Rt,Ru,RD,Uv];rfl
 have s4:=Em (j:=4) ar e4;generalize hM4:M2++H++L=M4 at *;have p4:lV M4 p:=by rw[<-hM4,Rt];exact p2.app
 have QT:p≠q:=by
  have:=p2.lt;erw[q,Ru];omega
 let Z4:D.Loc:=[some w0,some w1,@(.ref p),@(aV x f u af s a),@(.ref q),O,K,o7]
 let⟨i,M5,e5,X,hi⟩:=beyond (n:=n+1+1+1+1+1+1+1+1+1) (Z:=Z4) p4 c4 g.l (λ _=>rfl) (λ _=>rfl)
 let Z5:D.Loc:=tL w0 w1 p q (aV x f u af s a) i K o7
 let⟨V,R,e6,s6,hvs⟩:=Jf (n:=n+1+1+1+1+1+1+1+1+1) (Z:=Z5) (X.iA p4) (X.cm c4) (λ _=>rfl);have P9:=X.trans s6;have c6:=P9.cm c4;have QU:R[q]?=some (NI x f u af s a):=by rw[P9.ne QT];exact hq
 let⟨ρ',S,hfr,⟨F,G,rfl⟩,L6,rfl,c7⟩:=kK (C:=Cn pg (n+1+1+1+1+1+1+1+1+1+1)) (t:=.var 6) (b:=Bp) (n:=V.length) e6 (by simp[Src.len]) (λ j r S=>(∃F G,r=tL w0 w1 p q (aV x f u af s a) i F G)/\∃L,S=R++L/\Cm (R++L)) ⟨⟨_,_,rfl⟩,[],by simp,by rw[R6];exact c6⟩ (λ j r S hj=>by
   rintro⟨⟨F,G,rfl⟩,L,rfl,c⟩;let⟨L1,o7'',h,c1⟩:=asked (n:=n) (w0:=w0) (w1:=w1) (p:=p) (o7:=G) c (hvs _ (RK hj)) (cz QU) g hi;exact⟨.str V[j],tL w0 w1 p q (aV x f u af s a) i @(.str V[j]) G,_,_,by rw[bg (~~~hj),Sx],rfl,.inl h,⟨_,_,rfl⟩,L++L1,by rw[Rt],by rw[<-Rt];exact c1⟩) (λ r S _=>aR 's')
 refine⟨some (.ref p),@(aV x f u af s a),@(.ref q),@(.int i),F,G,R++L6,?_,c7⟩;rw[vZ,aj (Z1:=[some w0,some w1,@(.ref p),o3,o4,O,K,o7]) (m1:=J) (aQ (by erw[bK,av,aF,aH,fC,fD,fE,fF,ay];exact e1) rfl),aj (Z1:=Z3) (aQ e3 rfl),aj s4];show aD _ _ Z4 M4=_;rw[aj (Z1:=Z5) (aQ e5 rfl),aj hfr];rfl
theorem En:∃g,D.runN pg (n+1+1+1+1+1+1+1+1+1+1+1) 36 [.fz (ns.map .int)] []=.ok (.bl true) g:=by
 obtain⟨f,A,U⟩:∃f:Nat,(if (if (4:Int)<ns.length then (4:Int) else ns.length)>1 then (if (4:Int)<ns.length then (4:Int) else ns.length) else 1)=(f:Int)/\f<=4:=by
  refine⟨(if (if (4:Int)<ns.length then (4:Int) else ns.length)>1 then (if (4:Int)<ns.length then (4:Int) else ns.length) else 1).toNat,?_,?_⟩<;>(split<;>(try split)<;>omega)
 have S:dR (Cn pg (n+1+1+1+1+1+1+1+1+1+1)) (.rng (.blt .max %[@(1),|.blt .min %[.blt .len %[|@0],|@(4)]])) [@(.fz (ns.map .int)),none,none,none,none,none,none,none] []=.ok (.rng 0 f) []:=by
  refine Bc ?_ (by omega);have O:bA .len [.fz (ns.map .int)] []=.ok (.int ns.length) []:=by rw[bX rfl,Rn]
  have N:∀a b M,bA .min [.int a,.int b] M=.ok (.int (if b<a then b else a)) M:=λ _ _ _=>rfl;have L:∀a b M,bA .max [.int a,.int b] M=.ok (.int (if b>a then b else a)) M:=λ _ _ _=>rfl;erw[EWs,O,N,L,A]
 let⟨F,g,R,_,x,u,s,q,o,l,o7,rfl⟩:=kK (t:=.var 1) (b:=vZ) (n:=f) S rfl
  (λ i Z m=>Cm m/\∃x u s q o l o7,Z=[@(.fz (ns.map .int)),x,u,s,q,o,l,o7]) ⟨Cm.nil,_,_,_,_,_,_,_,rfl⟩ (λ i Z m Q=>by
   rintro⟨P,x,u,s,q,o,l,o7,rfl⟩;let⟨K,J,I,H,G,T,g,h,B⟩:=turn (n:=n) (k:=i) P (by omega);exact⟨.int i,[@(.fz (ns.map .int)),@(.int i),u,s,q,o,l,o7],_,g,by rw[eF Q];simp,by simp[aK],.inl h,B,_,_,_,_,_,_,_,rfl⟩)
  (fun Z m _=>eX (by omega))
 refine⟨g,bC rfl rfl ?_⟩;show aD _ OT [@(.fz (ns.map .int)),none,none,none,none,none,none,none] []=_;rw[OT,aj R,aL (bz (w:=.bl true) (m1:=g) (by erw[EVs]))]
end
theorem yf:∀ns:List Int,ns.length<=63->∃a,D.runN pg 40 36 [.fz (ns.map .int)] []=.ok (.bl true) a:=λ ns _=>En
end My
namespace PySem.W.Fast
def tw11594524345737449744:=0
def tw12681045045273999354:=0
def tw14055540771923891065:=0
def tw16236624605864722711:=0
def tw18300706612718417036:=0
def tw1043353661491851961:=0
def tw5708413615222297004:=0
def tw13506847926596070103:=0
def tw2126429802565308843:=0
def tw13628199445242742864:=0
def tw8657566934897387521:=0
def tw4611484732582903494:=0
def tw5684921193184141957:=0
def tw8660868661697385747:=0
def tw11854060140190910605:=0
def tw15948760328850254612:=0
def tw6608683130175598925:=0
def tw15004316089913430645:=0
def tw6158812648467845448:=0
def tw5613012732727149968:=0
def tw17691250456029622742:=0
def tw5316369024901997941:=0
def tw7512619715673612719:=0
def tw5070838603013410942:=0
def tw15571837333124599063:=0
def tw6665385681990838046:=0
def tw11345699708888898925:=0
def tw9270176004425623207:=0
def tw17142919854832932765:=0
def tw11672032067143834973:=0
def tw8452115828030943885:=0
def tw3974022279524728995:=0
def tw5504339055243080252:=0
def tw16162346100252692530:=0
def tw17799405863073963863:=0
def tw14473205398760355283:=0
def tw5394578527525774311:=0
def tw587610677560652179:=0
def tw8776110884094738381:=0
def tw3116015755066815794:=0
def tw9025277508996991781:=0
def tw8383577781362458628:=0
def tw18279340761534467239:=0
def tw3975665661132805273:=0
def tw1440622504127368977:=0
def tw12334708075381788049:=0
def tw13068170230118152216:=0
def tw2019156524288687944:=0
def tw8197820666967063302:=0
def tw15065954877820897966:=0
def tw17897135728595028370:=0
def tw18252118633509190650:=0
def tw646716982069839354:=0
def tw16240196981519603691:=0
def tw13700440476413093712:=0
def tw17089186059189741877:=0
def tw2173566968581943491:=0
def tw5555254758127812017:=0
def tw10031572783254887537:=0
def tw13943474035788082103:=0
def tw5004610640624835499:=0
def tw17842808937006440388:=0
def tw2789605519054582201:=0
def tw15718096817693440128:=0
def tw9806478137209808971:=0
def tw5188186733628071490:=0
def tw11619281842719966172:=0
def tw8594604897324534258:=0
def tw3109687628432630895:=0
def tw3085741226114530886:=0
def tw11825970659068456172:=0
def tw2662634303705705516:=0
def tw16401523402334808560:=0
def tw1265154308587129727:=0
def tw17948231047971341023:=0
def tw4918388885418028098:=0
def tw1664330957228393976:=0
def tw13079792504078026954:=0
def tw11200346640954306515:=0
def tw8298626082150738459:=0
def tw17703918635561428373:=0
def tw17065286819041219782:=0
def tw282567546651736627:=0
def tw8679840764202322566:=0
def tw13792415038800081415:=0
def tw16118215635142376227:=0
def tw9665595410498258071:=0
def tw18262535931004675523:=0
def tw1198300411252757438:=0
def tw9580149535440805988:=0
def tw10377694100901166605:=0
def tw1399704873216625180:=0
def tw12589394134428279286:=0
def tw12351793324282902472:=0
def tw4949584725389108859:=0
def tw6295990131534760176:=0
def tw2786940775762921938:=0
def tw12931292280843656021:=0
def tw9509306327798406891:=0
def tw15520900072488533490:=0
def tw7108748410815404231:=0
end PySem.W.Fast
section
open PySem PySem.W PyProof.Rows My List
theorem PySem.Challenge.cw_relayholds_k84_stuck_nets_holds : PySem.Challenge.rw_relayholds_k84_stuck_nets.Holds := by
 refine PySem.W.holds_law My.Qd λ said=>?_
 o_head (PySem.W.kHook My.kk My.ka (λ _=>by kernel_rfl))
 (case hw=>w_witness2)
 k_fill
 refine D.AZ (l:=PySem.Challenge.rw_relayholds_k84_stuck_nets) (p:=My.pg) (i:=36) (x:="_law_script") rfl rfl (λ w h Y=>PySem.W.kIn_of Y) ?F My.yf
 case F=>
  intro w mg fa h KX G hmg
  exact D.L4 (t:=My.tf 57) KX G hmg My.stat rfl rfl (by kernel_rfl) (by kernel_rfl) (by kernel_rfl) (by kernel_rfl)
end
end
